import PyProof.Rows.All
import Wide.All
import OpenK.AllK
import Wide.FinOn
import KE.GoesEnum
import HandS.ForMost
import HandS.Walk
import KE.KRevSl
import PyProof.ReprReads
import PyProof.ReprRoads
import HandS.IsInst
import HandS.Defaults
import HandS.TupAny
import HandS.TupMul
import HandS.Conv
import HandS.Zip
import KE.KMathGC
import KE.KDictKeyed
import KE.KDictDisplayH
import KE.KDictCopyH
import KE.KDictWalk
import KE.KDictList
import PyProof.ReprLen
import PySem.Challenge.RW_keyriders_k22_whole_kinds_by_their_sum
set_option Elab.async false
set_option linter.all false
set_option maxRecDepth 100000
set_option maxHeartbeats 4000000
namespace Kr
open PySem PySem.Spec PyProof.Rows L2
open AutoSeq1 (wpAny_loadPart')

theorem enum_new_tup (l : Addr) (items : Array Value) :
    Meets (Builtin.«enumerate.__new__» ⟨[.type "enumerate", .ref l], []⟩) (fun _ R s => s.heap.IsTuple l items ∧
      R (.ok (.ret (.ref (s.heap.push { cls := .type "tuple_iterator", data := .fields #[.ref l, .int 0 0] }).objs.size)))
        { s with heap := (s.heap.push { cls := .type "tuple_iterator", data := .fields #[.ref l, .int 0 0] }).push { cls := .type "enumerate", data := .fields #[.none, .bool false, .ref s.heap.objs.size, rawInt 0, .none, .none] } }) :=
  .of_wp fun prog w A R s h => by
    obtain ⟨hp, g, d, tk, os⟩ := s
    obtain ⟨hL, h⟩ := h
    have hsub := sub_enumerate
    wp_walk using wpAny_pyIter_tuple hL
    refine wpAny_stack_any fun st => wpAny_pure ?_
    split
    · rename_i c _ _ _ _ _
      cases (c == Value.type "enumerate")
      all_goals
        wp_walk using wpAny_pyIter_tuple hL
        exact ⟨_, rfl, h⟩
    · wp_walk using wpAny_pyIter_tuple hL
      exact ⟨_, rfl, h⟩

section
variable {prog : Program} {w : World} {A : Around} {E : Value → Shared → Prop} {s : Shared}
theorem enum_call_tup {l : Addr} {items : Array Value} {Q : Value → Shared → Prop} (hL : s.heap.IsTuple l items)
    (h : ∀ h', IsEnum h' (s.heap.objs.size + 1) s.heap.objs.size 0 .none → h'.IsTupleIter s.heap.objs.size l 0 → h'.objs.size = s.heap.objs.size + 2 →
      (∀ b o, s.heap.get? b = some o → h'.get? b = some o) → Q (.ref (s.heap.objs.size + 1)) { s with heap := h' }) :
    wpAny (model prog w) A (call (.type "enumerate") [.ref l]) Q E s := by
  refine callType_new F.called_enumerate (by decide) (F.typeCall_enumerate_1 _) (F.newCall_enumerate_1 _) (fun obj => F.args_object_init_2 obj _) F.entry_enumerate_new
    (enum_new_tup l items) ⟨hL, ?_⟩
  generalize hh1 : s.heap.push { cls := .type "tuple_iterator", data := .fields #[.ref l, .int 0 0] } = h1
  have hz : h1.objs.size = s.heap.objs.size + 1 := by rw [← hh1]; exact Heap.size_push ..
  have g1 : h1.get? s.heap.objs.size = some { cls := .type "tuple_iterator", data := .fields #[.ref l, .int 0 0] } := by rw [← hh1]; exact Heap.get?_push_size _ rfl
  have k1 : ∀ b o, s.heap.get? b = some o → h1.get? b = some o := fun b o e => by rw [← hh1]; exact Heap.get?_push_of_some _ e
  have he : IsEnum (h1.push { cls := .type "enumerate", data := .fields #[.none, .bool false, .ref s.heap.objs.size, rawInt 0, .none, .none] }) (s.heap.objs.size + 1) s.heap.objs.size 0 .none := by
    have q := Heap.get?_push_size h1 (o := { cls := .type "enumerate", data := .fields #[.none, .bool false, .ref s.heap.objs.size, rawInt 0, .none, .none] }) rfl
    rw [hz] at q
    exact q
  show _ ∧ _
  rw [hz]
  exact ⟨⟨_, he, rfl⟩, h _ he ⟨_, Heap.get?_push_of_some _ g1, rfl, rfl⟩ (by rw [Heap.size_push, hz]) fun b o x => Heap.get?_push_of_some _ (k1 b o x)⟩
end

/-- the tuple at a, each item in a new pair -/
def Itet (K : PySem.W.Frag) (a : Addr) : It :=
  ⟨fun i H => ∃ (xs : List V) (x : V), SqT K H a xs ∧ xs[i]? = some x,
    fun i H v H' => ∃ T x, v = .ref T ∧ H T = none ∧ H' = upd H T (.tup [.int (i : Nat), x]) ∧ ∀ xs, SqT K H a xs → xs[i]? = some x,
    fun i H => ∃ xs : List V, SqT K H a xs ∧ xs.length = i⟩
theorem tup_ne {h : Heap} {a it : Addr} {items : Array Value} {o : Obj} (p : IsTup h a items) (ho : h.get? it = some o) (hc : o.cls ≠ .type "tuple") : a ≠ it := fun z => by
  obtain ⟨u, hu, hcu, _⟩ := p
  rw [z, ho] at hu
  cases hu
  exact hc hcu
theorem turn_enumT {P : Program} {w : World} {K : PySem.W.Frag} {elts : List Expr} {kk : Nat} {tpos : Pos} (a e it : Addr) :
    Turn P w K (.Tuple elts kk tpos) (Itet K a) [e, it] e (fun i h => (∃ old, IsEnum h e it ((i : Nat) : Int) old) ∧ h.IsTupleIter it a i ∧ e ≠ it) where
  mem := by simp
  obj := fun i h st b hb => by
    obtain ⟨⟨old, he⟩, ⟨o, ho, hc, hd⟩, _⟩ := st
    rcases (show b = e ∨ b = it by simpa using hb) with z | z
    · rw [z]; exact ⟨_, he, fun v q => nomatch q⟩
    · rw [z]; exact ⟨o, ho, fun v q => by rw [hd] at q; cases q⟩
  keep := fun i h h' st k => let ⟨⟨old, he⟩, hi, hne⟩ := st; ⟨⟨old, k e (by simp) _ he⟩, hi.at fun o q => k it (by simp) o q, hne⟩
  item := by
    intro X hP hw hK hc i pins s σ H E I hf st hg
    subst hP hw hK
    obtain ⟨⟨old, he⟩, hit, hne⟩ := st
    obtain ⟨xs, x, hq, hx⟩ := hg
    obtain ⟨its, rv, p, hz⟩ := I.tuple hq
    obtain ⟨u, hu, ru⟩ := rv.get hx
    have hel : e < s.heap.objs.size := Heap.lt_size he
    have hil : it < s.heap.objs.size := by obtain ⟨_, q, _⟩ := hit; exact Heap.lt_size q
    have nai : a ≠ it := by
      obtain ⟨o, ho, hcl, _⟩ := id hit
      exact tup_ne p ho (by rw [hcl]; decide)
    have hlt : i < its.toArray.size := by
      rw [List.size_toArray]
      exact (List.getElem?_eq_some_iff.mp hu).1
    have nea : e ≠ a := fun z => tup_ne p he (by show Value.type "enumerate" ≠ Value.type "tuple"; decide) z.symm
    refine PySem.wpAny_pyNext_enum_itemC (Draws.tuple (A := X.A.in1) (I.ok.hd hc) it a nai its.toArray) he ⟨hit, p⟩ hlt hne (by simp [hne, nea]) fun y h' tk hy ho hst hT hsz hk => ?_
    have ey : y = u := by
      have : its.toArray[i]? = some y := hy
      rw [List.getElem?_toArray, hu] at this
      exact (Option.some.inj this).symm
    subst ey
    refine ⟨_, rfl, wpAny_letOwnedTupleGo_enum (s := { s with heap := h', toks := tk + 1 }) ho fun h'' he' sb => ?_⟩
    have hT2 : h''.get? s.heap.objs.size = some { cls := .type "tuple", data := .seq #[.int i tk, y] } := (sb.2 _ (Nat.ne_of_gt hel)).trans hT
    have new : ObjOk X.prog X.w (upd H s.heap.objs.size (.tup [.int (i : Nat), x])) h'' s.heap.objs.size (.tup [.int (i : Nat), x]) :=
      ⟨by show 2 ≤ sizeLine; decide, [.int i tk, y], .cons ⟨_, rfl⟩ (.cons ru .nil), ⟨_, hT2, rfl, _, rfl⟩⟩
    have I1 : Inv X pins σ (upd H s.heap.objs.size (.tup [.int (i : Nat), x])) { s with heap := h'', toks := tk + 1 } :=
      I.turnedNew (ch := [e, it]) (fun b ob hb q => (sb.2 b (fun z => hb (by simp [z]))).trans (hk b ob (fun z => hb (by simp [z])) (fun z => hb (by simp [z])) q)) hf (Nat.le_refl _) new
    refine ⟨.ref s.heap.objs.size, _, I1, rfl, ⟨_, x, rfl, I.hok.fresh (Nat.le_refl _), rfl, fun ys hy => by rw [I.tuple_inj hy hq]; exact hx⟩, ⟨⟨y, ?_⟩, hst.1.at fun o q => (sb.2 it (Ne.symm hne)).trans q, hne⟩, fun b hb => ?_⟩
    · rw [show ((i + 1 : Nat) : Int) = (i : Int) + 1 by omega]
      exact he'
    · have hb' : b < s.heap.objs.size := by
        rcases (show b = e ∨ b = it by simpa using hb) with z | z
        · rw [z]; exact hel
        · rw [z]; exact hil
      rw [upd_ne (Nat.ne_of_lt hb')]
      exact (hf b hb).1
  done := by
    intro X hP hw hK hc i pins s σ H E I hf st hg
    subst hP hw hK
    obtain ⟨⟨old, he⟩, hit, hne⟩ := st
    obtain ⟨xs, hq, hx⟩ := hg
    obtain ⟨its, rv, p, hz⟩ := I.tuple hq
    obtain ⟨f0, f1, f2, f3, f4, f5⟩ := hf it (by simp)
    have nai : a ≠ it := by
      obtain ⟨o, ho, hcl, _⟩ := id hit
      exact tup_ne p ho (by rw [hcl]; decide)
    have ez : its.toArray.size = i := by
      rw [List.size_toArray, ← rv.length, hx]
    refine PySem.wpAny_pyNext_enum_endD (Draws.tuple (A := X.A.in1) (I.ok.hd hc) it a nai its.toArray) he ?_ fun h' eb => ⟨rfl, I.turned (t' := s.toks) (fun b o hb q => eb b o hb q) f0 f1 f3 f4 f5⟩
    rw [ez]
    exact ⟨hit, p⟩
  self := fun A i s Q E st h => let ⟨⟨_, he⟩, _⟩ := st; wpAny_pyIter_enum he h
def iEnumT (K : PySem.W.Frag) (ta : TA) : TI := fun σ H R => ta σ H fun vs H1 => ∃ a xs, vs = [.ref a] ∧ SqT K H1 a xs ∧ R (Itet K a) H1
theorem pi_enumT {X : Cx} {e : Expr} {ta : TA} {p pos tpos : Pos} {elts : List Expr} {kk : Nat} (hg : Gl X "enumerate") (hm : X.mg "enumerate" = none) (ha : PA X [e] ta) (hs : starEach [e] X.env = [(false, eval e X.env)] := by rfl) :
    PI X (.Tuple elts kk tpos) (.Call (.Name "enumerate" p) [e] [] pos) (iEnumT X.K ta) := by
  refine ⟨fun pins s σ H R I h => Call_ (ld_blt I hg hm boot_enumerate (PyProof.Rows.callWith_type1 (thn (ha.run pos pins s σ H _ I h) fun us s1 ⟨vs, H1, I1, r1, q1⟩ => ?_) hs rfl))⟩
  obtain ⟨a, xs, rfl, hq, q⟩ := q1
  obtain rfl := Vals.ref1 r1
  obtain ⟨its, rv, p', hz⟩ := I1.tuple hq
  refine enum_call_tup p' fun h' he hit hsz hk => wpAny_pyIter_enum he ?_
  have I2 : Inv X pins σ H1 { s1 with heap := h' } := I1.kept (t' := s1.toks) hk
  refine ⟨s1.heap.objs.size + 1, [s1.heap.objs.size + 1, s1.heap.objs.size], _, _, H1, rfl, I2, turn_enumT a (s1.heap.objs.size + 1) s1.heap.objs.size, ⟨⟨.none, he⟩, hit, Nat.succ_ne_self _⟩, fun b hb => ?_, q⟩
  have hle : s1.heap.objs.size ≤ b := by
    rcases (show b = s1.heap.objs.size + 1 ∨ b = s1.heap.objs.size by simpa using hb) with z | z <;> rw [z]
    · exact Nat.le_succ _
    · exact Nat.le_refl _
  exact I1.fpOk hle (I1.hok.fresh hle)

theorem walk_enumT {K : PySem.W.Frag} {a : Addr} {xs : List V} : Walk (Itet K a) xs.length (fun H => SqT K H a xs) (YPair (fun i => some (.int (i : Nat))) (fun i => xs[i]?)) := by
  refine ⟨fun i _ hi q => ⟨xs, xs[i], q, List.getElem?_eq_getElem hi⟩, fun _ q => ⟨xs, q, rfl⟩, fun i H v H' _ q y => ?_⟩
  obtain ⟨T, x, e1, e2, e3, e4⟩ := y
  exact ⟨T, _, x, e1, e2, e3, rfl, e4 xs q⟩
end Kr
namespace Kr
open PySem PySem.Spec PyProof.Rows L2 HT
theorem adj_rev (n : Nat) : Builtin.Slice.sliceAdjust none none (-1) (n : Int) = ((n : Int) - 1, -1) := by
  unfold Builtin.Slice.sliceAdjust
  simp
theorem pla_rev (n : Nat) : Builtin.Slice.slicePlaces ((n : Int) - 1) (-1) (-1) = n := by
  unfold Builtin.Slice.slicePlaces
  simp
  omega
theorem pick_rev (xs : Array Value) : ((List.range xs.size).filterMap fun (m : Nat) => xs[(((xs.size : Nat) : Int) - 1 + (m : Int) * (-1)).toNat]?).toArray = xs.toList.reverse.toArray := by
  have e : (fun (m : Nat) => xs[(((xs.size : Nat) : Int) - 1 + (m : Int) * (-1)).toNat]?) = (fun k => xs[k]?) ∘ fun (m : Nat) => xs.size - 1 - m := by
    funext m
    show _ = xs[xs.size - 1 - m]?
    rw [show (((xs.size : Nat) : Int) - 1 + (m : Int) * (-1)).toNat = xs.size - 1 - m by omega]
  rw [e, ← List.filterMap_map, PySem.W.krv_range, List.filterMap_reverse, PySem.W.krv_all]
section
variable {prog : Program} {w : World} {A : Around} {E : Value → Shared → Prop} {s : Shared}
theorem applied_rev {sl : Addr} {vk : Value} {n : Nat} {Q : Int × Int × Nat → Shared → Prop} (hs : s.heap.IsSliceOf sl .none .none vk) (pk : IsPart vk (some (-1)))
    (h : Q ((n : Int) - 1, -1, n) s) : wpAny (model prog w) A (Builtin.Slice.sliceApplied (.ref sl) (pure (n : Int))) Q E s := by
  obtain ⟨os, hos, hcs, hds⟩ := id hs
  unfold Builtin.Slice.sliceApplied Builtin.Slice.sliceFields
  refine wpAny_bind (wpAny_bind (wpAny_field hos hds (x := .none) rfl (wpAny_bind (wpAny_field hos hds (x := .none) rfl (wpAny_bind (wpAny_field hos hds (x := vk) rfl (wpAny_pure ?_)))))))
  refine wpAny_bind (slicePart_ pk ?_)
  show wpAny _ _ (if ((-1 : Int) == 0) = true then _ else _) _ _ s
  rw [if_neg (by decide)]
  refine wpAny_bind (slicePart_none (wpAny_bind (slicePart_none (wpAny_bind (wpAny_pure ?_)))))
  show wpAny _ _ (match Builtin.Slice.sliceAdjust none none (-1) (n : Int) with | (lo, hi) => pure (lo, (-1 : Int), Builtin.Slice.slicePlaces lo hi (-1))) _ _ s
  rw [adj_rev n]
  show wpAny _ _ (pure ((n : Int) - 1, (-1 : Int), Builtin.Slice.slicePlaces ((n : Int) - 1) (-1) (-1))) _ _ s
  rw [pla_rev]
  exact wpAny_pure h
theorem tuple_rev {t sl : Addr} {items : Array Value} {vk : Value} {Q : Value → Shared → Prop} (ht : IsTup s.heap t items) (hs : s.heap.IsSliceOf sl .none .none vk) (pk : IsPart vk (some (-1)))
    (h : Q (.ref s.heap.objs.size) { s with heap := s.heap.push { cls := .type "tuple", data := .seq items.toList.reverse.toArray } })
    (hsz : items.size ≤ sizeLine) : wpAny (model prog w) A (getItem (.ref t) (.ref sl)) Q E s := by
  have hok : sizeOk (.seq items.toList.reverse.toArray) := by
    show items.toList.reverse.toArray.size ≤ sizeLine
    rw [List.size_toArray, List.length_reverse, Array.length_toList]
    exact hsz
  obtain ⟨os, hos, hcs, hds⟩ := id hs
  have hTs : s.TypeIs (.ref sl) "slice" := ⟨os, hos, hcs⟩
  unfold getItem
  try with_reducible refine wpAny_holding ?_
  first | refine wpAny_bind (wpAny_pure ?_) | skip
  refine wpAny_bind (wpAny_sequenceKey ht.typeIs (by decide) ?_)
  refine wpAny_bind (wpAny_callSpecial?_slot (name := Str.ofString "__getitem__") ht.typeIs PyProof.Rows.slot_tuple_getitem
    (wpAny_call_entry PyProof.Rows.slot_tuple_getitem ht.typeIs entry_tuple_getitem ?_ (args_tuple_getitem _ _)))
  show wpAny _ _ (Builtin.Tuple.tupleItemsOf (.ref t) >>= _) _ _ s
  refine wpAny_bind (tupleItemsOf_ ht (wpAny_bind (wpAny_typeOf hTs ?_)))
  rw [if_pos (by decide)]
  refine wpAny_bind (applied_rev hs pk ?_)
  have hno : ¬ (((((items.size : Nat) : Int) - 1) == 0 && (-1 : Int) == 1 && items.size == items.size) = true) := by
    rw [show ((-1 : Int) == 1) = false by decide, Bool.and_false, Bool.false_and]
    exact Bool.false_ne_true
  show wpAny _ _ (if ((((items.size : Nat) : Int) - 1) == 0 && (-1 : Int) == 1 && items.size == items.size) = true then _ else _) _ _ s
  rw [if_neg hno, pick_rev]
  first
    | exact wpAny_bind (wpAny_bind (m := Builtin.Tuple.tupleExact _) (wpAny_newObj_type (wpAny_pure ⟨_, rfl, wpAny_pure h⟩) hok))
    | exact wpAny_bind (m := Builtin.Tuple.tupleExact _) (wpAny_newObj_type (wpAny_pure ⟨_, rfl, wpAny_pure h⟩) hok)
    | exact wpAny_bind (m := Builtin.Tuple.tupleExact _) (wpAny_newObj_type (wpAny_bind (wpAny_pure (wpAny_pure ⟨_, rfl, wpAny_pure h⟩))) hok)
    | exact wpAny_bind (wpAny_bind (m := Builtin.Tuple.tupleExact _) (wpAny_newObj_type (wpAny_pure (wpAny_pure ⟨_, rfl, wpAny_pure h⟩)) hok))
end
section
variable {X : Cx}
/-- t[::-1] of a tuple -/
def tRevT (K : PySem.W.Frag) (te : TE) : TE := fun σ H Q => te σ H fun x H1 => ∃ a xs, x = .ref a ∧ SqT K H1 a xs ∧ ∀ p, H1 p = none → Q (.ref p) (upd H1 p (.tup xs.reverse))
theorem pe_revT {e : Expr} {te : TE} {k : Nat} {p1 p2 p3 pos : Pos} (he : PE X e te) : PE X (.Subscript e (.Slice none none (some (.UnaryOp .USub (.Constant (.int 1) k p1) p2)) p3) pos) (tRevT X.K te) := by
  refine ⟨fun pins s σ H Q I h => Subscript_ (thn (he.run pins s σ H _ I h) fun v s1 ⟨x, H1, I1, r1, q1⟩ => ?_)⟩
  obtain ⟨a, xs, rfl, hx, q⟩ := q1
  cases r1
  have hst : PO X (some (.UnaryOp .USub (.Constant (.int 1) k p1) p2)) (tPart (tUn (rU fun i => .int (-i)) (tC (.int 1)))) := po_some (pe_un un_neg pe_int)
  refine wpAny_Slice (thn (po_none.run pins s1 σ H1 (fun o H2 => o = none ∧ H2 = H1) I1 ⟨rfl, rfl⟩) fun vl s2 ⟨l, H2, I2, pl, el, e2⟩ => ?_)
  subst el e2
  refine thn (po_none.run pins s2 σ H2 (fun o H3 => o = none ∧ H3 = H2) I2 ⟨rfl, rfl⟩) fun vu s3 ⟨u, H3, I3, pu, eu, e3⟩ => ?_
  subst eu e3
  refine thn (hst.run pins s3 σ H3 (fun o H4 => o = some (-1) ∧ H4 = H3) I3 ⟨1, rfl, -1, rfl, rfl, rfl⟩) fun vs s4 ⟨o, H4, I4, ps, eo, e4⟩ => ?_
  subst eo e4
  cases pl
  cases pu
  have I5 : Inv X pins σ H4 { s4 with heap := s4.heap.push { cls := .type "slice", data := .fields #[.none, .none, vs] } } := I4.kept (t' := s4.toks) fun b ob q => Heap.get?_push_of_some _ q
  obtain ⟨its, r, ht, hz⟩ := I5.tuple hx
  have hlen := r.length
  show wpAny (model X.prog X.w) X.A (subscriptTail e (.Slice none none (some (.UnaryOp .USub (.Constant (.int 1) k p1) p2)) p3) (.ref a) (.ref s4.heap.objs.size)) (EP X pins σ Q) X.xe { s4 with heap := s4.heap.push { cls := .type "slice", data := .fields #[.none, .none, vs] } }
  refine tail_any (ops := [.ref a, .ref s4.heap.objs.size]) ht.typeIs (PyProof.Rows.slot_tuple_getitem.lookup) ?_ (by with_unfolding_all rfl)
  refine tuple_rev ht (Heap.IsSliceOf.new _ .none .none vs) ps ?_ (by rw [List.size_toArray]; omega)
  refine ⟨.ref _, _, I5.laid (t' := s4.toks) (o := .tup xs.reverse) (fun b ob q => Heap.get?_push_of_some _ q) (Nat.le_refl _) ?_, rfl, q _ (I5.hok.fresh (Nat.le_refl _))⟩
  exact ⟨by rw [List.length_reverse]; exact hz, _, r.reverse, IsTup.new _ _⟩
end
end Kr
namespace Kr
open PySem PySem.Spec PyProof.Rows L2
/-! ### data over the abstract heap: None, bools, ints, texts, lists, tuples, {} -/
mutual
inductive Dq (H : Hp) : V → PyData → Prop
  | non : Dq H .non .none
  | bl (b : Bool) : Dq H (.bl b) (.bool b)
  | int (i : Int) : Dq H (.int i) (.int i)
  | str (x : Str) : Dq H (.str x) (.str x)
  | lst {a : Addr} {xs : List V} {ds : List PyData} (e : H a = some (.lst xs)) (q : DqA H xs ds) : Dq H (.ref a) (.list ds)
  | tup {a : Addr} {xs : List V} {ds : List PyData} (e : H a = some (.tup xs)) (q : DqA H xs ds) : Dq H (.ref a) (.tuple ds)
  | dic {a : Addr} (e : H a = some (.dK [])) : Dq H (.ref a) (.dict [])
inductive DqA (H : Hp) : List V → List PyData → Prop
  | nil : DqA H [] []
  | cons {v : V} {vs : List V} {d : PyData} {ds : List PyData} (h : Dq H v d) (t : DqA H vs ds) : DqA H (v :: vs) (d :: ds)
end
mutual
theorem Dq.up {H H' : Hp} (s : Same H H') : ∀ {v : V} {d : PyData}, Dq H v d → Dq H' v d
  | _, _, .non => .non
  | _, _, .bl b => .bl b
  | _, _, .int i => .int i
  | _, _, .str x => .str x
  | _, _, .lst e q => .lst (s _ _ e) (DqA.up s q)
  | _, _, .tup e q => .tup (s _ _ e) (DqA.up s q)
  | _, _, .dic e => .dic (s _ _ e)
theorem DqA.up {H H' : Hp} (s : Same H H') : ∀ {vs : List V} {ds : List PyData}, DqA H vs ds → DqA H' vs ds
  | _, _, .nil => .nil
  | _, _, .cons h t => .cons (Dq.up s h) (DqA.up s t)
end
theorem DqA.len {H : Hp} : ∀ {vs : List V} {ds : List PyData}, DqA H vs ds → vs.length = ds.length
  | _, _, .nil => rfl
  | _, _, .cons _ t => by rw [List.length_cons, List.length_cons, DqA.len t]
theorem DqA.get {H : Hp} : ∀ {vs : List V} {ds : List PyData} {i : Nat} {v : V}, DqA H vs ds → vs[i]? = some v → ∃ d, ds[i]? = some d ∧ Dq H v d
  | _, _, _, _, .nil, e => by simp at e
  | _, _, 0, _, .cons h _, e => by
    simp at e
    subst e
    exact ⟨_, rfl, h⟩
  | _, _, i + 1, _, .cons _ t, e => by
    obtain ⟨d, h1, h2⟩ := DqA.get (i := i) t (by simpa using e)
    exact ⟨d, by simpa using h1, h2⟩
theorem DqA.app {H : Hp} : ∀ {vs us : List V} {ds es : List PyData}, DqA H vs ds → DqA H us es → DqA H (vs ++ us) (ds ++ es)
  | _, _, _, _, .nil, q => q
  | _, _, _, _, .cons h t, q => .cons h (DqA.app t q)
theorem DqA.take {H : Hp} : ∀ {vs : List V} {ds : List PyData} (n : Nat), DqA H vs ds → DqA H (vs.take n) (ds.take n)
  | _, _, 0, _ => .nil
  | _, _, _ + 1, .nil => .nil
  | _, _, n + 1, .cons h t => .cons h (DqA.take n t)
theorem DqA.drop {H : Hp} : ∀ {vs : List V} {ds : List PyData} (n : Nat), DqA H vs ds → DqA H (vs.drop n) (ds.drop n)
  | _, _, 0, q => q
  | _, _, _ + 1, .nil => .nil
  | _, _, n + 1, .cons _ t => DqA.drop n t
theorem DqA.set {H : Hp} {v : V} {d : PyData} (q : Dq H v d) : ∀ {vs : List V} {ds : List PyData} (i : Nat), DqA H vs ds → DqA H (vs.set i v) (ds.set i d)
  | _, _, _, .nil => .nil
  | _, _, 0, .cons _ t => .cons q t
  | _, _, i + 1, .cons h t => .cons h (DqA.set q i t)
theorem DqA.one {H : Hp} {v : V} {d : PyData} (q : Dq H v d) : DqA H [v] [d] := .cons q .nil
theorem DqA.rev {H : Hp} : ∀ {vs : List V} {ds : List PyData}, DqA H vs ds → DqA H vs.reverse ds.reverse
  | _, _, .nil => .nil
  | _, _, .cons h t => by
    rw [List.reverse_cons, List.reverse_cons]
    exact DqA.app (DqA.rev t) (.one h)
theorem DqA.ints {H : Hp} : ∀ ns : List Int, DqA H (ns.map V.int) (ns.map PyData.int)
  | [] => .nil
  | n :: r => .cons (.int n) (DqA.ints r)
theorem DqA.rep {H : Hp} {v : V} {d : PyData} (q : Dq H v d) : ∀ n : Nat, DqA H (List.replicate n v) (List.replicate n d)
  | 0 => .nil
  | n + 1 => .cons q (DqA.rep q n)
theorem Dq.tup_inv {H : Hp} {v : V} {ds : List PyData} (q : Dq H v (.tuple ds)) : ∃ a xs, v = .ref a ∧ H a = some (.tup xs) ∧ DqA H xs ds := by
  cases q with
  | tup e h => exact ⟨_, _, rfl, e, h⟩

/-! ### how long what is shown is -/
mutual
def big : PyData → Nat
  | .none | .bool _ => 5
  | .int i => (toString i : Str).length
  | .str x => (reprText x).length
  | .list xs | .tuple xs => bigA xs + 3
  | .dict _ => 2
def bigA : List PyData → Nat
  | [] => 0
  | x :: xs => big x + 2 + bigA xs
end

section
variable {X : Cx} {pins : List (Addr × Obj)} {σ : L2.St} {H : Hp} {s : Shared}
mutual
theorem Dq.reprs (I : Inv X pins σ H s) : ∀ (d : PyData) (v : V) (u : Value), Dq H v d → RelV v u → d.showable = true → d.shown.length ≤ sizeLine →
    ∃ as, Reads s.heap u d as ∧ ∃ bs, ReadAtMost s.heap d.depth bs ∧ ReprK X.prog X.w bs s.heap d.depth u d.shown
  | .none, _, _, h, r, _, _ => by
    cases h
    cases r
    exact ⟨_, .none, [], (fun _ h => nomatch h), by simp only [PyData.shown]; exact .of_is ReprIs.none _ _ _⟩
  | .bool b, _, _, h, r, _, _ => by
    cases h
    cases r
    exact ⟨_, .bool b, [], (fun _ h => nomatch h), by simp only [PyData.shown]; exact .of_is (ReprIs.bool b) _ _ _⟩
  | .int i, _, _, h, r, hs, _ => by
    cases h
    obtain ⟨t, rfl⟩ := r
    exact ⟨_, .int i t, [], (fun _ h => nomatch h), by simp only [PyData.shown]; exact .of_is (ReprIs.int t (by simpa [PyData.showable] using hs)) _ _ _⟩
  | .str x, _, _, h, r, _, hz => by
    cases h
    obtain ⟨t, rfl⟩ := r
    exact ⟨_, .str x t, [], (fun _ h => nomatch h), by simp only [PyData.shown]; exact .of_is (ReprIs.str x t (by simpa only [PyData.shown] using hz)) _ _ _⟩
  | .list ds, _, _, h, r, hs, hz => by
    cases h with
    | @lst a xs _ e ha =>
      cases r
      have hz' : (listText (PyData.shownAll ds)).length ≤ sizeLine := by simpa only [PyData.shown] using hz
      obtain ⟨its, rv, ⟨o, n, ho, hc, _, hd⟩, _⟩ := I.list (SqL.of (K := X.K) e)
      obtain ⟨as, hr, bs, hb, hk⟩ := DqA.reprs I ds _ its ha rv (by simpa [PyData.showable] using hs) fun t ht => Nat.le_trans (listText_mem_le ht) hz'
      have rd : Reads s.heap (.ref a) (.list ds) _ := .list ho hc hd hr
      have hna : a ∉ bs := not_mem_of_deeper rd (by simp only [PyData.depth]; omega) hb
      refine ⟨_, rd, a :: bs, ReadAtMost.cons rd (by simp only [PyData.depth]; omega) hb, ?_⟩
      simp only [PyData.depth, PyData.shown]
      cases its with
      | nil =>
        cases hr
        simp only [PyData.shownAll, listText_nil]
        exact ReprK.listEmpty ho hc hd
      | cons y l => exact ReprK.list ho hc hd hna (by simpa using hk.length_eq) (fun i y e => hk.item i y (by simpa using e))
  | .tuple ds, _, _, h, r, hs, hz => by
    cases h with
    | @tup a xs _ e ha =>
      cases r
      have hz' : (tupleText (PyData.shownAll ds)).length ≤ sizeLine := by simpa only [PyData.shown] using hz
      obtain ⟨its, rv, ⟨o, ho, hc, n, hd⟩, _⟩ := I.tuple (SqT.of (K := X.K) e)
      obtain ⟨as, hr, bs, hb, hk⟩ := DqA.reprs I ds _ its ha rv (by simpa [PyData.showable] using hs) fun t ht => Nat.le_trans (tupleText_mem_le ht) hz'
      have rd : Reads s.heap (.ref a) (.tuple ds) _ := .tuple ho hc hd hr
      have hna : a ∉ bs := not_mem_of_deeper rd (by simp only [PyData.depth]; omega) hb
      refine ⟨_, rd, a :: bs, ReadAtMost.cons rd (by simp only [PyData.depth]; omega) hb, ?_⟩
      simp only [PyData.depth, PyData.shown]
      exact ReprK.tuple ho hc hd hna (by simpa using hk)
  | .dict kv, _, _, h, r, _, _ => by
    cases h with
    | @dic a e =>
      cases r
      obtain ⟨_, hsys, vs, rel, o, es, ep, ho, hx, hd, _, hp, _⟩ := I.hok a _ e
      cases rel
      have hes : es = #[] := by
        obtain ⟨l⟩ := es
        have : l = [] := by
          cases l with
          | nil => rfl
          | cons y l => exact nomatch hp
        rw [this]
      subst hes
      have rd : Reads s.heap (.ref a) (.dict []) _ := .dict ho hx.1 hd .nil .nil
      refine ⟨_, rd, [a], ReadAtMost.cons rd (Nat.zero_le _) (fun _ h => nomatch h), ?_⟩
      have := ReprK.dict (prog := X.prog) (w := X.w) (as := []) (d := 0) ho hx.1 hd hsys (fun h => nomatch h) .nil
      simpa only [PyData.depth, PyData.depthKv, PyData.shown, PyData.shownKv] using this
theorem DqA.reprs (I : Inv X pins σ H s) : ∀ (ds : List PyData) (vs : List V) (us : List Value), DqA H vs ds → Vals vs us → PyData.showableAll ds = true → (∀ t ∈ PyData.shownAll ds, t.length ≤ sizeLine) →
    ∃ as, ReadsAll s.heap us ds as ∧ ∃ bs, ReadAtMost s.heap (PyData.depthAll ds) bs ∧ ReprAllK X.prog X.w bs s.heap (PyData.depthAll ds) us (PyData.shownAll ds)
  | [], _, _, h, r, _, _ => by
    cases h
    cases r
    exact ⟨_, .nil, [], (fun _ h => nomatch h), by simp only [PyData.shownAll]; exact .nil⟩
  | d :: ds, _, _, h, r, hs, hz => by
    cases h with
    | cons h1 h2 =>
      cases r with
      | cons r1 r2 =>
        have hs' : d.showable = true ∧ PyData.showableAll ds = true := by simpa [PyData.showableAll] using hs
        obtain ⟨as, q1, b1, hb1, k1⟩ := Dq.reprs I d _ _ h1 r1 hs'.1 (hz _ (by simp only [PyData.shownAll]; exact List.mem_cons_self ..))
        obtain ⟨cs, q2, b2, hb2, k2⟩ := DqA.reprs I ds _ _ h2 r2 hs'.2 (fun t ht => hz t (by simp only [PyData.shownAll]; exact List.mem_cons_of_mem _ ht))
        refine ⟨_, .cons q1 q2, b1 ++ b2, ?_, ?_⟩
        · simp only [PyData.depthAll]
          exact (hb1.mono (Nat.le_max_left _ _)).append (hb2.mono (Nat.le_max_right _ _))
        · simp only [PyData.depthAll, PyData.shownAll]
          exact .cons ((k1.more fun b hb => List.mem_append_left _ hb).level_le (Nat.le_max_left _ _)) (k2.more_le (fun b hb => List.mem_append_right _ hb) (Nat.le_max_right _ _))
end
end

/-- repr(x) of data, where no repr is under way -/
def rRepr : List V → Hp → VK → Prop := fun xs H Q => ∃ v d, xs = [v] ∧ Dq H v d ∧ d.showable = true ∧ d.depth ≤ 40 ∧ d.shown.length ≤ sizeLine ∧ Q (.str d.shown) H
theorem call_repr {X : Cx} (hg : X.A.guards = some []) (hu : X.A.units + 64 < cLine) : CallR X (.builtin "repr") rRepr := by
  intro pins s σ H xs us Q I r h
  obtain ⟨v, d, rfl, hd, hs, hdep, hz, q⟩ := h
  obtain ⟨u, rfl, r1⟩ : ∃ u, us = [u] ∧ RelV v u := by
    cases r with
    | cons a b =>
      cases b
      exact ⟨_, rfl, a⟩
  have fin : ∀ (h' : Heap) (t : Tok) (tk : Nat), (∀ b o, s.heap.get? b = some o → h'.get? b = some o) → EP X pins σ Q (.str d.shown t) { s with heap := h', toks := tk } :=
    fun h' t tk hk => ⟨.str d.shown, H, I.kept (t' := tk) hk, ⟨t, rfl⟩, q⟩
  cases hd with
  | non =>
    simp only [PyData.shown] at fin
    cases r1
    exact PySem.P.repr_of_none (fin s.heap _ _ fun _ _ e => e)
  | bl b =>
    simp only [PyData.shown] at fin
    cases r1
    have := PySem.P.repr_of_bool (prog := X.prog) (w := X.w) (A := X.A) (E := X.xe) (b := b) (s := s) (Q := EP X pins σ Q)
    refine this ?_
    have f := fin s.heap s.toks (s.toks + 1) fun _ _ e => e
    cases b <;> exact f
  | int i =>
    simp only [PyData.shown] at fin
    obtain ⟨t, rfl⟩ := r1
    exact PySem.P.repr_of_int (by simpa [PyData.showable] using hs) (fin s.heap _ _ fun _ _ e => e)
  | str x =>
    simp only [PyData.shown] at fin hz
    obtain ⟨t, rfl⟩ := r1
    exact PySem.P.repr_of_str (fin s.heap _ _ fun _ _ e => e) hz
  | @lst a xs ds e ha =>
    obtain rfl : u = Value.ref a := r1
    simp only [PyData.depth] at hdep
    have hz' : (listText (PyData.shownAll ds)).length ≤ sizeLine := by simpa only [PyData.shown] using hz
    simp only [PyData.shown] at fin
    obtain ⟨its, rv, ⟨o, n, ho, hc, _, hd⟩, _⟩ := I.list (SqL.of (K := X.K) e)
    obtain ⟨as, hr, bs, hb, hk⟩ := DqA.reprs I ds _ its ha rv (by simpa [PyData.showable] using hs) fun t ht => Nat.le_trans (listText_mem_le ht) hz'
    have rd : Reads s.heap (.ref a) (.list ds) _ := .list ho hc hd hr
    have hna : a ∉ bs := not_mem_of_deeper rd (by simp only [PyData.depth]; omega) hb
    refine call_repr_slot (by omega) ⟨o, ho, hc⟩ F.slot_list_repr.toG ?_
    cases its with
    | nil =>
      cases hr
      have e0 : listText (PyData.shownAll []) = ("[]" : Str) := by simp only [PyData.shownAll, listText_nil]
      rw [e0] at fin
      exact call_list_repr_empty ⟨o, ho, hc⟩ ho hd ⟨_, _, rfl, fin s.heap _ _ fun _ _ e => e⟩
    | cons y l =>
      exact call_list_reprK ho hc hd hna (by simpa using hk.length_eq) (fun i y e => hk.item i y (by simpa using e)) hg (fun b _ => Clear.nil b) (by show X.A.units + 1 + _ < cLine; omega) (fun _ _ e => e) (fun h' t tk hk => ⟨_, _, rfl, fin h' t tk hk⟩) hz'
  | @tup a xs ds e ha =>
    obtain rfl : u = Value.ref a := r1
    simp only [PyData.depth] at hdep
    have hz' : (tupleText (PyData.shownAll ds)).length ≤ sizeLine := by simpa only [PyData.shown] using hz
    simp only [PyData.shown] at fin
    obtain ⟨its, rv, ⟨o, ho, hc, n, hd⟩, _⟩ := I.tuple (SqT.of (K := X.K) e)
    obtain ⟨as, hr, bs, hb, hk⟩ := DqA.reprs I ds _ its ha rv (by simpa [PyData.showable] using hs) fun t ht => Nat.le_trans (tupleText_mem_le ht) hz'
    have rd : Reads s.heap (.ref a) (.tuple ds) _ := .tuple ho hc hd hr
    have hna : a ∉ bs := not_mem_of_deeper rd (by simp only [PyData.depth]; omega) hb
    refine call_repr_slot (by omega) ⟨o, ho, hc⟩ F.slot_tuple_repr ?_
    exact call_tuple_reprK ho hc hd hna (by simpa using hk) hg (fun b _ => Clear.nil b) (by show X.A.units + 1 + _ < cLine; omega) (fun _ _ e => e) (fun h' t tk hk => ⟨_, _, rfl, fin h' t tk hk⟩) hz'
  | @dic a e =>
    obtain rfl : u = Value.ref a := r1
    obtain ⟨_, hsys, vs, rel, o, es, ep, ho, hx, hd, _, hp, _⟩ := I.hok a _ e
    cases rel
    have hes : es = #[] := by
      obtain ⟨l⟩ := es
      have : l = [] := by
        cases l with
        | nil => rfl
        | cons y l => exact nomatch hp
      rw [this]
    subst hes
    simp only [PyData.shown, PyData.shownKv] at fin hz
    refine call_repr_slot (by omega) ⟨o, ho, hx.1⟩ F.slot_dict_repr ?_
    exact call_dict_reprK (as := []) (d := 0) ho hx.1 hd hsys (fun h => nomatch h) .nil hg (fun b _ => Clear.nil b) (by show X.A.units + 1 + _ < cLine; omega) (fun _ _ e => e) (fun h' t tk hk => ⟨_, _, rfl, fin h' t tk hk⟩) hz
end Kr
namespace Kr
open PySem PySem.Spec PyProof.Rows L2
/-! ### defs that are called where no repr is under way -/
structure FnG (P : Program) (w : World) (K : PySem.W.Frag) (mg : Str → Option Value) (base : Heap) (CX : CXT) (k : Nat) (f : Addr) (fd : FuncData) (ps : List Str) (sp : Sp) : Prop where
  len : ∀ vs H Q E, sp vs H Q E → vs.length = ps.length
  run : ∀ (A : Around) (outer : List Env) (s : Shared) (H : Hp) (args : Args) (us : List Value) (vs : List V) (Q : VK) (E : XK), A.guards = some [] → Room k A → Env0 P w K mg base A outer s H → BindsTo s fd args (ps.zip us) → Vals vs us → sp vs H Q E →
    codeAny (model P w) A (.call (.ref f) args) (CR CX outer P w H s Q E) s
section
variable {P : Program} {w : World} {K : PySem.W.Frag} {mg : Str → Option Value} {base : Heap} {CX : CXT}
theorem FnG.mono {j k : Nat} {f : Addr} {fd : FuncData} {ps : List Str} {sp : Sp} (F : FnG P w K mg base CX j f fd ps sp) (h : j ≤ k) : FnG P w K mg base CX k f fd ps sp :=
  ⟨F.len, fun A outer s H args us vs Q E hg hr => F.run A outer s H args us vs Q E hg (hr.mono h)⟩
/-- by the body, as Fun.ok; the body is told that no repr is under way -/
theorem okG {x qual : Str} {st : Stmt} {f : Addr} {fd : FuncData} {N ps : List Str} {k : Nat} {sp : Sp} (F : Fun K x qual st f fd) (S : FnScope N ps (defScope st)) (len : ∀ vs H Q E, sp vs H Q E → vs.length = ps.length)
    (hbody : ∀ (cdv : Value) (A : Around) (outer : List Env) (s : Shared) (H : Hp) (vs : List V) (Q : VK) (E : XK), (A.deeper (envOfC qual (defScope st) s.heap.objs.size f cdv)).guards = some [] → Room k (A.deeper (envOfC qual (defScope st) s.heap.objs.size f cdv)) → sp vs H Q E →
      ∃ t, PSs (cxOf CX0 P w K mg base N qual (defScope st) f cdv A outer s H E).nox (defBody st) t ∧ t { nx := fun _ H' => Q .non H', rt := Q } (start N vs) H) : FnG P w K mg base CX0 (k + 1) f fd ps sp := by
  obtain ⟨oc, od, kV, doc, pm, an, cdv, ct, osl, rfl, lk, hcd⟩ := F.ex
  refine ⟨len, fun A outer s H args us vs Q E hg hr e0 hb r hsp => ?_⟩
  have KX : K.In s.heap := e0.mod.kin.keeps fun b o e => (e0.bs b o e).1
  have lim : s.heap.NoLimit := e0.mod.nolimit.keeps fun b o e => (e0.bs b o e).1
  refine codeAny_call_function hr.depth (KX _ _ lk) rfl S.co S.gen rfl (PySem.W.codeRec_of KX hcd) (hb _ _ _ _ ?_)
  have kinds : ∀ y ∈ ps.zip us, (defScope st).names.lookup y.1 = some .local ∨ ((defScope st).names.lookup y.1 = some .cell ∧ ((cellsFrom (s.heap.objs.size + 1) (defScope st).names []).lookup y.1).isSome = true) := by
    rintro ⟨n, v⟩ hy
    rcases S.par n (List.of_mem_zip hy).1 with q | q
    · exact .inl q
    · exact .inr ⟨q, PySem.W.cellsFrom_some _ _ _ (.inl q)⟩
  refine wpAny_newFunctionEnv_cells S.kind kinds fun env he s1 x => ?_
  subst he
  refine ⟨lim.keeps x.toInCall.keep, codeAny_func ?_⟩
  obtain ⟨t, ht, hq⟩ := hbody cdv A outer s H vs Q E (by first | exact hg | simpa [Around.deeper] using hg) (hr.deeper _) hsp
  have I : Inv (cxOf CX0 P w K mg base N qual (defScope st) f cdv A outer s H E) [] (start N vs) H s1 := inv_start S hr.hd e0 (len _ _ _ _ hsp) r x
  refine wpAny_mono (ht.nox.run [] s1 (start N vs) H _ I hq) (fun fl s' hs => ?_) fun e s' hs => hs
  cases fl with
  | ret u =>
    obtain ⟨v, σ', H', J, rv, q⟩ := hs
    exact ⟨v, H', J.os, J.bare, J.base, J.hok, rv, q⟩
  | next =>
    obtain ⟨σ', H', J, q⟩ := hs
    exact ⟨.non, H', J.os, J.bare, J.base, J.hok, rfl, q⟩
  | brk => exact hs.elim fun _ h => h.elim fun _ h => h.2.elim
  | cont => exact hs.elim fun _ h => h.elim fun _ h => h.2.elim
end
section
variable {X : Cx} {CX : CXT} {k : Nat} {f : Addr} {fd : FuncData} {ps : List Str} {sp : Sp} {dvs : List V} {ds : List Value} {E : XK} {x : Str} {p pos : Pos} {e : Expr} {es : List Expr} {t : TA}
/-- such a def's call, from a body of the same kind -/
theorem pe_callG (F : FnG X.prog X.w X.K X.mg X.base CX k f fd ps sp) (gd : X.A.guards = some []) (hr : Room k X.A) (hg : Gl X x) (hm : X.mg x = some (.ref f)) (hk : PySem.W.keepIn X.K (.ref f) = true) (hb : Binds X.K fd ps ds) (hd : Vals dvs ds) (hx : Passes CX X E)
    (ha : PA X (e :: es) t) (hdb : (x == ("__debug__" : Str)) = false := by decide) (he : starEach (e :: es) X.env = (false, eval e X.env) :: starEach es X.env := by rfl) (hpl : (backTo pos (starEach es X.env)).any (·.1) = false := by rfl) :
    PE X (.Call (.Name x p) (e :: es) [] pos) (tCall sp dvs E t) := by
  refine ⟨fun pins s σ H Q I h => wpAny_Call_Name_kw (ld_glob I hg hm ?_ hdb)⟩
  refine PySem.W.callWith_K (h₀ := X.base) I.ok.mod.kin hk (thn (ha.run pos pins s σ H _ I h) fun us s1 ⟨vs, H1, I1, r, q⟩ => ⟨I1.kIn, ?_⟩) he hpl
  have r2 : Vals (vs ++ dvs) (us ++ ds) := r.append hd
  have hl : (us ++ ds).length = ps.length := r2.length.symm.trans (F.len _ _ _ _ q)
  refine wpAny_call (codeAny_mono (F.run X.A X.stack s1 H1 ⟨us, []⟩ (us ++ ds) (vs ++ dvs) Q E gd hr I1.env0 (hb s1 us I1.kIn hl) r2 q) fun r s' hq => ?_)
  cases r with
  | error e => exact hx pins σ H1 s1 e s' I1 hq
  | ok fl =>
    cases fl with
    | ret u => exact I1.after hq
    | next => exact hq.elim
    | brk => exact hq.elim
    | cont => exact hq.elim
end

/-! ### the head: the law is called where nothing is under way -/
theorem law_callG {P : Program} {w : World} {K : PySem.W.Frag} {mg mb : Str → Option Value} {k : Nat} {fa a : Addr} {fd : FuncData} {x : Str} {sp : Sp} {s₁ : Shared} {vs : List Value} {ns : List Int}
    (KX : K.In s₁.heap) (hns : s₁.heap.Ns mainGlobals mg) (hb : s₁.heap.Ns builtinsNs mb) (hbb : ∀ x : Str, x ≠ "__name__" → mb x = bootBuiltins x) (hlim : s₁.heap.NoLimit) (hg : s₁.gens = #[])
    (ha : s₁.heap.get? a = some { cls := .type "list", data := .seq vs.toArray }) (hi : IntsAre vs ns) (hl : ns.length ≤ sizeLine) (hr : Room k callerA)
    (F : ∀ base : Heap, K.In base → base.Ns mainGlobals mg → FnG P w K mg base CX0 k fa fd [x] sp) (hbind : ∀ (s : Shared) (u : Value), BindsTo s fd ⟨[u], []⟩ [(x, u)])
    (hsp : ∀ H : Hp, Only H → SqL K H a (ns.map V.int) → sp [.ref a] H (fun v _ => v = .bl true) fun _ _ _ => False) :
    codeAny (model P w) callerA (.call (.ref fa) ⟨[.ref a], []⟩) (fun r s' => r = .ok (.ret (.bool true)) ∧ OldK s₁.heap s'.heap ∧ s'.os = s₁.os ∧ AllBare s'.gens) s₁ := by
  have rv := vals_ints hi
  have lenV := hi.length
  have step : ∀ H : Hp, Only H → SqL K H a (ns.map V.int) → HOk P w H s₁.heap → (∀ b, H b ≠ none → b = a) → (H a ≠ none → K.lookup a = none) →
      codeAny (model P w) callerA (.call (.ref fa) ⟨[.ref a], []⟩) (fun r s' => r = .ok (.ret (.bool true)) ∧ OldK s₁.heap s'.heap ∧ s'.os = s₁.os ∧ AllBare s'.gens) s₁ := by
    intro H hO hS hok only hK
    have free : ∀ {b : Addr} {o : Obj}, s₁.heap.get? b = some o → (b = a → H b = none) → (hidT s₁.heap H).get? b = some o := fun {b o} e n => hidT_get e (by
      cases q : H b with
      | none => rfl
      | some u => rw [n (only b (by rw [q]; simp))] at q; cases q)
    have ns2 : ∀ {b : Addr} {m : Str → Option Value}, s₁.heap.Ns b m → (hidT s₁.heap H).Ns b m := by
      rintro b m ⟨o, es, ep, e, d, r⟩
      refine ⟨o, es, ep, free e fun z => ?_, d, r⟩
      subst z
      rw [ha] at e
      cases e
      cases (show Data.seq vs.toArray _ = Data.dict es ep from d)
    have kin : K.In (hidT s₁.heap H) := fun b o e => free (KX b o e) fun z => by
      subst z
      cases q : H b with
      | none => rfl
      | some u => rw [hK (by rw [q]; simp)] at e; cases e
    have md : Mod K mg (hidT s₁.heap H) := ⟨kin, ns2 hns, ⟨mb, ns2 hb, hbb⟩, hlim.elim fun mc h => ⟨mc, ns2 h.1, h.2⟩⟩
    have e0 : Env0 P w K mg (hidT s₁.heap H) callerA [] s₁ H :=
      ⟨rfl, md, fun b o e => of_hidT e, Nat.le_of_eq (hidT_size _ _), trivial, fun b hb => absurd (show b ∈ ([] : List Addr) from hb) (by simp), hok, .of_eq hg⟩
    refine codeAny_mono ((F _ kin (ns2 hns)).run callerA [] s₁ H ⟨[.ref a], []⟩ [.ref a] [.ref a] _ _ rfl hr e0 (hbind s₁ (.ref a)) (.cons rfl .nil) (hsp H hO hS)) fun r s' h => ?_
    cases r with
    | error e => exact h.elim
    | ok fl =>
      cases fl with
      | next => exact h.elim
      | brk => exact h.elim
      | cont => exact h.elim
      | ret u =>
        obtain ⟨v, H', os, bare, un, hok', r', q⟩ := h
        obtain rfl : v = .bl true := q
        obtain rfl : u = Value.bool true := r'
        refine ⟨rfl, OldK.of_keep fun b o e => ?_, os, bare⟩
        rcases hO b with z | ⟨ob, xs, z⟩
        · exact un.keep b o e z (fun q => absurd (show b ∈ ([] : List Addr) from q) (by simp)) (by simp)
        · have e1 := (hok b _ z).1
          have e2 := (hok' b _ (un.frzs b ob _ z)).1
          rw [e] at e1
          cases e1
          exact e2
  cases hk : K.lookup a with
  | some o =>
    have e := KX a o hk
    rw [ha] at e
    cases e
    exact step (fun _ => none) (fun _ => .inl rfl) (.inr ⟨_, vs.toArray, _, hk, rfl, rfl, rfl, by rw [List.size_toArray, lenV]; exact hl, by simpa using rv⟩) (fun b u z => nomatch (show (none : Option HO) = some u from z)) (fun b z => absurd rfl z) fun z => absurd rfl z
  | none =>
    refine step (fun b => if b = a then some (.frz { cls := .type "list", data := .seq vs.toArray } (.lst (ns.map V.int))) else none) (fun b => ?_) (.inl (.inr ⟨_, if_pos rfl⟩)) (fun b u z => ?_) (fun b z => ?_) fun _ => hk
    · by_cases q : b = a
      · exact .inr ⟨_, _, if_pos q⟩
      · exact .inl (if_neg q)
    · by_cases q : b = a
      · cases (if_pos q).symm.trans z
        subst q
        exact ⟨ha, by rw [List.length_map]; exact hl, vs, _, rv, ha⟩
      · cases (if_neg q).symm.trans z
    · by_cases q : b = a
      · exact q
      · exact absurd (if_neg q) z
theorem walkG {l : PySem.W.OpenLaw} {n k : Nat} {q : Program} {loose : List Str} {XP : (Str → Option Value) → Heap → Prop} {YP : World → Heap → Prop} {d : DefRec} {K : Params → PySem.W.Frag} {sp : PySem.W.Frag → Sp} {x : Str}
    (hn : l.most = some n) (hn2 : n ≤ sizeLine) (hdf : d.params.defaults = []) (hr : Room k callerA) (hY : ∀ (w : World) (h : Heap), YP w h → (K w.params).In h)
    (F : ∀ (w : World) (mg : Str → Option Value) (fa : Addr) (h : Heap), (K w.params).In h → h.Ns mainGlobals mg → mg d.name = some (.ref fa) →
      ∃ fd : FuncData, (∀ (s : Shared) (u : Value), BindsTo s fd ⟨[u], []⟩ [(x, u)]) ∧ ∀ base : Heap, (K w.params).In base → base.Ns mainGlobals mg → FnG l.prog w (K w.params) mg base CX0 k fa fd [x] (sp (K w.params)))
    (hsp : ∀ (K : PySem.W.Frag) (H : Hp) (a : Addr) (ns : List Int), ns.length ≤ n → Only H → SqL K H a (ns.map V.int) → sp K [.ref a] H (fun v _ => v = .bl true) fun _ _ _ => False) :
    PySem.W.WalkO q loose XP YP l.row.toRowW d [] (fun f vs => PySem.call f vs) := by
  refine Att.attach_call hn hdf fun w s₀ s₁ mg mb fa o pm cd doc a vs ns G Y ho hd hcd hmg hobj hints hlen hg => ?_
  obtain ⟨fd, hb, hF⟩ := F w mg fa _ (hY w _ Y) G.T.g hmg
  exact law_callG (hY w _ Y) G.T.g G.T.b G.T.builtins G.T.nolimit hg hobj hints (Nat.le_trans hlen hn2) hr hF hb fun H hO hS => hsp _ H a ns hlen hO hS
end Kr
namespace Kr
open PySem PySem.Spec PyProof.Rows L2
/-- f(k = v, ..), names alone: how they bind -/
theorem kbn_of {K : PySem.W.Frag} {x qual : Str} {st : Stmt} {f : Addr} {fd : FuncData} {ps ks : List Str} (F : Fun K x qual st f fd) (g : {α : Type} → List α → List α)
    (hrel : ∀ {zs : List V} {ws : List Value}, Vals zs ws → Vals (g zs) (g ws))
    (h : ∀ (kV doc pm : Value) (an : Option Addr) (cdv ct : Value) (ws : List Value), ws.length = ks.length → bindArgs (PySem.W.fnOf x qual (defArgs st) (defBody st) (defScope st) .none kV doc pm an cdv ct) ⟨[], ks.zip ws⟩ = pure (ps.zip (g ws))) :
    KBn K fd ps 0 ks (fun _ ws => g ws) (fun _ zs => g zs) := by
  obtain ⟨oc, od, kV, doc, pm, an, cdv, ct, osl, rfl, lk, hcd⟩ := F.ex
  refine ⟨fun s us ws _ hu hw => ?_, fun _ r => hrel r⟩
  obtain rfl : us = [] := List.length_eq_zero_iff.mp hu
  exact .of_eq (h kV doc pm an cdv ct ws hw)
theorem vals_swap {zs : List V} {ws : List Value} (r : Vals zs ws) : Vals zs.reverse ws.reverse := r.reverse
section
variable {X : Cx} {CX : CXT} {k : Nat} {f : Addr} {fd : FuncData} {ps ks : List Str} {sp : Sp} {E : XK} {x : Str} {p pos : Pos} {kws : List Keyword} {tk : TA} {g : List Value → List Value → List Value} {gV : List V → List V → List V}
def tCallN (m : Nat) (sp : Sp) (gV : List V → List V → List V) (E : XK) (tk : TA) : TE := fun σ H Q => tk σ H fun zs H1 => zs.length = m ∧ sp (gV [] zs) H1 Q E
theorem pe_callN (F : FnOk X.prog X.w X.K X.mg X.base CX k f fd ps sp) (hr : Room k X.A) (hg : Gl X x) (hm : X.mg x = some (.ref f)) (hk : PySem.W.keepIn X.K (.ref f) = true) (hb : KBn X.K fd ps 0 ks g gV) (hx : Passes CX X E) (hkw : PK X kws tk)
    (hall : (backToKw pos (keywordEach kws X.env)).all (·.1.isSome) = true := by rfl) (hks : (backToKw pos (keywordEach kws X.env)).filterMap (·.1) = ks := by rfl) (hdb : (x == ("__debug__" : Str)) = false := by decide)
    (hpl : ((backTo pos (starEach [] X.env)).any (·.1) || (backToKw pos (keywordEach kws X.env)).any (·.1.isNone)) = false := by rfl) :
    PE X (.Call (.Name x p) [] kws pos) (tCallN ks.length sp gV E tk) := by
  refine ⟨fun pins s σ H Q I h => wpAny_Call_Name_kw (ld_glob I hg hm ?_ hdb)⟩
  refine PySem.W.callWith_KW0 (h₀ := X.base) I.ok.mod.kin hk hall ?_ hpl
  refine thn (hkw.run pos pins s σ H _ I h) fun ws s2 ⟨zs, H2, I2, rz, l2, q2⟩ => ⟨I2.kIn, ?_⟩
  rw [hks]
  have r2 := hb.rel .nil rz
  refine wpAny_call (codeAny_mono (F.run X.A X.stack s2 H2 ⟨[], ks.zip ws⟩ (g [] ws) (gV [] zs) _ E hr I2.env0 (hb.to s2 [] ws I2.kIn rfl (rz.length.symm.trans l2)) r2 q2) fun r s' hq => ?_)
  cases r with
  | error e => exact hx pins σ _ _ e s' I2 hq
  | ok fl =>
    cases fl with
    | ret u => exact I2.after hq
    | next => exact hq.elim
    | brk => exact hq.elim
    | cont => exact hq.elim
end
end Kr
namespace Kr
open PySem L2
def top (i : Nat) : Stmt := PySem.Challenge.pw_keyriders_k22_whole_kinds_by_their_sum.main.body.getD i (.Pass ⟨0, 0, 0, 0⟩)
abbrev sKindSigns : Stmt := top 2
abbrev sChoices : Stmt := top 3
abbrev sSumRows : Stmt := top 4
abbrev sKindsIn : Stmt := top 5
abbrev sDeck : Stmt := top 7
abbrev sDraw : Stmt := top 8
abbrev sPick : Stmt := top 9
abbrev sLSum : Stmt := top 10
abbrev sLChoose : Stmt := top 11
abbrev sLKind : Stmt := top 12
abbrev sWithin : Stmt := top 13
abbrev sByAll : Stmt := top 14
abbrev sTurned : Stmt := top 15
abbrev sLaw : Stmt := top 16
end Kr
namespace Kr
open PySem PySem.Spec PyProof.Rows L2
/-! ### the deck: a dict of a list and a number, apart from all else -/
def hid (p l : Addr) (H : Hp) : Hp := fun b => if b = p ∨ b = l then none else H b
theorem hid_ne {p l b : Addr} {H : Hp} (h1 : b ≠ p) (h2 : b ≠ l) : hid p l H b = H b := by
  unfold hid
  rw [if_neg (fun h => h.elim h1 h2)]
theorem hid_some {p l b : Addr} {H : Hp} {o : HO} (h : hid p l H b = some o) : b ≠ p ∧ b ≠ l ∧ H b = some o := by
  unfold hid at h
  by_cases e : b = p ∨ b = l
  · rw [if_pos e] at h
    cases h
  · rw [if_neg e] at h
    exact ⟨fun z => e (.inl z), fun z => e (.inr z), h⟩
theorem hid_same (p l : Addr) (H : Hp) : Same (hid p l H) H := fun _ _ h => (hid_some h).2.2
abbrev Ext (p l : Addr) (H H' : Hp) : Prop := Same (hid p l H) (hid p l H')
theorem Ext.of {p l : Addr} {H H' : Hp} (s : Same H H') : Ext p l H H' := fun b o h => by
  obtain ⟨h1, h2, h3⟩ := hid_some h
  rw [hid_ne h1 h2]
  exact s _ _ h3
theorem Ext.rfl {p l : Addr} {H : Hp} : Ext p l H H := Same.refl _
abbrev kD : Key := Sum.inr ("deep" : Str)
abbrev kS : Key := Sum.inr ("state" : Str)
theorem kDS : ¬ kD = kS := by
  intro z
  exact absurd (Sum.inr.inj z) (by decide +kernel)
def dkv (x y : V) : List (Key × V) := [(kD, x), (kS, y)]
theorem dkv_d (x y : V) : valV (dkv x y) kD = some x := valV_pos rfl
theorem dkv_s (x y : V) : valV (dkv x y) kS = some y := (valV_neg kDS).trans (valV_pos rfl)
theorem kds : ¬ ("deep" : Str) = "state" := by decide +kernel
theorem ksd : ¬ ("state" : Str) = "deep" := by decide +kernel
theorem dkv_pd (x y z : V) : putK (dkv x y) kD z = dkv z y := by
  simp [putK, dkv, kds, ksd]
theorem dkv_ps (x y z : V) : putK (dkv x y) kS z = dkv x z := by
  simp [putK, dkv, kds, ksd]
theorem dkv_m (x y : V) : mergeK [] [(kD, x), (kS, y)] = dkv x y := by
  simp [mergeK, putK, dkv, kds, ksd]
structure Deck (H : Hp) (p l : Addr) : Prop where
  ex : ∃ (ds : List Int) (st : Int), H p = some (.dK (dkv (.ref l) (.int st))) ∧ H l = some (.lst (ds.map V.int)) ∧ ds.length ≤ 63
theorem Deck.ne {H : Hp} {p l : Addr} (d : Deck H p l) : p ≠ l := by
  obtain ⟨ds, st, h1, h2, _⟩ := d.ex
  exact ne_of h1 h2 (by intro z; cases z)
theorem Deck.up {H H' : Hp} {p l : Addr} (d : Deck H p l) (s : Same H H') : Deck H' p l := by
  obtain ⟨ds, st, h1, h2, h3⟩ := d.ex
  exact ⟨ds, st, s _ _ h1, s _ _ h2, h3⟩
/-- a new object stands apart -/
theorem Deck.new {H : Hp} {p l q : Addr} (d : Deck H p l) (h : H q = none) : q ≠ p ∧ q ≠ l := by
  obtain ⟨ds, st, h1, h2, h3⟩ := d.ex
  exact ⟨(ne_of_none h1 h).symm, (ne_of_none h2 h).symm⟩
theorem same_new {H : Hp} {q : Addr} {o : HO} (h : H q = none) : Same H (upd H q o) := fun b x e => by
  rw [upd_ne (ne_of_none e h)]
  exact e
theorem hid_upd {H : Hp} {p l q : Addr} {o : HO} (h1 : q ≠ p) (h2 : q ≠ l) : hid p l (upd H q o) q = some o := by
  rw [hid_ne h1 h2, upd_same]
/-- the names of the built-ins are theirs -/
structure Bi (mg : Str → Option Value) : Prop where
  len : mg "len" = none
  abs : mg "abs" = none
  int : mg "int" = none
  tuple : mg "tuple" = none
  list : mg "list" = none
  range : mg "range" = none
  zip : mg "zip" = none
  repr : mg "repr" = none
  comb : mg "comb" = some (.builtin "math.comb")
theorem sz {n : Nat} (h : n ≤ 100000) : n ≤ sizeLine := Nat.le_trans h (by decide)
theorem szl {n : Nat} (h : n < 100000) : n < sizeLine := Nat.lt_of_lt_of_le h (by decide)
/-- two ways that meet again -/
theorem join2 {c A : Prop} [Decidable c] {G R : Hp → Prop} {H2 : Hp} (tail : ∀ H3, R H3 → G H3) (h2 : ¬ c → R H2) (h1 : c → (∀ H3, R H3 → G H3) → A) : if c then A else G H2 :=
  ite2 (fun h => h1 h tail) fun h => tail _ (h2 h)
def spDeck (K : PySem.W.Frag) : Sp := fun vs H Q _ => ∃ (a : Addr) (ns : List Int), vs = [.ref a] ∧ SqL K H a (ns.map V.int) ∧ ns.length ≤ 63 ∧ ∀ H' p l, Same H H' → H p = none → H l = none → Deck H' p l → Q (.ref p) H'
section
variable {P : Program} {w : World} {K : PySem.W.Frag} {mg : Str → Option Value} {base : Heap}
theorem scDeck : FnScope ["script", "deck", "cell", "whole"] ["script"] (defScope sDeck) := ⟨rfl, rfl, rfl, by decide +kernel, rfl, by decide +kernel, by decide +kernel⟩
theorem ok_deck {f : Addr} {fd : FuncData} {k : Nat} (F : Fun K "_law_deck" "_law_deck" sDeck f fd) (B : Bi mg) : FnOk P w K mg base CX0 (k + 1) f fd ["script"] (spDeck K) := by
  refine F.ok scDeck (fun vs H Q E h => ?_) (fun cdv A outer s H vs Q E hr h => ?_)
  · obtain ⟨a, ns, rfl, _⟩ := h
    rfl
  · obtain ⟨a, ns, rfl, hS, hlen, q⟩ := h
    have hu := hu_of hr
    refine ⟨_, pss_cons (ps_set (i := 1) scDeck.nd rfl (.inl rfl) (pe_disp (pps_cons pe_str (pe_lst pa_nil) (pps_cons pe_str (pe_op op_add (pe_op op_add pe_int pe_int) (pe_callB call_len_seq (by rfl) B.len boot_len (pa_cons (pe_slice sl_list (pv 0) po_none (po_some pe_int)) pa_nil))) pps_nil)) (by rfl) (by rfl) (fun z => by cases z) (by decide)))
      (pss_cons (ps_for PassesOwn.never rfl (pi_list (pe_slice sl_list (pv 0) po_none (po_some pe_int))) (pg_name (i := 2) scDeck.nd rfl (.inl rfl))
        (pss_cons (ps_if (pt_cmpR op_ge (pe_callB call_abs (by rfl) B.abs (by decide +kernel) (pa_cons (pv 2) pa_nil)) (pe_op op_pow pe_int pe_int) (nomark _)) (pss_one (ps_dput hu (pv 1) pe_str (pe_op op_cat (pe_lst (pa_cons (pe_callB call_abs (by rfl) B.abs (by decide +kernel) (pa_cons (pv 2) pa_nil)) pa_nil)) (pe_dget hu (pv 1) pe_str (fun _ _ => rfl))) rfl)) pss_nil)
        (pss_cons (ps_set (i := 3) scDeck.nd rfl (.inl rfl) (pe_op op_add (pe_op op_mul pe_int (pe_callB call_abs (by rfl) B.abs (by decide +kernel) (pa_cons (pv 2) pa_nil))) (pe_callTy call_int1 (by rfl) B.int (by decide +kernel) (pa_cons (pe_cmpR op_lt (pv 2) pe_int (nomark _)) pa_nil))))
        (pss_one (ps_dput hu (pv 1) pe_str (pe_op op_mod (pe_callTy call_int1 (by rfl) B.int (by decide +kernel) (pa_cons (pe_op op_add (pe_op op_mul (pe_op op_add (pe_op op_add (pe_dget hu (pv 1) pe_str (fun _ _ => rfl)) (pv 3)) pe_int) pe_int) pe_int) pa_nil)) pe_int) rfl)))))
      (pss_one (ps_ret (pv 1)))), ?_⟩
    intro p np
    refine ⟨Nat.zero_le _, fun l nl => ?_⟩
    have s0 : Same H (upd (upd H p (.dK [])) l (.lst [])) := (same_new np).trans (same_new nl)
    have nlp : l ≠ p := fun z => by rw [z, upd_same] at nl; cases nl
    have nl0 : H l = none := by rw [upd_ne nlp] at nl; exact nl
    refine ⟨_, _, rfl, rfl, .ref a, rfl, 63, rfl, a, _, rfl, s0.seq hS, fun c nc => ?_⟩
    have ncp : c ≠ p := fun z => by rw [z, upd_ne nlp.symm, upd_same] at nc; cases nc
    have ncl : c ≠ l := fun z => by rw [z, upd_same] at nc; cases nc
    refine ⟨c, _, rfl, .inl (SqL.of upd_same), _, _, rfl, rfl, ?_⟩
    refine ⟨by rw [upd_ne ncp.symm, upd_ne nlp.symm, upd_same], [(kD, V.ref l), (kS, V.int _)], rfl, by show 2 ≤ 15; decide, ?_⟩
    rw [dkv_m]
    generalize ((362436069 + 8722 : Int) + ((cutV (ns.map V.int) none (some 63)).length : Int)) = st0
    have s1 : Same (upd (upd H p (.dK [])) l (.lst [])) (upd (upd (upd H p (.dK [])) l (.lst [])) c (.lst (cutV (ns.map V.int) none (some 63)))) := same_new nc
    generalize hH1 : upd (upd (upd H p (.dK [])) l (.lst [])) c (.lst (cutV (ns.map V.int) none (some 63))) = H1 at s1
    have l1 : H1 l = some (.lst []) := s1 _ _ upd_same
    have s2 : Same H (upd H1 p (.dK (dkv (.ref l) (.int st0)))) := fun b o e => by
      rw [upd_ne (ne_of_none e np)]
      exact s1 _ _ (s0 _ _ e)
    refine ⟨.ref a, rfl, 63, rfl, a, _, rfl, s2.seq hS, fun c2 nc2 => ?_⟩
    have e63 : cutV (ns.map V.int) none (some 63) = ns.map V.int := by
      unfold cutV
      rw [HT.sIx_none, show HT.sIx (ns.map V.int).length (ns.map V.int).length (some 63) = min 63 (ns.map V.int).length from HT.sIx_nat _ _ 63, List.drop_zero, Nat.sub_zero, List.length_map]
      exact List.take_of_length_le (by rw [List.length_map]; omega)
    rw [e63]
    have c2p : c2 ≠ p := fun z => by rw [z, upd_same] at nc2; cases nc2
    have c2l : c2 ≠ l := fun z => by rw [z, upd_ne nlp, l1] at nc2; cases nc2
    refine ⟨c2, rfl, ⟨_, SqL.of upd_same⟩, for_list (K := K) (a := c2) (xs := ns.map V.int) (fun i σ H2 => ∃ v2 v3 l ds st, σ = [some (.ref a), some (.ref p), v2, v3] ∧ Same H H2 ∧ H2 c2 = some (.lst (ns.map V.int)) ∧ H2 p = some (.dK (dkv (.ref l) (.int st))) ∧ H2 l = some (.lst (ds.map V.int)) ∧ ds.length ≤ i ∧ H l = none ∧ c2 ≠ l)
      ⟨none, none, l, [], st0, rfl, s2.trans (same_new nc2), upd_same, by rw [upd_ne c2p.symm, upd_same], by rw [upd_ne c2l.symm, upd_ne nlp, l1]; rfl, Nat.le_refl _, nl0, c2l⟩ (fun i σ H2 _ ⟨_, _, _, _, _, _, _, h, _⟩ => SqL.of h) ?_ ?_⟩
    · rintro i y σ H2 hi ⟨v2, v3, l, ds, st, rfl, sm, hc, hp, hl, hd, nl, ncl⟩
      have hil : i < ns.length := by
        have := (List.getElem?_eq_some_iff.mp hi).1
        rw [List.length_map] at this
        exact this
      obtain ⟨z, rfl⟩ : ∃ z, y = V.int z := by
        rw [List.getElem?_map] at hi
        cases e : ns[i]? with
        | none => rw [e] at hi; cases hi
        | some z => rw [e] at hi; exact ⟨z, (Option.some.inj hi).symm⟩
      have nlp : l ≠ p := ne_of hl hp (by intro z; cases z)
      refine ⟨.int z, rfl, z, rfl, ?_⟩
      refine ⟨_, _, rfl, rfl, ⟨by decide, by decide, by decide⟩, _, _, rfl, rfl, _, rfl, ?_⟩
      refine join2 (H2 := H2) (R := fun H3 => ∃ (l3 : Addr) (ds3 : List Int), Same H H3 ∧ H3 c2 = some (.lst (ns.map V.int)) ∧ H3 p = some (.dK (dkv (.ref l3) (.int st))) ∧ H3 l3 = some (.lst (ds3.map V.int)) ∧ ds3.length ≤ i + 1 ∧ H l3 = none ∧ c2 ≠ l3 ∧ l3 ≠ p)
        (fun H3 hR => ?_) (fun _ => ⟨l, ds, sm, hc, hp, hl, by omega, nl, ncl, nlp⟩) (fun _ tail => ?_)
      rotate_left
      · refine ⟨.int z, rfl, z, rfl, ?_⟩
        generalize (if z < 0 then -z else z) = wz
        refine ⟨by show 1 ≤ sizeLine; decide, fun l1 nl1 => ⟨.ref p, rfl, p, .ref l, rfl, ?_⟩⟩
        have n1p : l1 ≠ p := (ne_of_none hp nl1).symm
        have n1l : l1 ≠ l := (ne_of_none hl nl1).symm
        have n1c : l1 ≠ c2 := (ne_of_none hc nl1).symm
        have hp1 : upd H2 l1 (.lst [.int wz]) p = some (.dK (dkv (.ref l) (.int st))) := by rw [upd_ne n1p.symm]; exact hp
        refine ⟨by rw [← dkv_d (.ref l) (.int st)]; exact DGet.k (k := kD) hp1, l1, l, _, _, rfl, rfl, upd_same, by rw [upd_ne n1l.symm]; exact hl, by rw [List.length_map]; exact sz (by show 1 + ds.length ≤ 100000; omega), fun l2 nl2 => ?_⟩
        have n2p : l2 ≠ p := (ne_of_none hp1 nl2).symm
        have n2c : l2 ≠ c2 := fun z => by rw [z, upd_ne n1c.symm, hc] at nl2; cases nl2
        have sm2 : Same H (upd (upd H2 l1 (.lst [.int wz])) l2 (.lst ([.int wz] ++ ds.map V.int))) := (sm.trans (same_new nl1)).trans (same_new nl2)
        have hp2 : (upd (upd H2 l1 (.lst [.int wz])) l2 (.lst ([.int wz] ++ ds.map V.int))) p = some (.dK (dkv (.ref l) (.int st))) := by rw [upd_ne n2p.symm]; exact hp1
        refine ⟨.ref p, rfl, p, _, rfl, DPut.k (k := kD) hp2 (by show 2 < sizeLine; decide), ?_⟩
        rw [dkv_pd]
        have nl2' : H l2 = none := (sm.trans (same_new nl1)).free nl2
        refine tail (upd (upd (upd H2 l1 (.lst [.int wz])) l2 (.lst ([.int wz] ++ ds.map V.int))) p (.dK (dkv (.ref l2) (.int st)))) ⟨l2, wz :: ds, (fun b o e => by rw [upd_ne (ne_of_none e np)]; exact sm2 _ _ e), ?_, upd_same, ?_, (by rw [List.length_cons]; omega), nl2', n2c.symm, n2p⟩
        · rw [upd_ne c2p, upd_ne n2c.symm, upd_ne n1c.symm]
          exact hc
        · rw [upd_ne n2p, upd_same]
          rfl
      · obtain ⟨l3, ds3, sm3, hc3, hp3, hl3, hd3, nl3, ncl3, nlp3⟩ := hR
        refine ⟨.int z, rfl, z, rfl, 2, _, rfl, rfl, .inl ⟨by decide, by decide⟩, .int z, rfl, z, 0, rfl, rfl, .inr ⟨_, rfl, ?_⟩⟩
        refine ⟨_, _, rfl, rfl, ?_⟩
        generalize (2 * (if z < 0 then -z else z) + (if decide (z < 0) = true then (1 : Int) else 0)) = wz
        refine ⟨.ref p, rfl, p, .int st, rfl, by rw [← dkv_s (.ref l3) (.int st)]; exact DGet.k (k := kS) hp3, ?_⟩
        refine ⟨_, rfl, _, _, rfl, rfl, _, 1, rfl, rfl, _, 1181783497276652981, rfl, rfl, .inr ⟨by decide, by decide⟩, _, 521288629, rfl, rfl, ?_⟩
        refine .inl ⟨_, rfl, ?_⟩
        refine ⟨_, 2305843009213693951, rfl, rfl, by show (0 : Int) < 2305843009213693951; decide, .ref p, rfl, p, _, rfl, DPut.k (k := kS) hp3 (by show 2 < sizeLine; decide), ?_⟩
        rw [dkv_ps]
        refine ⟨_, _, l3, ds3, _, rfl, fun b o e => ?_, ?_, upd_same, ?_, hd3, nl3, ncl3⟩
        · rw [upd_ne (ne_of_none e np)]
          exact sm3 _ _ e
        · rw [upd_ne c2p]
          exact hc3
        · rw [upd_ne nlp3]
          exact hl3
    · rintro σ H2 ⟨v2, v3, l, ds, st, rfl, sm, hc, hp, hl, hd, nl, ncl⟩
      rw [List.length_map] at hd
      exact ⟨.ref p, rfl, q H2 p l sm np nl ⟨ds, st, hp, hl, by omega⟩⟩
end
end Kr
namespace Kr
open PySem PySem.Spec PyProof.Rows L2
def spDraw : Sp := fun vs H Q _ => ∃ (p l : Addr) (m : Int), vs = [.ref p, .int m] ∧ Deck H p l ∧ m < 1073741824 ∧ ∀ H' r, Deck H' p l → Ext p l H H' → 0 ≤ r → (r < m ∨ r = 0) → Q (.int r) H'
theorem dp_ints {K : PySem.W.Frag} {H : Hp} : ∀ ds : List Int, DpAll K H (ds.map V.int) (ds.map PyData.int)
  | [] => .nil
  | d :: ds => .cons (.int d) (dp_ints ds)
theorem lay_ints : ∀ ds : List Int, PyData.canLayAll0 (ds.map PyData.int) = true
  | [] => by simp [PyData.canLayAll0]
  | d :: ds => by simp [PyData.canLayAll0, PyData.canLay0, lay_ints ds]
theorem dep_ints : ∀ ds : List Int, PyData.depthAll (ds.map PyData.int) ≤ 1
  | [] => by simp [PyData.depthAll]
  | d :: ds => by
    have := dep_ints ds
    simp [PyData.depthAll, PyData.depth]
    omega
theorem shaped_ints (ds : List Int) : SeqAt.shaped (.list (ds.map PyData.int)) = true := by
  unfold SeqAt.shaped
  have := dep_ints ds
  simp [PyData.canLay0, lay_ints ds, PyData.depth]
  omega
theorem eqv_ints_nil (ds : List Int) : PyData.eqv (.list (ds.map PyData.int)) (.list []) = decide (ds = []) := by
  cases ds <;> simp [PyData.eqv, PyData.eqvAll]
theorem Ext.new {p l q : Addr} {H H' : Hp} {o : HO} (e : Ext p l H H') (h : H' q = none) : Ext p l H (upd H' q o) := fun b x hb => by
  have h2 := e b x hb
  obtain ⟨h3, h4, h5⟩ := hid_some h2
  rw [hid_ne h3 h4, upd_ne (ne_of_none h5 h)]
  exact h5
theorem Ext.at {p l q : Addr} {H H' : Hp} {o : HO} (e : Ext p l H H') (h : q = p ∨ q = l) : Ext p l H (upd H' q o) := fun b x hb => by
  have h2 := e b x hb
  obtain ⟨h3, h4, h5⟩ := hid_some h2
  have hq : b ≠ q := fun z => h.elim (fun w => h3 (z.trans w)) fun w => h4 (z.trans w)
  rw [hid_ne h3 h4, upd_ne hq]
  exact h5
section
variable {P : Program} {w : World} {K : PySem.W.Frag} {mg : Str → Option Value} {base : Heap}
theorem scDraw : FnScope ["deck", "many", "whole", "one", "two"] ["deck", "many"] (defScope sDraw) := ⟨rfl, rfl, rfl, by decide +kernel, rfl, by decide +kernel, by decide +kernel⟩
theorem ok_draw {f : Addr} {fd : FuncData} {k : Nat} (F : Fun K "_law_draw" "_law_draw" sDraw f fd) (B : Bi mg) : FnOk P w K mg base CX0 (k + 1) f fd ["deck", "many"] spDraw := by
  refine F.ok scDraw (fun vs H Q E h => ?_) (fun cdv A outer s H vs Q E hr h => ?_)
  · obtain ⟨p, l, m, rfl, _⟩ := h
    rfl
  · obtain ⟨p, l, m, rfl, D, hm, q⟩ := h
    have hu := hu_of hr
    refine ⟨_, pss_cons (ps_if (pt_cmpR op_lt (pv 1) pe_int (nomark _)) (pss_one (ps_ret pe_int)) pss_nil)
      (pss_cons (ps_if (pt_cmpR (op_neD hr.units) (pe_dget hu (pv 0) pe_str (fun _ _ => rfl)) (pe_lst pa_nil) (nomark _))
        (pss_cons (ps_set (i := 2) scDraw.nd rfl (.inl rfl) (pe_bm0 PySem.F.plainAttrs_list PySem.F.slot_list_pop PySem.F.type_list_pop mt_pop (pe_dget hu (pv 0) pe_str (fun _ _ => rfl))))
        (pss_cons (ps_if (pt_cmpR op_ge (pv 2) (pv 1) (nomark _)) (pss_one (ps_expr (pe_bm PySem.F.plainAttrs_list PySem.F.slot_list_append PySem.F.type_list_append mt_append (pe_dget hu (pv 0) pe_str (fun _ _ => rfl)) (pa_cons (pe_op op_fdiv (pv 2) (pv 1)) pa_nil)))) pss_nil)
        (pss_one (ps_ret (pe_op op_mod (pe_callTy call_int1 (by rfl) B.int (by decide +kernel) (pa_cons (pv 2) pa_nil)) (pv 1)))))) pss_nil)
      (pss_cons (ps_set (i := 3) scDraw.nd rfl (.inl rfl) (pe_op op_mod (pe_callTy call_int1 (by rfl) B.int (by decide +kernel) (pa_cons (pe_op op_add (pe_op op_mul (pe_dget hu (pv 0) pe_str (fun _ _ => rfl)) pe_int) pe_int) pa_nil)) pe_int))
      (pss_cons (ps_dput hu (pv 0) pe_str (pv 3) rfl)
      (pss_cons (ps_set (i := 4) scDraw.nd rfl (.inl rfl) (pe_op op_mod (pe_callTy call_int1 (by rfl) B.int (by decide +kernel) (pa_cons (pe_op op_add (pe_op op_add (pe_op op_mul (pv 3) (pv 3)) (pe_op op_mul pe_int (pv 3))) pe_int) pa_nil)) pe_int))
      (pss_one (ps_ret (pe_op op_mod (pe_callTy call_int1 (by rfl) B.int (by decide +kernel) (pa_cons (pe_op op_fdiv (pv 4) pe_int) pa_nil)) (pv 1)))))))), ?_⟩
    refine ⟨.int m, rfl, m, 2, rfl, rfl, _, rfl, ite2 (fun _ => ?_) (fun hm2 => ?_)⟩
    · exact q H 0 D Ext.rfl (Int.le_refl _) (.inr rfl)
    have hm1 : ¬ m < 2 := fun z => hm2 (decide_eq_true z)
    obtain ⟨ds, st, hp, hl, hd⟩ := id D.ex
    have hgd : DGet H p (V.str "deep") (some (.ref l)) := by rw [← dkv_d (.ref l) (.int st)]; exact DGet.k (k := kD) hp
    refine ⟨.ref p, rfl, p, .ref l, rfl, hgd, by show 0 ≤ sizeLine; decide, fun e ne => ?_⟩
    have nep : e ≠ p := (ne_of_none hp ne).symm
    have nel : e ≠ l := (ne_of_none hl ne).symm
    have nlp : l ≠ p := D.ne.symm
    refine ⟨.list (ds.map PyData.int), .list [], .lst (SqL.of (by rw [upd_ne nel.symm]; exact hl)) (dp_ints ds), .lst (SqL.of upd_same) .nil, shaped_ints ds, shaped_ints [], ?_⟩
    rw [eqv_ints_nil]
    have hp1 : upd H e (.lst []) p = some (.dK (dkv (.ref l) (.int st))) := by rw [upd_ne nep.symm]; exact hp
    have hl1 : upd H e (.lst []) l = some (.lst (ds.map V.int)) := by rw [upd_ne nel.symm]; exact hl
    have E1 : Ext p l H (upd H e (.lst [])) := Ext.rfl.new ne
    generalize upd H e (.lst []) = H1 at hp1 hl1 E1
    have hgd1 : DGet H1 p (V.str "deep") (some (.ref l)) := by rw [← dkv_d (.ref l) (.int st)]; exact DGet.k (k := kD) hp1
    have hgs1 : DGet H1 p (V.str "state") (some (.int st)) := by rw [← dkv_s (.ref l) (.int st)]; exact DGet.k (k := kS) hp1
    refine ⟨_, rfl, ?_⟩
    by_cases hds : ds = []
    · -- mixed numbers
      rw [decide_eq_true hds]
      refine iteF ?_
      refine ⟨.ref p, rfl, p, .int st, rfl, hgs1, _, _, rfl, rfl, .inr ⟨by decide, by decide⟩, _, _, rfl, rfl, .inl ⟨_, rfl, _, _, rfl, rfl, (by show (0 : Int) < 2305843009213693951; decide), ?_⟩⟩
      dsimp only
      have o0 : 0 ≤ ((st * 1181783497276652981 + 88172645463325) % 2305843009213693951 : Int) := Int.emod_nonneg _ (by decide)
      have o1 : ((st * 1181783497276652981 + 88172645463325) % 2305843009213693951 : Int) < 2305843009213693951 := Int.emod_lt_of_pos _ (by decide)
      generalize ((st * 1181783497276652981 + 88172645463325) % 2305843009213693951 : Int) = one at o0 o1
      refine ⟨.int one, rfl, .ref p, rfl, p, _, rfl, DPut.k (k := kS) hp1 (by show 2 < sizeLine; decide), ?_⟩
      rw [dkv_ps]
      refine ⟨.int one, rfl, .int one, rfl, _, _, rfl, rfl, .inl ⟨by omega, by omega⟩, .int one, rfl, _, _, rfl, rfl, .inl ⟨by decide, by decide⟩, _, _, rfl, rfl, _, _, rfl, rfl, .inl ⟨_, rfl, _, _, rfl, rfl, (by show (0 : Int) < 2305843009213693921; decide), ?_⟩⟩
      dsimp only
      generalize ((one * one + 374761393 * one + 11) % 2305843009213693921 : Int) = two
      refine ⟨.int two, rfl, _, _, rfl, rfl, ⟨by decide, by decide⟩, .inl ⟨_, rfl, .int m, rfl, _, _, rfl, rfl, (by show 0 < m; omega), ?_⟩⟩
      refine q _ _ ⟨ds, one, upd_same, by rw [upd_ne nlp]; exact hl1, hd⟩ (E1.at (.inl rfl)) (Int.emod_nonneg _ (by omega)) (.inl (Int.emod_lt_of_pos _ (by omega)))
    · -- a digit of a great cell
      rw [decide_eq_false hds]
      refine iteT ?_
      obtain ⟨last, hlast⟩ : ∃ y, ds[ds.length - 1]? = some y := ⟨_, List.getElem?_eq_getElem (by
        have := List.length_pos_iff.mpr hds
        omega)⟩
      refine ⟨.ref p, rfl, p, .ref l, rfl, hgd1, .inl ⟨rfl, _, SqL.of hl1⟩, l, _, .int last, rfl, rfl, hl1, by rw [List.length_map, List.getElem?_map, hlast]; rfl, ?_⟩
      rw [← List.map_dropLast]
      have hdl : ds.dropLast.length ≤ 62 := by rw [List.length_dropLast]; omega
      have hp2 : upd H1 l (.lst (ds.dropLast.map V.int)) p = some (.dK (dkv (.ref l) (.int st))) := by rw [upd_ne nlp.symm]; exact hp1
      have hl2 : upd H1 l (.lst (ds.dropLast.map V.int)) l = some (.lst (ds.dropLast.map V.int)) := upd_same
      have E2 : Ext p l H (upd H1 l (.lst (ds.dropLast.map V.int))) := E1.at (.inr rfl)
      generalize ds.dropLast = ds2 at hdl hp2 hl2 E2
      generalize upd H1 l (.lst (ds2.map V.int)) = H2 at hp2 hl2 E2
      have hgd2 : DGet H2 p (V.str "deep") (some (.ref l)) := by rw [← dkv_d (.ref l) (.int st)]; exact DGet.k (k := kD) hp2
      refine ⟨.int last, rfl, .int m, rfl, _, _, rfl, rfl, _, rfl, ?_⟩
      refine join2 (H2 := H2) (R := fun H3 => ∃ ds3 : List Int, H3 p = some (.dK (dkv (.ref l) (.int st))) ∧ H3 l = some (.lst (ds3.map V.int)) ∧ ds3.length ≤ 63 ∧ Ext p l H H3)
        (fun H3 hR => ?_) (fun _ => ⟨ds2, hp2, hl2, by omega, E2⟩) (fun _ tail => ?_)
      · obtain ⟨ds3, hp3, hl3, hd3, E3⟩ := hR
        refine ⟨.int last, rfl, .inl ⟨_, rfl, .int m, rfl, _, _, rfl, rfl, (by show 0 < m; omega), ?_⟩⟩
        exact q _ _ ⟨ds3, st, hp3, hl3, hd3⟩ E3 (Int.emod_nonneg _ (by omega)) (.inl (Int.emod_lt_of_pos _ (by omega)))
      · refine ⟨.ref p, rfl, p, .ref l, rfl, hgd2, .inl ⟨rfl, _, SqL.of hl2⟩, .int last, rfl, .int m, rfl, _, _, rfl, rfl, ⟨by omega, hm⟩, l, _, _, rfl, rfl, hl2, szl (by rw [List.length_map]; omega), ?_⟩
        refine tail _ ⟨ds2 ++ [last / m], by rw [upd_ne nlp.symm]; exact hp2, ?_, by rw [List.length_append]; show _ + 1 ≤ 63; omega, E2.at (.inr rfl)⟩
        rw [upd_same, List.map_append]
        rfl
end
end Kr
namespace Kr
open PySem PySem.Spec PyProof.Rows L2
/-! ### defs by their names -/
structure Df (K : PySem.W.Frag) (mg : Str → Option Value) (x : Str) (st : Stmt) (ps : List Str) : Prop where
  ex : ∃ f fd, Fun K x x st f fd ∧ Binds K fd ps [] ∧ mg x = some (.ref f)
structure Ok (P : Program) (w : World) (K : PySem.W.Frag) (mg : Str → Option Value) (base : Heap) (k : Nat) (x : Str) (ps : List Str) (sp : Sp) : Prop where
  ex : ∃ f fd, FnOk P w K mg base CX0 k f fd ps sp ∧ PySem.W.keepIn K (.ref f) = true ∧ mg x = some (.ref f) ∧ Binds K fd ps []
section
variable {P : Program} {w : World} {K : PySem.W.Frag} {mg : Str → Option Value} {base : Heap}
theorem Df.ok {x : Str} {st : Stmt} {ps : List Str} {k : Nat} {sp : Sp} (D : Df K mg x st ps) (h : ∀ f fd, Fun K x x st f fd → FnOk P w K mg base CX0 k f fd ps sp) : Ok P w K mg base k x ps sp := by
  obtain ⟨f, fd, F, b, g⟩ := D.ex
  exact ⟨f, fd, h f fd F, F.kp, g, b⟩
theorem Ok.mono {x : Str} {ps : List Str} {j k : Nat} {sp : Sp} (D : Ok P w K mg base j x ps sp) (h : j ≤ k) : Ok P w K mg base k x ps sp := by
  obtain ⟨f, fd, F, r⟩ := D.ex
  exact ⟨f, fd, F.mono h, r⟩
end
theorem pe_fn {X : Cx} {k : Nat} {x : Str} {ps : List Str} {sp : Sp} {p pos : Pos} {e : Expr} {es : List Expr} {t : TA} (D : Ok X.prog X.w X.K X.mg X.base k x ps sp) (hr : Room k X.A) (hg : Gl X x) (ha : PA X (e :: es) t)
    (hdb : (x == ("__debug__" : Str)) = false := by decide) (he : starEach (e :: es) X.env = (false, eval e X.env) :: starEach es X.env := by rfl) (hpl : (backTo pos (starEach es X.env)).any (·.1) = false := by rfl) :
    PE X (.Call (.Name x p) (e :: es) [] pos) (tCall sp [] E0 t) := by
  obtain ⟨f, fd, F, kp, g, b⟩ := D.ex
  exact pe_call F hr hg g kp b .nil pass0 ha hdb he hpl
theorem atI_int {α : Type} {xs : List α} {r : Int} {v : α} (h0 : 0 ≤ r) (h : xs[r.toNat]? = some v) : atI xs r = some v := by
  have e : r = ((r.toNat : Nat) : Int) := by omega
  rw [e]
  exact atI_nat h
/-- one of some items -/
def spPick : Sp := fun vs H Q _ => ∃ (p l a : Addr) (xs : List V), vs = [.ref p, .ref a] ∧ Deck H p l ∧ hid p l H a = some (.lst xs) ∧ xs ≠ [] ∧ xs.length < 1000000 ∧ ∀ H' v, Deck H' p l → Ext p l H H' → v ∈ xs → Q v H'
section
variable {P : Program} {w : World} {K : PySem.W.Frag} {mg : Str → Option Value} {base : Heap}
theorem o_draw (D : Df K mg "_law_draw" sDraw ["deck", "many"]) (B : Bi mg) : Ok P w K mg base 1 "_law_draw" ["deck", "many"] spDraw := D.ok fun _ _ F => ok_draw F B
theorem o_deck (D : Df K mg "_law_deck" sDeck ["script"]) (B : Bi mg) : Ok P w K mg base 1 "_law_deck" ["script"] (spDeck K) := D.ok fun _ _ F => ok_deck F B
theorem scPick : FnScope ["deck", "some"] ["deck", "some"] (defScope sPick) := ⟨rfl, rfl, rfl, by decide +kernel, rfl, by decide +kernel, by decide +kernel⟩
theorem o_pick (D : Df K mg "_law_pick" sPick ["deck", "some"]) (B : Bi mg) (d : Ok P w K mg base 1 "_law_draw" ["deck", "many"] spDraw) : Ok P w K mg base 2 "_law_pick" ["deck", "some"] spPick := by
  refine D.ok fun f fd F => F.ok scPick (fun vs H Q E h => ?_) (fun cdv A outer s H vs Q E hr h => ?_)
  · obtain ⟨p, l, a, xs, rfl, _⟩ := h
    rfl
  · obtain ⟨p, l, a, xs, rfl, Dk, ha, hne, hlen, q⟩ := h
    refine ⟨_, pss_one (ps_ret (pe_ix ix_list (pv 1) (pe_fn d hr (by rfl) (pa_cons (pv 0) (pa_cons (pe_callB call_len_seq (by rfl) B.len boot_len (pa_cons (pv 1) pa_nil)) pa_nil))) (fun _ _ => rfl))), ?_⟩
    have hpos := List.length_pos_iff.mpr hne
    refine ⟨.ref a, rfl, .ref p, rfl, .ref a, rfl, a, xs, rfl, .inl (SqL.of (hid_same p l H _ _ ha)), p, l, _, rfl, Dk, by show (xs.length : Int) < 1073741824; omega, fun H' r Dk' e h0 h1 => ?_⟩
    have hr2 : r.toNat < xs.length := by omega
    refine ⟨a, xs, r, xs[r.toNat], rfl, rfl, SqL.of (hid_same p l H' _ _ (e _ _ ha)), ?_, q H' _ Dk' e (List.getElem_mem hr2)⟩
    exact atI_int h0 (List.getElem?_eq_getElem hr2)
end
end Kr
namespace Kr
open PySem PySem.Spec PyProof.Rows L2
/-! ### a module's name that holds a built-in (from math import comb) -/
theorem pe_callBG {X : Cx} {id : String} {r : List V → Hp → VK → Prop} {x : Str} {e : Expr} {es : List Expr} {t : TA} {p pos : Pos} (hc : CallR X (.builtin id) r) (hg : Gl X x) (hm : X.mg x = some (.builtin id)) (ha : PA X (e :: es) t) (hdb : (x == ("__debug__" : Str)) = false := by decide)
    (he : starEach (e :: es) X.env = (false, eval e X.env) :: starEach es X.env := by rfl) (hpl : (backTo pos (starEach es X.env)).any (·.1) = false := by rfl) : PE X (.Call (.Name x p) (e :: es) [] pos) (tCB r t) :=
  ⟨fun pn sh st hp W Iv hh => wpAny_Call_Name_kw (ld_glob Iv hg hm (PyProof.Rows.callWith_builtin1 (thn (ha.run pos pn sh st hp _ Iv hh) fun us s1 ⟨vs, H1, I1, r1, q1⟩ => hc pn s1 st H1 vs us W I1 r1 q1) he hpl) hdb)⟩
/-- comb(a, b) -/
def rComb : List V → Hp → VK → Prop := fun vs H Q => ∃ a b : Int, vs = [.int a, .int b] ∧ 0 ≤ a ∧ 0 ≤ b ∧ a < 1000 ∧ Q (.int (PySem.W.mcComb a b)) H
theorem call_comb {X : Cx} : CallR X (.builtin "math.comb") rComb := by
  intro pn sh st hp xs us Q Iv r h
  obtain ⟨a, b, rfl, h1, h2, h3, q⟩ := h
  cases r with
  | cons ra r =>
    cases r with
    | cons rb r =>
      cases r
      obtain ⟨t, rfl⟩ := ra
      obtain ⟨u, rfl⟩ := rb
      exact PySem.W.mc_comb h1 h2 (by omega) (.inr (by omega)) fun _ => ⟨.int (PySem.W.mcComb a b), hp, Iv.kept (t' := sh.toks + 1) (fun _ _ e => e), ⟨_, rfl⟩, q⟩
end Kr
namespace Kr
open PySem PySem.Spec PyProof.Rows L2
/-! ### data without lists and dicts: it stays while tuples stay -/
def TS (H H' : Hp) : Prop := ∀ b xs, H b = some (.tup xs) → H' b = some (.tup xs)
theorem TS.rfl {H : Hp} : TS H H := fun _ _ h => h
theorem TS.trans {H H' H'' : Hp} (a : TS H H') (b : TS H' H'') : TS H H'' := fun c xs h => b c xs (a c xs h)
theorem TS.of {H H' : Hp} (s : Same H H') : TS H H' := fun b xs h => s _ _ h
theorem TS.lst {H : Hp} {D : Addr} {xs ys : List V} (h : H D = some (.lst xs)) : TS H (upd H D (.lst ys)) := fun b zs e => by
  rw [upd_ne (ne_of e h (by intro z; cases z))]
  exact e
theorem TS.new {H : Hp} {q : Addr} {o : HO} (h : H q = none) : TS H (upd H q o) := fun b zs e => by
  rw [upd_ne (ne_of_none e h)]
  exact e
mutual
def flatT : PyData → Bool
  | .none | .bool _ | .int _ | .str _ => true
  | .tuple xs => flatTA xs
  | .list _ | .dict _ => false
def flatTA : List PyData → Bool
  | [] => true
  | x :: xs => flatT x && flatTA xs
end
mutual
theorem Dq.upT {H H' : Hp} (s : TS H H') : ∀ {v : V} {d : PyData}, flatT d = true → Dq H v d → Dq H' v d
  | _, _, _, .non => .non
  | _, _, _, .bl b => .bl b
  | _, _, _, .int i => .int i
  | _, _, _, .str x => .str x
  | _, _, h, .lst _ _ => by simp [flatT] at h
  | _, _, h, .tup e q => .tup (s _ _ e) (DqA.upT s (by simpa [flatT] using h) q)
  | _, _, h, .dic _ => by simp [flatT] at h
theorem DqA.upT {H H' : Hp} (s : TS H H') : ∀ {vs : List V} {ds : List PyData}, flatTA ds = true → DqA H vs ds → DqA H' vs ds
  | _, _, _, .nil => .nil
  | _ :: _, d :: ds, h, .cons a t => by
    have h2 : flatT d = true ∧ flatTA ds = true := by simpa [flatTA] using h
    exact .cons (Dq.upT s h2.1 a) (DqA.upT s h2.2 t)
end
theorem flatTA_of : ∀ {ds : List PyData}, (∀ d ∈ ds, flatT d = true) → flatTA ds = true
  | [], _ => rfl
  | d :: ds, h => by
    have h1 := h d List.mem_cons_self
    have h2 := flatTA_of (ds := ds) fun e he => h e (List.mem_cons_of_mem _ he)
    simp [flatTA, h1, h2]
mutual
/-- as the layer's own data, for == -/
theorem Dq.dp {K : PySem.W.Frag} {H : Hp} : ∀ {v : V} {d : PyData}, flatT d = true → Dq H v d → Dp K H v d
  | _, _, _, .non => .non
  | _, _, _, .bl b => .bl b
  | _, _, _, .int i => .int i
  | _, _, _, .str x => .str x
  | _, _, h, .lst _ _ => by simp [flatT] at h
  | _, _, h, .tup e q => .tup (SqT.of e) (DqA.dp (by simpa [flatT] using h) q)
  | _, _, h, .dic _ => by simp [flatT] at h
theorem DqA.dp {K : PySem.W.Frag} {H : Hp} : ∀ {vs : List V} {ds : List PyData}, flatTA ds = true → DqA H vs ds → DpAll K H vs ds
  | _, _, _, .nil => .nil
  | _ :: _, d :: ds, h, .cons a t => by
    have h2 : flatT d = true ∧ flatTA ds = true := by simpa [flatTA] using h
    exact .cons (Dq.dp h2.1 a) (DqA.dp h2.2 t)
end
theorem dqa_snoc {H : Hp} {vs : List V} {ds : List PyData} {v : V} {d : PyData} (a : DqA H vs ds) (b : Dq H v d) : DqA H (vs ++ [v]) (ds ++ [d]) := a.app (.one b)
/-! ### rows of signs -/
abbrev Row := List (Bool × Bool)
def bi (b : Bool) : Int := if b = true then 1 else 0
def pairD (p : Bool × Bool) : PyData := .tuple [.int (bi p.1), .int (bi p.2)]
def rowD (r : Row) : PyData := .tuple (r.map pairD)
theorem pair_flat (p : Bool × Bool) : flatT (pairD p) = true := by simp [pairD, flatT, flatTA]
theorem pairs_flat (r : Row) : flatTA (r.map pairD) = true := flatTA_of fun d hd => by
  obtain ⟨p, _, rfl⟩ := List.mem_map.mp hd
  exact pair_flat p
theorem row_flat (r : Row) : flatT (rowD r) = true := by
  simp only [rowD, flatT]
  exact pairs_flat r
theorem bi_inj {a b : Bool} : bi a = bi b ↔ a = b := by cases a <;> cases b <;> decide
theorem bi_one (a : Bool) : decide (bi a = 1) = a := by cases a <;> rfl
theorem bi_xor (a b : Bool) : Builtin.bitXor (bi a) (bi b) = bi (a ^^ b) := by cases a <;> cases b <;> decide +kernel
theorem bi_sum (a b : Bool) : (bi a + bi b) % 2 = bi (a ^^ b) := by cases a <;> cases b <;> decide +kernel
theorem pair_at {H : Hp} {b : Addr} {p : Bool × Bool} (h : H b = some (.tup [.int (bi p.1), .int (bi p.2)])) : Dq H (.ref b) (pairD p) := .tup h (.cons (.int _) (.cons (.int _) .nil))
theorem pair_inv {H : Hp} {v : V} {p : Bool × Bool} (h : Dq H v (pairD p)) : ∃ b, v = .ref b ∧ H b = some (.tup [.int (bi p.1), .int (bi p.2)]) := by
  obtain ⟨b, xs, rfl, e, q⟩ := Dq.tup_inv (show Dq H v (.tuple [.int (bi p.1), .int (bi p.2)]) from h)
  cases q with
  | cons h1 q =>
    cases q with
    | cons h2 q =>
      cases q
      cases h1
      cases h2
      exact ⟨b, rfl, e⟩
theorem row_inv {H : Hp} {v : V} {r : Row} (h : Dq H v (rowD r)) : ∃ a xs, v = .ref a ∧ H a = some (.tup xs) ∧ DqA H xs (r.map pairD) := Dq.tup_inv h
theorem pairs_get {H : Hp} {xs : List V} {r : Row} {i : Nat} {y : V} (q : DqA H xs (r.map pairD)) (e : xs[i]? = some y) : ∃ p, r[i]? = some p ∧ ∃ b, y = .ref b ∧ H b = some (.tup [.int (bi p.1), .int (bi p.2)]) := by
  obtain ⟨d, h1, h2⟩ := q.get e
  rw [List.getElem?_map] at h1
  cases hr : r[i]? with
  | none => rw [hr] at h1; cases h1
  | some p =>
    rw [hr] at h1
    cases Option.some.inj h1
    exact ⟨p, rfl, pair_inv h2⟩
theorem pairs_len {H : Hp} {xs : List V} {r : Row} (q : DqA H xs (r.map pairD)) : xs.length = r.length := by rw [q.len, List.length_map]
theorem pairD_inj {p q : Bool × Bool} : PyData.eqv (pairD p) (pairD q) = decide (p = q) := by
  obtain ⟨a, b⟩ := p
  obtain ⟨c, d⟩ := q
  cases a <;> cases b <;> cases c <;> cases d <;> decide +kernel
theorem rows_eqv : ∀ a b : Row, PyData.eqv (rowD a) (rowD b) = decide (a = b)
  | [], [] => by simp [rowD, PyData.eqv, PyData.eqvAll]
  | [], _ :: _ => by simp [rowD, PyData.eqv, PyData.eqvAll]
  | _ :: _, [] => by simp [rowD, PyData.eqv, PyData.eqvAll]
  | x :: a, y :: b => by
    have ih := rows_eqv a b
    simp only [rowD, PyData.eqv] at ih
    simp only [rowD, List.map_cons, PyData.eqv, PyData.eqvAll]
    rw [ih, pairD_inj, Bool.eq_iff_iff]
    simp
theorem pairs_lay : ∀ r : Row, PyData.canLayAll0 (r.map pairD) = true ∧ PyData.depthAll (r.map pairD) ≤ 2
  | [] => by simp [PyData.canLayAll0, PyData.depthAll]
  | p :: r => by
    obtain ⟨h1, h2⟩ := pairs_lay r
    simp only [List.map_cons, PyData.canLayAll0, PyData.depthAll, pairD, PyData.canLay0, PyData.depth, h1]
    refine ⟨by simp, by omega⟩
theorem row_shaped (r : Row) : SeqAt.shaped (rowD r) = true := by
  obtain ⟨h1, h2⟩ := pairs_lay r
  unfold SeqAt.shaped
  simp only [rowD, PyData.canLay0, PyData.depth, h1, Bool.true_and, decide_eq_true_eq]
  omega
theorem pair_shaped (p : Bool × Bool) : SeqAt.shaped (pairD p) = true := by
  obtain ⟨a, b⟩ := p
  cases a <;> cases b <;> decide +kernel
/-! ### sums of rows, rows of kinds -/
def addR (a b : Row) : Row := List.zipWith (fun p q => (p.1 ^^ q.1, p.2 ^^ q.2)) a b
def zeroR (n : Nat) : Row := List.replicate (n + 1) (false, false)
def chB (a b : Int) : Bool := if 0 ≤ b then PySem.W.mcComb a b % 2 == 1 else false
def kindR (n k : Nat) : Row := (List.range (n + 1)).map fun (m : Nat) => (chB ((n : Int) - 2 - k) (((m : Nat) : Int) - 1 - k), chB ((n : Int) - 2 - k) (((m : Nat) : Int) - k))
theorem addR_len {a b : Row} (h : a.length = b.length) : (addR a b).length = b.length := by
  unfold addR
  rw [List.length_zipWith, h, Nat.min_self]
theorem zeroR_len (n : Nat) : (zeroR n).length = n + 1 := List.length_replicate
theorem kindR_len (n k : Nat) : (kindR n k).length = n + 1 := by
  unfold kindR
  rw [List.length_map, List.length_range]
theorem addR_zero : ∀ (n : Nat) (r : Row), r.length = n → addR (List.replicate n (false, false)) r = r
  | 0, [], _ => rfl
  | n + 1, p :: r, h => by
    have ih := addR_zero n r (by simpa using h)
    unfold addR at ih ⊢
    rw [List.replicate_succ, List.zipWith_cons_cons, ih]
    simp
  | 0, _ :: _, h => by simp at h
  | _ + 1, [], h => by simp at h
end Kr
namespace Kr
open PySem PySem.Spec PyProof.Rows L2
theorem szm {n : Nat} (h : n ≤ 100000) : n < sizeLine := Nat.lt_of_le_of_lt h (by decide)
theorem walk_rg {n : Nat} : Walk (Itr 0 n) n (fun _ => True) (fun i H x H' => H' = H ∧ x = .int (i : Nat)) := walk_range.mono (fun _ h => h) fun i H x H' _ _ ⟨a, b⟩ => ⟨a, by rw [b]; show V.int (0 + (i : Int)) = _; rw [Int.zero_add]⟩
/-- a comprehension without tests whose items are new data, one for each turn -/
theorem lc_itF {J : It} {n : Nat} {G : Hp → Prop} {Y : Nat → Hp → V → Hp → Prop} (w : Walk J n G Y) {g : TG} {tt : TT} {te : TE} {vs : List Nat} {σ : L2.St} {H1 : Hp} {D : Addr} {Qd : Hp → Prop} (f : Nat → PyData) (nD : H1 D = none) (hn : n ≤ 100000) (hf : ∀ i, i < n → flatT (f i) = true) (hG : ∀ H, Same H1 H → G H)
    (hs : ∀ i x H H' (C : VK) (Cn : Hp → Prop), i < n → Same H1 H → Y i H x H' → (∀ y H4, Same H H4 → Dq H4 y (f i) → C y H4) → g x (wipe σ vs) H' fun σ2 H2 => wipe σ2 vs = wipe σ vs ∧ tt σ2 H2 fun b H3 => if b = true then te σ2 H3 C else Cn H3)
    (hd : ∀ H acc, Same H1 H → H D = some (.lst acc) → DqA H acc ((List.range n).map f) → Qd H) :
    ∃ W : Nat → Nat → Hp → Prop, (∃ m, W 0 m (upd H1 D (.lst []))) ∧ ∀ i m H, W i m H →
      (J.stop i H ∧ Qd H) ∨ (J.go i H ∧ ∃ Nx : Hp → Prop, (∀ H', Nx H' → ∃ m', m' < m ∧ W (i + 1) m' H') ∧ ∀ x H', J.yld i H x H' → g x (wipe σ vs) H' fun σ2 H2 => wipe σ2 vs = wipe σ vs ∧ tt σ2 H2 fun b H3 =>
        if b = true then te σ2 H3 fun y H4 => ∃ acc, H4 D = some (.lst acc) ∧ acc.length < sizeLine ∧ Nx (upd H4 D (.lst (acc ++ [y]))) else Nx H3) := by
  refine lc_it w (fun i H => ∃ acc, H D = some (.lst acc) ∧ Same H1 H ∧ DqA H acc ((List.range i).map f)) ⟨[], upd_same, fun b o e => by rw [upd_ne (ne_of_none e nD)]; exact e, .nil⟩ (fun i H _ ⟨_, _, s, _⟩ => hG H s) (fun i x H H' hi ⟨acc, hD, s, q⟩ y => ?_) fun H ⟨acc, hD, s, q⟩ => hd H acc s hD q
  refine hs i x H H' _ _ hi s y fun z H4 s4 d4 => ⟨acc, s4 _ _ hD, szm (by have := q.len; rw [List.length_map, List.length_range] at this; omega), acc ++ [z], upd_same, fun b o e => ?_, ?_⟩
  · rw [upd_ne (ne_of_none e nD)]
    exact s4 _ _ (s _ _ e)
  · have t : TS H4 (upd H4 D (.lst (acc ++ [z]))) := TS.lst (s4 _ _ hD)
    rw [List.range_succ, List.map_append]
    refine dqa_snoc (DqA.upT t ?_ (q.up s4)) (Dq.upT t (hf i hi) d4)
    exact flatTA_of fun d hd => by
      obtain ⟨j, hj, rfl⟩ := List.mem_map.mp hd
      exact hf j (by have := List.mem_range.mp hj; omega)
end Kr
namespace Kr
open PySem PySem.Spec PyProof.Rows L2
def spChoices : Sp := fun vs H Q _ => ∃ a b : Int, vs = [.int a, .int b] ∧ 0 ≤ a ∧ a < 1000 ∧ Q (.int (if 0 ≤ b then PySem.W.mcComb a b else 0)) H
def spKind : Sp := fun vs H Q _ => ∃ n k : Nat, vs = [.int (n : Int), .int (k : Int)] ∧ k + 2 ≤ n ∧ n ≤ 30 ∧ ∀ H' r, Same H H' → Dq H' r (rowD (kindR n k)) → Q r H'
theorem chB_val (a b : Int) : (if 0 ≤ b then PySem.W.mcComb a b else 0) % 2 = bi (chB a b) := by
  unfold chB
  by_cases h : 0 ≤ b
  · rw [if_pos h, if_pos h]
    have : PySem.W.mcComb a b % 2 = 0 ∨ PySem.W.mcComb a b % 2 = 1 := by omega
    rcases this with e | e <;> rw [e] <;> rfl
  · rw [if_neg h, if_neg h]
    rfl
section
variable {P : Program} {w : World} {K : PySem.W.Frag} {mg : Str → Option Value} {base : Heap}
theorem scCh : FnScope ["many", "some"] ["many", "some"] (defScope sChoices) := ⟨rfl, rfl, rfl, by decide +kernel, rfl, by decide +kernel, by decide +kernel⟩
theorem o_choices (D : Df K mg "_choices" sChoices ["many", "some"]) (B : Bi mg) : Ok P w K mg base 1 "_choices" ["many", "some"] spChoices := by
  refine D.ok fun f fd F => F.ok scCh (fun vs H Q E h => ?_) (fun cdv A outer s H vs Q E hr h => ?_)
  · obtain ⟨a, b, rfl, _⟩ := h
    rfl
  · obtain ⟨a, b, rfl, h0, h1, q⟩ := h
    refine ⟨_, pss_one (ps_ret (pe_ifExp (pt_cmpR op_ge (pv 1) pe_int (nomark _)) (pe_callBG call_comb (by rfl) B.comb (pa_cons (pv 0) (pa_cons (pv 1) pa_nil))) pe_int)), ?_⟩
    refine ⟨.int b, rfl, _, _, rfl, rfl, _, rfl, ite2 (fun hb => ?_) (fun hb => ?_)⟩
    · have hb0 : 0 ≤ b := of_decide_eq_true hb
      rw [if_pos hb0] at q
      exact ⟨_, rfl, _, rfl, a, b, rfl, h0, hb0, h1, q⟩
    · have hb0 : ¬ 0 ≤ b := fun z => hb (decide_eq_true z)
      rw [if_neg hb0] at q
      exact q
theorem scKS : FnScope ["n", "k", "free", "size"] ["n", "k"] (defScope sKindSigns) := ⟨rfl, rfl, rfl, by decide +kernel, rfl, by decide +kernel, by decide +kernel⟩
theorem f_kindSigns {f : Addr} {fd : FuncData} (F : Fun K "kind_signs" "kind_signs" sKindSigns f fd) (B : Bi mg) (oc : Ok P w K mg base 1 "_choices" ["many", "some"] spChoices) : FnOk P w K mg base CX0 2 f fd ["n", "k"] spKind := by
  refine F.ok scKS (fun vs H Q E h => ?_) (fun cdv A outer s H vs Q E hr h => ?_)
  · obtain ⟨n, k, rfl, _⟩ := h
    rfl
  · obtain ⟨n, k, rfl, hk, hn, q⟩ := h
    refine ⟨_, pss_cons (ps_set (i := 2) scKS.nd rfl (.inr rfl) (pe_op op_sub (pe_op op_sub (pv 0) pe_int) (pv 1)))
      (pss_one (ps_ret (pe_callTy call_tuple_of (by rfl) B.tuple (by decide +kernel) (pa_cons
        (pe_lc (own := [("size", 3)]) (g := gName 3) (tt := tYes) rfl scKS.nd (pi_range1 (by rfl) B.range (pa_cons (pe_op op_add (pv 0) pe_int) pa_nil)) (blkOk_by (own := [("size", 3)]) (N := ["n", "k", "free", "size"]) (sc := defScope sKindSigns) (by decide +kernel))
          (fun _ _ _ _ _ => pg_name (i := 3) scKS.nd rfl (.inl rfl)) (fun _ _ _ _ _ => pts_nil)
          (fun _ _ _ _ _ => pe_tup (pa_cons (pe_op op_mod (pe_fn oc hr (by rfl) (pa_cons (pv 2) (pa_cons (pe_op op_sub (pe_op op_sub (pv 3) pe_int) (pv 1)) pa_nil))) pe_int)
            (pa_cons (pe_op op_mod (pe_fn oc hr (by rfl) (pa_cons (pv 2) (pa_cons (pe_op op_sub (pv 3) (pv 1)) pa_nil))) pe_int) pa_nil)))) pa_nil)))), ?_⟩
    refine ⟨.int n, rfl, _, _, rfl, rfl, .int k, rfl, _, _, rfl, rfl, ?_⟩
    refine ⟨.int n, rfl, _, _, rfl, rfl, (n : Int) + 1, rfl, by omega, by omega, fun D nD => ?_⟩
    refine lc_itF walk_rg (fun m => pairD (chB ((n : Int) - 2 - k) ((m : Int) - 1 - k), chB ((n : Int) - 2 - k) ((m : Int) - k))) nD (by show ((n : Int) + 1).toNat ≤ 100000; omega) (fun m _ => pair_flat _) (fun _ _ => trivial) (fun m x H2 H2' C Cn hm s y c => ?_) (fun H2 acc s hD qa => ?_)
    · obtain ⟨rfl, rfl⟩ := y
      refine ⟨rfl, ?_⟩
      dsimp only [tYes]
      rw [if_pos rfl]
      refine ⟨.int _, rfl, .int m, rfl, _, _, rfl, rfl, .int k, rfl, _, _, rfl, rfl, _, _, rfl, by omega, by omega, _, _, rfl, rfl, (by show (0 : Int) < 2; decide), ?_⟩
      refine ⟨.int _, rfl, .int m, rfl, .int k, rfl, _, _, rfl, rfl, _, _, rfl, by omega, by omega, _, _, rfl, rfl, (by show (0 : Int) < 2; decide), ?_⟩
      refine ⟨by show 2 ≤ sizeLine; decide, fun t nt => ?_⟩
      dsimp only
      rw [chB_val, chB_val]
      exact c _ _ (same_new nt) (pair_at upd_same)
    · refine ⟨D, _, rfl, .inl ⟨SqL.of hD, fun t nt => q _ _ (s.trans (same_new nt)) ?_⟩⟩
      refine .tup upd_same ?_
      have e : (kindR n k).map pairD = (List.range ((n : Int) + 1).toNat).map fun (m : Nat) => pairD (chB ((n : Int) - 2 - k) ((m : Int) - 1 - k), chB ((n : Int) - 2 - k) ((m : Int) - k)) := by
        unfold kindR
        rw [List.map_map]
        have : ((n : Int) + 1).toNat = n + 1 := by omega
        rw [this]
        rfl
      rw [e]
      exact qa.up (same_new nt)
end
end Kr
namespace Kr
open PySem PySem.Spec PyProof.Rows L2
/-! ### zip of a list and a tuple -/
section
variable {prog : Program} {w : World} {A : Around} {E : Value → Shared → Prop} {s : Shared}
abbrev Rest (h h' : Heap) (z TO i1 i2 : Addr) : Prop := ∀ c o, c ≠ z → c ≠ TO → c ≠ i1 → c ≠ i2 → h.get? c = some o → h'.get? c = some o
theorem zlt_item {z TI TO i1 i2 l1 l2 : Addr} {k : Nat} {xs ys : Array Value} {x y a b : Value} {W : Value → Shared → Prop} (D : ZipApart z TI TO i1 i2 l1 l2) (gz : IsZip s.heap z TI TO .none) (gI : IsPair s.heap TI (.ref i1) (.ref i2)) (gO : IsPair s.heap TO a b)
    (f1 : s.heap.IsListIter i1 l1 k) (f2 : s.heap.IsTupleIter i2 l2 k) (c1 : s.heap.IsList l1 xs) (c2 : s.heap.IsTuple l2 ys) (ex : xs[k]? = some x) (ey : ys[k]? = some y)
    (fin : ∀ h', IsZip h' z TI TO (rawInt s.heap.objs.size) → IsPair h' TO x y → h'.IsListIter i1 l1 (k + 1) → h'.IsTupleIter i2 l2 (k + 1) → IsPair h' s.heap.objs.size x y → h'.objs.size = s.heap.objs.size + 1 → Rest s.heap h' z TO i1 i2 → W (.ref s.heap.objs.size) { s with heap := h' }) :
    wpAny (model prog w) A (Builtin.«zip.__next__» ⟨[.ref z], []⟩) (fun f s' => ∃ v, f = .done (.ret v) ∧ W v s') E s := by
  show wpAny _ _ (field (.ref z) 2 >>= _) _ _ _; refine wpAny_bind (wpAny_field gz rfl (x := .bool false) rfl ?_)
  show wpAny _ _ (field (.ref z) 3 >>= _) _ _ _; refine wpAny_bind (wpAny_field gz rfl (x := .ref TI) rfl (wpAny_bind (wpAny_seqItems gI rfl ?_)))
  show wpAny _ _ (Builtin.SmallTypes.ownedTupleIsFree (.ref z) >>= _) _ _ _; refine wpAny_bind ?_; unfold Builtin.SmallTypes.ownedTupleIsFree
  refine wpAny_bind (wpAny_field gz rfl (x := .none) rfl (wpAny_pure ?_)); simp only [if_true]
  refine wpAny_bind (wpAny_rule (wpAny_bind (wpAny_field gz rfl (x := .ref TO) rfl (wpAny_bind (wpAny_setField_rec gz (by simp) fun ha ga ea => ?_)))))
  replace ga : IsZip ha z TI TO .ellipsis := ga
  refine wpAny_bind ?_; simp only [List.zipIdx_cons, List.zipIdx_nil, List.forIn_cons, List.forIn_nil]
  refine wpAny_bind (wpAny_bind (wpAny_onRaise ?_)); show wpAny _ _ (Builtin.SmallTypes.nextOf (.ref i1) >>= _) _ _ _
  refine wpAny_bind (wpAny_nextOf_list_item (f1.extBut ea.extBut D.i1z) (c1.extBut ea.extBut D.l1z) ex fun hb fb eb => wpAny_pure ?_)
  have gb : IsPair hb TO a b := eb.extBut _ _ D.TOi1 (ea.extBut _ _ D.TOz gO)
  refine wpAny_bind (wpAny_seqItems gb rfl (wpAny_bind (wpAny_updateSeq_pair gb fun hc gc ec => wpAny_bind (wpAny_letGo (wpAny_pure ?_)))))
  replace gc : IsPair hc TO x b := gc
  refine wpAny_bind (wpAny_bind (wpAny_onRaise ?_)); show wpAny _ _ (Builtin.SmallTypes.nextOf (.ref i2) >>= _) _ _ _
  refine wpAny_bind (RZ.nextOf_tuple_item (((f2.extBut ea.extBut D.i2z).extBut eb.extBut D.i12.symm).extBut ec.extBut D.TOi2.symm) (((c2.extBut ea.extBut D.l2z).extBut eb.extBut D.l2i1).extBut ec.extBut D.l2TO) ey fun hd fd ed => wpAny_pure ?_)
  have gd : IsPair hd TO x b := ed.extBut _ _ D.TOi2 gc
  refine wpAny_bind (wpAny_seqItems gd rfl (wpAny_bind (wpAny_updateSeq_pair gd fun he ge ee => wpAny_bind (wpAny_letGo (wpAny_pure (wpAny_pure ?_))))))
  replace ge : IsPair he TO x y := ge
  refine wpAny_bind (wpAny_seqItems ge rfl (wpAny_bind (wpAny_newTuple ?_)))
  have size0 : he.objs.size = s.heap.objs.size := by rw [ee.1, ed.1, ec.1, eb.1, ea.1]
  have gz5 : IsZip he z TI TO .ellipsis := ee.extBut _ _ D.TOz.symm (ed.extBut _ _ D.i2z.symm (ec.extBut _ _ D.TOz.symm (eb.extBut _ _ D.i1z.symm ga)))
  have rest5 : Rest s.heap he z TO i1 i2 := fun c o n1 n2 n3 n4 q => ee.extBut _ _ n2 (ed.extBut _ _ n4 (ec.extBut _ _ n2 (eb.extBut _ _ n3 (ea.extBut _ _ n1 q))))
  have fa5 : he.IsListIter i1 l1 (k + 1) := ((fb.extBut ec.extBut D.TOi1.symm).extBut ed.extBut D.i12).extBut ee.extBut D.TOi1.symm
  have fb5 : he.IsTupleIter i2 l2 (k + 1) := fd.extBut ee.extBut D.TOi2.symm
  have ltz : z < he.objs.size := Heap.lt_size gz5
  show wpAny _ _ (Builtin.SmallTypes.ownedTupleHandOut (.ref z) (.ref he.objs.size) >>= _) _ _ _; refine wpAny_bind ?_; unfold Builtin.SmallTypes.ownedTupleHandOut
  have gz6 : IsZip (he.push { cls := .type "tuple", data := .seq #[x, y] }) z TI TO .ellipsis := Heap.get?_push_of_some _ gz5
  refine wpAny_bind (wpAny_setField_rec gz6 (by simp) fun hf gf ef => ?_)
  replace gf : IsZip hf z TI TO (rawInt he.objs.size) := gf
  refine wpAny_setField_rec gf (by simp) fun hg gg eg => ?_
  replace gg : IsZip hg z TI TO (rawInt he.objs.size) := gg
  have lift : ∀ c o, c ≠ z → he.get? c = some o → hg.get? c = some o := fun c o n q => eg.extBut _ _ n (ef.extBut _ _ n (Heap.get?_push_of_some _ q))
  have gT : IsPair hg he.objs.size x y := eg.extBut _ _ (Nat.ne_of_gt ltz) (ef.extBut _ _ (Nat.ne_of_gt ltz) (Heap.get?_push_size _ rfl))
  have sz8 : hg.objs.size = he.objs.size + 1 := by rw [eg.1, ef.1, Heap.size_push]
  rw [size0] at gg gT sz8
  refine wpAny_pure ⟨_, rfl, ?_⟩; show W (.ref he.objs.size) _; rw [size0]
  exact fin hg gg (lift _ _ D.TOz ge) (fa5.at fun o q => lift _ o D.i1z q) (fb5.at fun o q => lift _ o D.i2z q) gT sz8 fun c o n1 n2 n3 n4 q => lift c o n1 (rest5 c o n1 n2 n3 n4 q)
theorem zlt_end {z TI TO i1 i2 l1 l2 : Addr} {k : Nat} {xs ys : Array Value} {a b : Value} {W : Fin → Shared → Prop} (hh : A.handled = none) (D : ZipApart z TI TO i1 i2 l1 l2) (gz : IsZip s.heap z TI TO .none) (gI : IsPair s.heap TI (.ref i1) (.ref i2)) (gO : IsPair s.heap TO a b)
    (f1 : s.heap.IsListIter i1 l1 k) (f2 : s.heap.IsTupleIter i2 l2 k) (c1 : s.heap.IsList l1 xs) (c2 : s.heap.IsTuple l2 ys) (stop : xs[k]? = none ∨ ys[k]? = none)
    (out : ∀ h' e, Rest s.heap h' z TO i1 i2 → (∃ o, h'.get? e = some o ∧ o.cls = .type "StopIteration") → E (.ref e) { s with heap := h' }) : wpAny (model prog w) A (Builtin.«zip.__next__» ⟨[.ref z], []⟩) W E s := by
  show wpAny _ _ (field (.ref z) 2 >>= _) _ _ _; refine wpAny_bind (wpAny_field gz rfl (x := .bool false) rfl ?_)
  show wpAny _ _ (field (.ref z) 3 >>= _) _ _ _; refine wpAny_bind (wpAny_field gz rfl (x := .ref TI) rfl (wpAny_bind (wpAny_seqItems gI rfl ?_)))
  show wpAny _ _ (Builtin.SmallTypes.ownedTupleIsFree (.ref z) >>= _) _ _ _; refine wpAny_bind ?_; unfold Builtin.SmallTypes.ownedTupleIsFree
  refine wpAny_bind (wpAny_field gz rfl (x := .none) rfl (wpAny_pure ?_)); simp only [if_true]
  refine wpAny_bind (wpAny_rule (wpAny_bind (wpAny_field gz rfl (x := .ref TO) rfl (wpAny_bind (wpAny_setField_rec gz (by simp) fun ha ga ea => ?_)))))
  replace ga : IsZip ha z TI TO .ellipsis := ga
  refine wpAny_bind ?_; simp only [List.zipIdx_cons, List.zipIdx_nil, List.forIn_cons, List.forIn_nil]
  refine wpAny_bind (wpAny_bind (wpAny_onRaise ?_)); show wpAny _ _ (Builtin.SmallTypes.nextOf (.ref i1) >>= _) _ _ _
  cases ex : xs[k]? with
  | none =>
    refine wpAny_bind (wpAny_nextOf_list_end hh (f1.extBut ea.extBut D.i1z) (c1.extBut ea.extBut D.l1z) ex fun hb e eb stp => ?_)
    obtain ⟨oe, goe, ce⟩ := stp
    have gb : IsZip hb z TI TO .ellipsis := eb _ _ D.i1z.symm ga
    have nez : e ≠ z := fun q => by subst q; rw [gb] at goe; cases goe; simp at ce
    exact wpAny_setField_rec gb (by simp) fun hc _ ec => out hc e (fun c o n1 _ n3 _ q => ec.extBut _ _ n1 (eb _ _ n3 (ea.extBut _ _ n1 q))) ⟨oe, ec.extBut _ _ nez goe, ce⟩
  | some x =>
    have ey : ys[k]? = none := by rcases stop with q | q; rw [ex] at q; cases q; exact q
    refine wpAny_bind (wpAny_nextOf_list_item (f1.extBut ea.extBut D.i1z) (c1.extBut ea.extBut D.l1z) ex fun hb fb eb => wpAny_pure ?_)
    have gb : IsPair hb TO a b := eb.extBut _ _ D.TOi1 (ea.extBut _ _ D.TOz gO)
    refine wpAny_bind (wpAny_seqItems gb rfl (wpAny_bind (wpAny_updateSeq_pair gb fun hc gc ec => wpAny_bind (wpAny_letGo (wpAny_pure ?_)))))
    refine wpAny_bind (wpAny_bind (wpAny_onRaise ?_)); show wpAny _ _ (Builtin.SmallTypes.nextOf (.ref i2) >>= _) _ _ _
    refine wpAny_bind (RZ.nextOf_tuple_end hh (((f2.extBut ea.extBut D.i2z).extBut eb.extBut D.i12.symm).extBut ec.extBut D.TOi2.symm) (((c2.extBut ea.extBut D.l2z).extBut eb.extBut D.l2i1).extBut ec.extBut D.l2TO) ey fun hd e ed stp => ?_)
    obtain ⟨oe, goe, ce⟩ := stp
    have gd : IsZip hd z TI TO .ellipsis := ed _ _ D.i2z.symm (ec.extBut _ _ D.TOz.symm (eb.extBut _ _ D.i1z.symm ga))
    have nez : e ≠ z := fun q => by subst q; rw [gd] at goe; cases goe; simp at ce
    exact wpAny_setField_rec gd (by simp) fun he _ ee => out he e (fun c o n1 n2 n3 n4 q => ee.extBut _ _ n1 (ed _ _ n4 (ec.extBut _ _ n2 (eb.extBut _ _ n3 (ea.extBut _ _ n1 q))))) ⟨oe, ee.extBut _ _ nez goe, ce⟩
/-- the zip object -/
abbrev q1 (h : Heap) (l1 : Addr) : Heap := h.push { cls := .type "list_iterator", data := .fields #[.ref l1, .int 0 0] }
abbrev q2 (h : Heap) (l1 l2 : Addr) : Heap := (q1 h l1).push { cls := .type "tuple_iterator", data := .fields #[.ref l2, .int 0 0] }
abbrev q3 (h : Heap) (l1 l2 : Addr) : Heap := (q2 h l1 l2).push { cls := .type "tuple", data := .seq #[.ref h.objs.size, .ref (q1 h l1).objs.size] }
abbrev q4 (h : Heap) (l1 l2 : Addr) : Heap := (q3 h l1 l2).push { cls := .type "tuple", data := .seq #[.none, .none] }
abbrev q5 (h : Heap) (l1 l2 : Addr) : Heap := (q4 h l1 l2).push { cls := .type "zip", data := .fields #[.none, .bool false, .bool false, .ref (q2 h l1 l2).objs.size, .ref (q3 h l1 l2).objs.size] }
theorem meets_zlt (l1 l2 : Addr) (xs ys : Array Value) : Meets (Builtin.«zip.__new__» ⟨[.type "zip", .ref l1, .ref l2], []⟩) (fun _ R s => s.heap.IsList l1 xs ∧ s.heap.IsTuple l2 ys ∧ R (.ok (.ret (.ref (q4 s.heap l1 l2).objs.size))) { s with heap := q5 s.heap l1 l2 }) :=
  .of_wp fun prog w A R s h => by
    obtain ⟨hp, g, d, tk, os⟩ := s; obtain ⟨c1, c2, h⟩ := h
    have hsub := sub_zip
    have L1 : Heap.IsList (Shared.heap ⟨hp, g, d, tk, os⟩) l1 xs := c1
    have L2 : Heap.IsTuple (Shared.heap ⟨hp.push { cls := .type "list_iterator", data := .fields #[.ref l1, .int 0 0] }, g, d, tk, os⟩) l2 ys := Heap.IsTuple.push c2 _
    wp_walk using wpAny_pyIter_list L1, wpAny_pyIter_tuple L2
    exact ⟨_, rfl, h⟩
theorem call_zlt {l1 l2 : Addr} {xs ys : Array Value} {W : Value → Shared → Prop} (c1 : s.heap.IsList l1 xs) (c2 : s.heap.IsTuple l2 ys)
    (h : ∀ h', IsZip h' (s.heap.objs.size + 4) (s.heap.objs.size + 2) (s.heap.objs.size + 3) .none → IsPair h' (s.heap.objs.size + 2) (.ref s.heap.objs.size) (.ref (s.heap.objs.size + 1)) → IsPair h' (s.heap.objs.size + 3) .none .none → h'.IsListIter s.heap.objs.size l1 0 → h'.IsTupleIter (s.heap.objs.size + 1) l2 0 →
      (∀ c o, s.heap.get? c = some o → h'.get? c = some o) → W (.ref (s.heap.objs.size + 4)) { s with heap := h' }) : wpAny (model prog w) A (call (.type "zip") [.ref l1, .ref l2]) W E s := by
  refine callType_new F.called_zip (by decide) (F.typeCall_zip_2 _ _) (F.newCall_zip_2 _ _) (fun ob => F.args_object_init_3 ob _ _) F.entry_zip_new (meets_zlt l1 l2 xs ys) ⟨c1, c2, ?_⟩
  have n1 : (q1 s.heap l1).objs.size = s.heap.objs.size + 1 := Heap.size_push ..
  have n2 : (q2 s.heap l1 l2).objs.size = s.heap.objs.size + 2 := by rw [Heap.size_push, n1]
  have n3 : (q3 s.heap l1 l2).objs.size = s.heap.objs.size + 3 := by rw [Heap.size_push, n2]
  have n4 : (q4 s.heap l1 l2).objs.size = s.heap.objs.size + 4 := by rw [Heap.size_push, n3]
  have p5 : (q5 s.heap l1 l2).get? (q4 s.heap l1 l2).objs.size = some _ := Heap.get?_push_size _ rfl
  have p4 : (q5 s.heap l1 l2).get? (q3 s.heap l1 l2).objs.size = some _ := Heap.get?_push_of_some _ (Heap.get?_push_size _ rfl)
  have p3 : (q5 s.heap l1 l2).get? (q2 s.heap l1 l2).objs.size = some _ := Heap.get?_push_of_some _ (Heap.get?_push_of_some _ (Heap.get?_push_size _ rfl))
  have p2 : (q5 s.heap l1 l2).get? (q1 s.heap l1).objs.size = some _ := Heap.get?_push_of_some _ (Heap.get?_push_of_some _ (Heap.get?_push_of_some _ (Heap.get?_push_size _ rfl)))
  have p1 : (q5 s.heap l1 l2).get? s.heap.objs.size = some _ := Heap.get?_push_of_some _ (Heap.get?_push_of_some _ (Heap.get?_push_of_some _ (Heap.get?_push_of_some _ (Heap.get?_push_size _ rfl))))
  show _ ∧ _; rw [n2, n3, n4] at p5; rw [n1, n2] at p3; rw [n3] at p4; rw [n1] at p2; rw [n4]
  exact ⟨⟨_, p5, rfl⟩, h _ p5 p3 p4 ⟨_, p1, rfl, rfl⟩ ⟨_, p2, rfl, rfl⟩ fun c o x => Heap.get?_push_of_some _ (Heap.get?_push_of_some _ (Heap.get?_push_of_some _ (Heap.get?_push_of_some _ (Heap.get?_push_of_some _ x))))⟩
end
/-- the walk of it: a new pair each turn -/
def ItzM (K : PySem.W.Frag) (a b : Addr) : It :=
  ⟨fun i H => ∃ (xs ys : List V) (x y : V), SqL K H a xs ∧ SqT K H b ys ∧ xs[i]? = some x ∧ ys[i]? = some y,
    fun i H v H' => ∃ T x y, v = .ref T ∧ H T = none ∧ H' = upd H T (.tup [x, y]) ∧ (∀ xs, SqL K H a xs → xs[i]? = some x) ∧ ∀ ys, SqT K H b ys → ys[i]? = some y,
    fun i H => ∃ xs ys : List V, SqL K H a xs ∧ SqT K H b ys ∧ (xs.length ≤ i ∨ ys.length ≤ i)⟩
theorem turn_zlt {P : Program} {w : World} {K : PySem.W.Frag} {elts : List Expr} {kk : Nat} {tpos : Pos} {a b z TI TO i1 i2 : Addr} (D : ZipApart z TI TO i1 i2 a b) :
    Turn P w K (.Tuple elts kk tpos) (ItzM K a b) [z, TI, TO, i1, i2] z (fun i h => IsZip h z TI TO .none ∧ IsPair h TI (.ref i1) (.ref i2) ∧ (∃ x y, IsPair h TO x y) ∧ h.IsListIter i1 a i ∧ h.IsTupleIter i2 b i) where
  mem := by simp
  obj := fun i h st c hc => by
    obtain ⟨gz, gI, ⟨x, y, gO⟩, ⟨o1, e1, _, d1⟩, ⟨o2, e2, _, d2⟩⟩ := st
    have cases5 : c = z ∨ c = TI ∨ c = TO ∨ c = i1 ∨ c = i2 := by simpa using hc
    exact cases5.elim (fun e => e ▸ ⟨_, gz, fun v q => nomatch q⟩) fun r => r.elim (fun e => e ▸ ⟨_, gI, fun v q => nomatch q⟩) fun r => r.elim (fun e => e ▸ ⟨_, gO, fun v q => nomatch q⟩) fun r => r.elim (fun e => e ▸ ⟨o1, e1, fun v q => by rw [d1] at q; cases q⟩) fun e => e ▸ ⟨o2, e2, fun v q => by rw [d2] at q; cases q⟩
  keep := fun i h h' ⟨gz, gI, ⟨x, y, gO⟩, f1, f2⟩ k => ⟨k z (by simp) _ gz, k TI (by simp) _ gI, ⟨x, y, k TO (by simp) _ gO⟩, f1.at fun o q => k i1 (by simp) o q, f2.at fun o q => k i2 (by simp) o q⟩
  item := by
    intro X eP ew eK calm i pins s σ H E I fp st hg
    subst eP ew eK
    obtain ⟨gz, gI, ⟨x0, y0, gO⟩, f1, f2⟩ := st
    obtain ⟨xs, ys, x, y, qx, qy, ex, ey⟩ := hg
    obtain ⟨its, rv, p, _⟩ := I.list qx
    obtain ⟨its2, rv2, p2, _⟩ := I.tuple qy
    obtain ⟨u, hu, ru⟩ := rv.get ex
    obtain ⟨u2, hu2, ru2⟩ := rv2.get ey
    have zl : z < s.heap.objs.size := Heap.lt_size gz
    have hT : s.TypeIs (.ref z) "zip" := ⟨_, gz, rfl⟩
    unfold pyNext
    refine wpAny_bind (wpAny_attempt (wpAny_callSpecial?_slot (name := Str.ofString "__next__") hT F.slot_zip_next (wpAny_call_entry F.slot_zip_next hT F.entry_zip_next (zlt_item D gz gI gO f1 f2 p.isList p2 (x := u) (y := u2) (by simpa using hu) (by simpa using hu2) fun h' z' o' w1 w2 gT gs rst => wpAny_pure ?_) (F.args_zip_next_1 _))))
    refine ⟨_, rfl, wpAny_letOwnedTupleGo_zip (s := { s with heap := h' }) z' fun h'' z'' sb => ?_⟩
    have gT2 : h''.get? s.heap.objs.size = some { cls := .type "tuple", data := .seq #[u, u2] } := (sb.2 _ (Nat.ne_of_gt zl)).trans gT
    have rst2 : ∀ c o, c ∉ [z, TI, TO, i1, i2] → s.heap.get? c = some o → h''.get? c = some o := fun c o nb q => by
      simp only [List.mem_cons, List.not_mem_nil, or_false, not_or] at nb
      exact (sb.2 c nb.1).trans (rst c o nb.1 nb.2.2.1 nb.2.2.2.1 nb.2.2.2.2 q)
    have I1 : Inv X pins σ (upd H s.heap.objs.size (.tup [x, y])) { s with heap := h'' } :=
      I.turnedNew (t' := s.toks) (ch := [z, TI, TO, i1, i2]) rst2 fp (Nat.le_refl _) ⟨by show 2 ≤ sizeLine; decide, [u, u2], .cons ru (.cons ru2 .nil), ⟨_, gT2, rfl, _, rfl⟩⟩
    refine ⟨.ref s.heap.objs.size, _, I1, rfl, ⟨_, x, y, rfl, I.hok.fresh (Nat.le_refl _), rfl, fun l hl => by rw [I.list_inj hl qx]; exact ex, fun l hl => by rw [I.tuple_inj hl qy]; exact ey⟩, ⟨z'', (sb.2 _ D.TIz).trans (rst _ _ D.TIz D.TITO D.TIi1 D.TIi2 gI), ⟨u, u2, (sb.2 _ D.TOz).trans o'⟩, w1.at fun o q => (sb.2 _ D.i1z).trans q, w2.at fun o q => (sb.2 _ D.i2z).trans q⟩, fun c hcm => ?_⟩
    have lt : c < s.heap.objs.size := by
      have cases5 : c = z ∨ c = TI ∨ c = TO ∨ c = i1 ∨ c = i2 := by simpa using hcm
      obtain ⟨_, e1, _⟩ := f1
      obtain ⟨_, e2, _⟩ := f2
      exact cases5.elim (fun e => e ▸ zl) fun r => r.elim (fun e => e ▸ Heap.lt_size gI) fun r => r.elim (fun e => e ▸ Heap.lt_size gO) fun r => r.elim (fun e => e ▸ Heap.lt_size e1) fun e => e ▸ Heap.lt_size e2
    rw [upd_ne (Nat.ne_of_lt lt)]
    exact (fp c hcm).1
  done := by
    intro X eP ew eK calm i pins s σ H E I fp st hg
    subst eP ew eK
    obtain ⟨gz, gI, ⟨x0, y0, gO⟩, f1, f2⟩ := st
    obtain ⟨xs, ys, qx, qy, stop⟩ := hg
    obtain ⟨its, rv, p, _⟩ := I.list qx
    obtain ⟨its2, rv2, p2, _⟩ := I.tuple qy
    have l1 := rv.length
    have l2 := rv2.length
    have he : its.toArray[i]? = none ∨ its2.toArray[i]? = none := stop.elim (fun q => .inl (by simp; omega)) fun q => .inr (by simp; omega)
    have hT : s.TypeIs (.ref z) "zip" := ⟨_, gz, rfl⟩
    unfold pyNext
    refine wpAny_bind (wpAny_attempt (wpAny_callSpecial?_slot (name := Str.ofString "__next__") hT F.slot_zip_next (wpAny_call_entry F.slot_zip_next hT F.entry_zip_next (zlt_end (I.ok.hd calm) D gz gI gO f1 f2 p.isList p2 he fun h' e rst stp => ?_) (F.args_zip_next_1 _))))
    obtain ⟨o, ho, hc⟩ := stp
    refine wpAny_bind (wpAny_isInstance (T := "StopIteration") (b := true) ⟨o, ho, hc⟩ isSubtype_stop (wpAny_pure ⟨rfl, I.turnedL (t' := s.toks) (ch := [z, TI, TO, i1, i2]) (fun c o nb q => ?_) fp⟩))
    simp only [List.mem_cons, List.not_mem_nil, or_false, not_or] at nb
    exact rst c o nb.1 nb.2.2.1 nb.2.2.2.1 nb.2.2.2.2 q
  self := fun A i s Q E st h => wpAny_pyIter_zip st.1 h
def iZipM (K : PySem.W.Frag) (ta : TA) : TI := fun σ H R => ta σ H fun vs H1 => ∃ a b xs ys, vs = [.ref a, .ref b] ∧ SqL K H1 a xs ∧ SqT K H1 b ys ∧ R (ItzM K a b) H1
theorem pi_zipM {X : Cx} {e e2 : Expr} {ta : TA} {p pos tpos : Pos} {elts : List Expr} {kk : Nat} (hg : Gl X "zip") (hm : X.mg "zip" = none) (ha : PA X [e, e2] ta)
    (hs : starEach [e, e2] X.env = (false, eval e X.env) :: starEach [e2] X.env := by rfl) (hpl : (backTo pos (starEach [e2] X.env)).any (·.1) = false := by rfl) : PI X (.Tuple elts kk tpos) (.Call (.Name "zip" p) [e, e2] [] pos) (iZipM X.K ta) := by
  refine ⟨fun pn sh st hp R Iv hh => Call_ (ld_blt Iv hg hm PyProof.Rows.boot_zip (PyProof.Rows.callWith_type1 (thn (ha.run pos pn sh st hp _ Iv hh) fun us s1 ⟨vs, H1, I1, r1, q1⟩ => ?_) hs hpl))⟩
  obtain ⟨a, b, xs, ys, rfl, qx, qy, q⟩ := q1
  cases r1 with
  | cons r rr =>
    cases rr with
    | cons r' rr =>
      cases rr; cases r; cases r'
      obtain ⟨its, rv, p1, _⟩ := I1.list qx
      obtain ⟨its2, rv2, p2, _⟩ := I1.tuple qy
      obtain ⟨o2, ho2, _⟩ := id p2
      refine call_zlt p1.isList p2 fun h' gz gI gO f1 f2 hk => wpAny_pyIter_zip gz ?_
      have I2 : Inv X pn st H1 { s1 with heap := h' } := I1.kept (t' := s1.toks) hk
      refine ⟨s1.heap.objs.size + 4, [s1.heap.objs.size + 4, s1.heap.objs.size + 2, s1.heap.objs.size + 3, s1.heap.objs.size, s1.heap.objs.size + 1], _, _, H1, rfl, I2, turn_zlt (PySem.W.ktu_apart s1.heap.objs.size a b p1.lt (Heap.lt_size ho2)), ⟨gz, gI, ⟨_, _, gO⟩, f1, f2⟩, fun c hcm => ?_, q⟩
      have le : s1.heap.objs.size ≤ c := by
        have cases5 : c = s1.heap.objs.size + 4 ∨ c = s1.heap.objs.size + 2 ∨ c = s1.heap.objs.size + 3 ∨ c = s1.heap.objs.size ∨ c = s1.heap.objs.size + 1 := by simpa using hcm
        rcases cases5 with q | q | q | q | q <;> rw [q] <;> first | exact Nat.le_add_right _ _ | exact Nat.le_refl _
      exact I1.fpOk le (I1.hok.fresh le)
theorem walk_zlt {K : PySem.W.Frag} {a b : Addr} {xs ys : List V} {n : Nat} (hn : n = min xs.length ys.length) : Walk (ItzM K a b) n (fun H => SqL K H a xs ∧ SqT K H b ys) (YPair (fun i => xs[i]?) (fun i => ys[i]?)) := by
  subst hn
  refine ⟨fun i _ hi q => ?_, fun _ ⟨g1, g2⟩ => ⟨xs, ys, g1, g2, (by omega)⟩, fun i H v H' _ ⟨g1, g2⟩ ⟨T, x, z, t1, t2, t3, t4, t5⟩ => ⟨T, x, z, t1, t2, t3, t4 _ g1, t5 _ g2⟩⟩
  obtain ⟨m1, m2⟩ := Nat.lt_min.mp hi
  exact ⟨xs, ys, xs[i], ys[i], q.1, q.2, List.getElem?_eq_getElem m1, List.getElem?_eq_getElem m2⟩
end Kr
namespace Kr
open PySem PySem.Spec PyProof.Rows L2
def atR (r : Row) (i : Nat) : Bool × Bool := r.getD i (false, false)
theorem atR_some {r : Row} {i : Nat} {p : Bool × Bool} (h : r[i]? = some p) : atR r i = p := by
  unfold atR
  rw [List.getD_eq_getElem?_getD, h]
  rfl
def addP (p q : Bool × Bool) : Bool × Bool := (p.1 ^^ q.1, p.2 ^^ q.2)
theorem range_addR {a b : Row} {n : Nat} (ha : a.length = n) (hb : b.length = n) : (List.range n).map (fun i => pairD (addP (atR a i) (atR b i))) = (addR a b).map pairD := by
  apply List.ext_getElem?
  intro i
  rw [List.getElem?_map, List.getElem?_map, addR, List.getElem?_zipWith]
  by_cases hi : i < n
  · have h1 : i < a.length := by omega
    have h2 : i < b.length := by omega
    rw [List.getElem?_range hi, List.getElem?_eq_getElem h1, List.getElem?_eq_getElem h2]
    simp only [Option.map_some]
    rw [atR_some (List.getElem?_eq_getElem h1), atR_some (List.getElem?_eq_getElem h2)]
    rfl
  · have h3 : (List.range n)[i]? = none := List.getElem?_eq_none_iff.mpr (by rw [List.length_range]; omega)
    have h1 : a[i]? = none := List.getElem?_eq_none_iff.mpr (by omega)
    rw [h3, h1]
    rfl
def spSums : Sp := fun vs H Q _ => ∃ (n : Nat) (a : Addr) (us : List V) (rs : List Row), vs = [.int (n : Int), .ref a] ∧ n ≤ 30 ∧ H a = some (.lst us) ∧ DqA H us (rs.map rowD) ∧ (∀ r ∈ rs, r.length = n + 1) ∧ ∀ H' v, Same H H' → Dq H' v (rowD (rs.foldl addR (zeroR n))) → Q v H'
theorem rows_flat (rs : List Row) : flatTA (rs.map rowD) = true := flatTA_of fun d hd => by
  obtain ⟨r, _, rfl⟩ := List.mem_map.mp hd
  exact row_flat r
theorem fold_len {n : Nat} : ∀ (rs : List Row) (a : Row), a.length = n → (∀ r ∈ rs, r.length = n) → (rs.foldl addR a).length = n
  | [], a, h, _ => h
  | r :: rs, a, h, g => fold_len rs (addR a r) (by rw [addR_len (by rw [h, g r List.mem_cons_self]), g r List.mem_cons_self]) fun x hx => g x (List.mem_cons_of_mem _ hx)
theorem rep_tup {x : V} (k : Nat) : (List.replicate k [x]).flatten = List.replicate k x := by
  induction k with
  | zero => rfl
  | succ k ih => rw [List.replicate_succ, List.flatten_cons, ih]; rfl
theorem zero_dq {H : Hp} {t : Addr} (h : H t = some (.tup [.int 0, .int 0])) : ∀ k : Nat, DqA H (List.replicate k (V.ref t)) ((List.replicate k (false, false)).map pairD)
  | 0 => .nil
  | k + 1 => by
    rw [List.replicate_succ, List.replicate_succ, List.map_cons]
    exact .cons (pair_at (p := (false, false)) h) (zero_dq h k)
section
variable {P : Program} {w : World} {K : PySem.W.Frag} {mg : Str → Option Value} {base : Heap}
theorem scSR : FnScope ["n", "rows", "sums", "row", "s", "t", "one", "other"] ["n", "rows"] (defScope sSumRows) := ⟨rfl, rfl, rfl, by decide +kernel, rfl, by decide +kernel, by decide +kernel⟩
abbrev gPair (K : PySem.W.Frag) (i j : Nat) : TG := gTup K 2 (gCons (gName i) (gCons (gName j) gNil))
theorem o_sumRows (D : Df K mg "sum_of_rows" sSumRows ["n", "rows"]) (B : Bi mg) : Ok P w K mg base 1 "sum_of_rows" ["n", "rows"] spSums := by
  refine D.ok fun f fd F => F.ok scSR (fun vs H Q E h => ?_) (fun cdv A outer s H vs Q E hr h => ?_)
  · obtain ⟨n, a, us, rs, rfl, _⟩ := h
    rfl
  · obtain ⟨n, a, us, rs, rfl, hn, ha, hus, hrs, q⟩ := h
    refine ⟨_, pss_cons (ps_set (i := 2) scSR.nd rfl (.inl rfl) (pe_op op_rep (pe_lst (pa_cons (pe_tup (pa_cons pe_int (pa_cons pe_int pa_nil))) pa_nil)) (pe_op op_add (pv 0) pe_int)))
      (pss_cons (ps_for PassesOwn.never rfl (pi_list (pv 1)) (pg_name (i := 3) scSR.nd rfl (.inl rfl))
        (pss_one (ps_setLc (i := 2) (own := [("s", 4), ("t", 5), ("one", 6), ("other", 7)]) (g := gTup K 2 (gCons (gPair K 4 5) (gCons (gPair K 6 7) gNil))) (tt := tYes) rfl scSR.nd rfl rfl (sw_true rfl rfl rfl (by decide +kernel)) (pi_zipM (by rfl) B.zip (pa_cons (pv 2) (pa_cons (pv 3) pa_nil)))
          (blkOk_by (own := [("s", 4), ("t", 5), ("one", 6), ("other", 7)]) (N := ["n", "rows", "sums", "row", "s", "t", "one", "other"]) (sc := defScope sSumRows) (by decide +kernel))
          (fun _ _ _ _ _ => pg_tup rfl (pgs_cons (pg_tup rfl (pgs_cons (pg_name (i := 4) scSR.nd rfl (.inl rfl)) (pgs_cons (pg_name (i := 5) scSR.nd rfl (.inl rfl)) pgs_nil))) (pgs_cons (pg_tup rfl (pgs_cons (pg_name (i := 6) scSR.nd rfl (.inl rfl)) (pgs_cons (pg_name (i := 7) scSR.nd rfl (.inl rfl)) pgs_nil))) pgs_nil)))
          (fun _ _ _ _ _ => pts_nil)
          (fun _ _ _ _ _ => pe_tup (pa_cons (pe_op op_xor (pv 4) (pv 6)) (pa_cons (pe_op op_xor (pv 5) (pv 7)) pa_nil))))))
      (pss_one (ps_ret (pe_callTy call_tuple_of (by rfl) B.tuple (by decide +kernel) (pa_cons (pv 2) pa_nil))))), ?_⟩
    refine ⟨by show 2 ≤ sizeLine; decide, fun t nt => ⟨by show 1 ≤ sizeLine; decide, fun l nl => ?_⟩⟩
    have nlt : l ≠ t := fun z => by rw [z, upd_same] at nl; cases nl
    refine ⟨.int n, rfl, _, _, rfl, rfl, l, (n : Int) + 1, [.ref t], rfl, rfl, upd_same, by omega, by omega, ?_, fun sd nsd => ?_⟩
    · show 1 * ((n : Int) + 1).toNat ≤ sizeLine
      exact Nat.le_trans (show _ ≤ 100 by omega) (by decide)
    have s0 : Same H (upd (upd H t (.tup [.int 0, .int 0])) l (.lst [.ref t])) := (same_new nt).trans (same_new nl)
    have t2 : upd (upd H t (.tup [.int 0, .int 0])) l (.lst [.ref t]) t = some (.tup [.int 0, .int 0]) := by rw [upd_ne nlt.symm, upd_same]
    have hlen : ((n : Int) + 1).toNat = n + 1 := by omega
    rw [rep_tup, hlen]
    generalize upd (upd H t (.tup [.int 0, .int 0])) l (.lst [.ref t]) = H1 at s0 t2 nsd
    have s1 := same_new (o := .lst (List.replicate (n + 1) (V.ref t))) nsd
    have nsd0 : H sd = none := s0.free nsd
    refine ⟨.ref a, rfl, a, rfl, ⟨us, SqL.of (s1 _ _ (s0 _ _ ha))⟩, for_list (K := K) (xs := us) (fun i σ H2 => ∃ (sd : Addr) (ys : List V) (v3 : Option V), σ = [some (.int n), some (.ref a), some (.ref sd), v3, none, none, none, none] ∧ Same H H2 ∧ H sd = none ∧ H2 sd = some (.lst ys) ∧ DqA H2 ys (((rs.take i).foldl addR (zeroR n)).map pairD))
      ⟨sd, _, none, rfl, s0.trans s1, nsd0, upd_same, zero_dq (s1 _ _ t2) _⟩ (fun i σ H2 _ ⟨_, _, _, _, sm, _⟩ => SqL.of (sm _ _ ha)) ?_ ?_⟩
    · rintro i x σ H2 hx ⟨sd, ys, v3, rfl, sm, nsd, hsd, qy⟩
      obtain ⟨d, hd, qx⟩ := hus.get hx
      rw [List.getElem?_map] at hd
      obtain ⟨r, hr2, rfl⟩ : ∃ r, rs[i]? = some r ∧ rowD r = d := by
        cases e : rs[i]? with
        | none => rw [e] at hd; cases hd
        | some r => rw [e] at hd; exact ⟨r, rfl, Option.some.inj hd⟩
      have hrl := hrs r (List.mem_of_getElem? hr2)
      obtain ⟨b, xs, rfl, hb, qb⟩ := row_inv (qx.up sm)
      have lx := pairs_len qb
      have ly := pairs_len qy
      have hcur : ((rs.take i).foldl addR (zeroR n)).length = n + 1 := fold_len _ _ (zeroR_len n) fun z hz => hrs z (List.mem_of_mem_take hz)
      generalize hc : (rs.take i).foldl addR (zeroR n) = cur at qy ly hcur
      refine ⟨.ref sd, rfl, .ref b, rfl, sd, b, ys, xs, rfl, SqL.of hsd, SqT.of hb, fun D2 nD2 => ?_⟩
      refine lc_itF (walk_zlt (n := n + 1) (xs := ys) (ys := xs) (by omega)) (fun i => pairD (addP (atR cur i) (atR r i))) nD2 (by omega) (fun _ _ => pair_flat _) (fun H3 s3 => ⟨SqL.of (s3 _ _ hsd), SqT.of (s3 _ _ hb)⟩) (fun j x H3 H3' C Cn hj s3 y c => ?_) (fun H3 acc s3 hD qa => ?_)
      · obtain ⟨T, y1, y2, rfl, nT, rfl, g1, g2⟩ := y
        obtain ⟨p1, e1, b1, rfl, k1⟩ := pairs_get (qy.up s3) g1
        obtain ⟨p2, e2, b2, rfl, k2⟩ := pairs_get (qb.up s3) g2
        have sT : Same H3 (upd H3 T (.tup [.ref b1, .ref b2])) := same_new nT
        have hp := c
        rw [atR_some e1, atR_some e2] at hp
        refine ⟨T, [.ref b1, .ref b2], rfl, SqT.of upd_same, rfl, .ref b1, [.ref b2], rfl, ⟨b1, _, rfl, SqT.of (sT _ _ k1), rfl, .int (bi p1.1), [.int (bi p1.2)], rfl, .int (bi p1.2), [], rfl, rfl, ?_⟩⟩
        refine ⟨.ref b2, [], rfl, ⟨b2, _, rfl, SqT.of (sT _ _ k2), rfl, .int (bi p2.1), [.int (bi p2.2)], rfl, .int (bi p2.2), [], rfl, rfl, ?_⟩⟩
        refine ⟨rfl, rfl, ?_⟩
        dsimp only [tYes]
        rw [if_pos rfl]
        refine ⟨.int (bi p1.1), rfl, .int (bi p2.1), rfl, _, _, rfl, rfl, .int (bi p1.2), rfl, .int (bi p2.2), rfl, _, _, rfl, rfl, by show 2 ≤ sizeLine; decide, fun t nt => ?_⟩
        dsimp only
        rw [bi_xor, bi_xor]
        exact hp _ _ (sT.trans (same_new nt)) (pair_at (p := addP p1 p2) upd_same)
      · refine ⟨D2, acc, _, rfl, sm.trans s3, sm.free nD2, hD, ?_⟩
        rw [List.take_add_one, hr2, List.foldl_append, hc]
        show DqA H3 acc ((addR cur r).map pairD)
        rw [← range_addR hcur hrl]
        exact qa
    · rintro σ H2 ⟨sd, ys, v3, rfl, sm, nsd, hsd, qy⟩
      have hl : us.length = rs.length := by rw [hus.len, List.length_map]
      rw [hl, List.take_length] at qy
      refine ⟨.ref sd, rfl, sd, _, rfl, .inl ⟨SqL.of hsd, fun t nt => q _ _ (sm.trans (same_new nt)) (.tup upd_same (qy.up (same_new nt)))⟩⟩
end
end Kr
namespace Kr
open PySem PySem.Spec PyProof.Rows L2
/-! ### beside an empty list -/
def rEqN : R2 := fun x y H Q => ∃ l b xs, x = .ref l ∧ y = .ref b ∧ H l = some (.lst xs) ∧ H b = some (.lst []) ∧ Q (.bl xs.isEmpty) H
theorem op_eqN {X : Cx} (hu : X.A.units + 64 < cLine) : OpR X (compareOp .Eq) rEqN := by
  intro pins s σ H x y v u Q I rx ry h
  obtain ⟨l, b, xs, rfl, rfl, hl, hb, q⟩ := h
  obtain rfl : v = Value.ref l := rx
  obtain rfl : u = Value.ref b := ry
  obtain ⟨its, r1, p1, _⟩ := I.list (SqL.of (K := X.K) hl)
  obtain ⟨it2, r2, p2, _⟩ := I.list (SqL.of (K := X.K) hb)
  cases r2
  cases r1 with
  | nil => exact SeqAt.RcAt.lists (e := fun _ => true) p1.isList p2.isList rfl (by omega) (fun j h1 _ => absurd h1 (by simp)) X.prog X.w X.xe _ ⟨.bl true, H, I, by rfl, q⟩
  | cons _ _ => exact SeqAt.RcAt.lists_lengths p1.isList p2.isList (by simp) (by omega) X.prog X.w X.xe _ ⟨.bl false, H, I, rfl, q⟩
/-- zip of two tuples, of any lengths -/
theorem walk_zipT {K : PySem.W.Frag} {a b : Addr} {xs ys : List V} {n : Nat} (hn : n = min xs.length ys.length) : Walk (RZ.ItzT K a b) n (fun H => SqT K H a xs ∧ SqT K H b ys) (YPair (fun i => xs[i]?) (fun i => ys[i]?)) := by
  subst hn
  refine ⟨fun i _ hi q => ?_, fun _ ⟨q1, q2⟩ => ⟨xs, ys, q1, q2, (by omega)⟩, fun i H v H' _ ⟨q1, q2⟩ y => ?_⟩
  · obtain ⟨g1, g2⟩ := Nat.lt_min.mp hi
    exact ⟨xs, ys, xs[i], ys[i], q.1, q.2, List.getElem?_eq_getElem g1, List.getElem?_eq_getElem g2⟩
  · obtain ⟨T, x, z, t1, t2, t3, t4, t5⟩ := y
    exact ⟨T, x, z, t1, t2, t3, t4 _ q1, t5 _ q2⟩
theorem vals_ints_flat (ns : List Int) : flatV (.int 0) = true := rfl
end Kr
namespace Kr
open PySem PySem.Spec PyProof.Rows L2
/-- kinds_in, step by step -/
def kinGo (n : Nat) : List Nat → List Int → Row → List Int × Row
  | [], acc, l => (acc, l)
  | k :: ks, acc, l => if (atR l k).2 = true then kinGo n ks (acc ++ [(k : Int)]) (addR l (kindR n k)) else kinGo n ks acc l
def kinD (n : Nat) (r : Row) : PyData := if (kinGo n (List.range (n - 1)) [] r).2 = zeroR n then .tuple ((kinGo n (List.range (n - 1)) [] r).1.map .int) else .none
def witGo (n : Nat) : List Nat → List Int → Row → Option (List Int × Row)
  | [], acc, l => some (acc, l)
  | k :: ks, acc, l => if atR l k = (false, true) then witGo n ks (acc ++ [(k : Int)]) (addR l (kindR n k)) else if atR l k = (false, false) then witGo n ks acc l else none
def witD (n : Nat) (r : Row) : PyData := match witGo n (List.range (n - 1)) [] r with
  | some (acc, l) => if l = zeroR n then .tuple (acc.map .int) else .none
  | none => .none
/-- new data of a number and a row -/
def spRowF (F : Nat → Row → PyData) : Sp := fun vs H Q _ => ∃ (n : Nat) (v : V) (r : Row), vs = [.int (n : Int), v] ∧ 2 ≤ n ∧ n ≤ 30 ∧ r.length = n + 1 ∧ Dq H v (rowD r) ∧ ∀ H' u, Same H H' → Dq H' u (F n r) → Q u H'
theorem atR_get {r : Row} {i : Nat} (h : i < r.length) : r[i]? = some (atR r i) := by
  rw [List.getElem?_eq_getElem h, atR_some (List.getElem?_eq_getElem h)]
theorem biV_one (b : Bool) : decide (V.int (bi b) = V.int 1) = b := by cases b <;> decide
theorem drop_range {n k : Nat} (h : k < n) : (List.range n).drop k = k :: (List.range n).drop (k + 1) := by
  rw [List.drop_eq_getElem_cons (by rw [List.length_range]; exact h), List.getElem_range]
section
variable {P : Program} {w : World} {K : PySem.W.Frag} {mg : Str → Option Value} {base : Heap}
theorem scKI : FnScope ["n", "row", "kinds", "left", "k"] ["n", "row"] (defScope sKindsIn) := ⟨rfl, rfl, rfl, by decide +kernel, rfl, by decide +kernel, by decide +kernel⟩
theorem f_kindsIn {f : Addr} {fd : FuncData} (F : Fun K "kinds_in" "kinds_in" sKindsIn f fd) (B : Bi mg) (os : Ok P w K mg base 1 "sum_of_rows" ["n", "rows"] spSums) (ok : Ok P w K mg base 2 "kind_signs" ["n", "k"] spKind) : FnOk P w K mg base CX0 3 f fd ["n", "row"] (spRowF kinD) := by
  refine F.ok scKI (fun vs H Q E h => ?_) (fun cdv A outer s H vs Q E hr h => ?_)
  · obtain ⟨n, v, r, rfl, _⟩ := h
    rfl
  · obtain ⟨n, v, r, rfl, hn2, hn, hl, hv, q⟩ := h
    have hr1 := hr.mono (show 1 ≤ 2 by decide)
    have hu : (cxOf CX0 P w K mg base ["n", "row", "kinds", "left", "k"] "kinds_in" (defScope sKindsIn) f cdv A outer s H E).A.units + 64 < cLine := hr.units
    refine ⟨_, pss_cons (ps_set (i := 2) scKI.nd rfl (.inl rfl) (pe_lst pa_nil))
      (pss_cons (ps_set (i := 3) scKI.nd rfl (.inl rfl) (pv 1))
      (pss_cons (ps_for PassesOwn.never rfl (pi_range1 (by rfl) B.range (pa_cons (pe_op op_sub (pv 0) pe_int) pa_nil)) (pg_name (i := 4) scKI.nd rfl (.inl rfl))
        (pss_one (ps_if (pt_cmpR op_eq (pe_ix ix_tup (pe_ix ix_tup (pv 3) (pv 4) (fun _ _ => rfl)) pe_int (fun _ _ => rfl)) pe_int (nomark _))
          (pss_cons (ps_expr (pe_bm PySem.F.plainAttrs_list PySem.F.slot_list_append PySem.F.type_list_append mt_append (pv 2) (pa_cons (pv 4) pa_nil)))
          (pss_one (ps_set (i := 3) scKI.nd rfl (.inl rfl) (pe_fn os hr1 (by rfl) (pa_cons (pv 0) (pa_cons (pe_lst (pa_cons (pv 3) (pa_cons (pe_fn ok hr (by rfl) (pa_cons (pv 0) (pa_cons (pv 4) pa_nil))) pa_nil))) pa_nil))))))
          pss_nil)))
      (pss_one (ps_ret (pe_ifExp (pt_cmpR (op_eqD hu) (pv 3) (pe_fn os hr1 (by rfl) (pa_cons (pv 0) (pa_cons (pe_lst pa_nil) pa_nil))) (nomark _)) (pe_callTy call_tuple_of (by rfl) B.tuple (by decide +kernel) (pa_cons (pv 2) pa_nil)) pe_non))))), ?_⟩
    refine ⟨by show 0 ≤ sizeLine; decide, fun c nc => ⟨v, rfl, ?_⟩⟩
    have s0 := same_new (o := .lst []) nc
    refine ⟨.int n, rfl, _, _, rfl, rfl, (n : Int) - 1, rfl, by omega, by omega, ?_⟩
    have hm : ((n : Int) - 1).toNat = n - 1 := by omega
    rw [hm]
    refine for_it walk_rg (fun i σ H2 => ∃ (lv : V) (l : Row) (acc : List Int) (v4 : Option V), σ = [some (.int n), some v, some (.ref c), some lv, v4] ∧ (∀ b o, H b = some o → H2 b = some o) ∧ H2 c = some (.lst (acc.map V.int)) ∧ Dq H2 lv (rowD l) ∧ l.length = n + 1 ∧ acc.length ≤ i ∧ kinGo n (List.range (n - 1)) [] r = kinGo n ((List.range (n - 1)).drop i) acc l)
      ⟨v, r, [], none, rfl, s0, upd_same, hv.up s0, hl, Nat.le_refl _, rfl⟩ (fun _ _ _ _ _ => trivial) ?_ ?_
    · rintro i x σ H2 H2' hi ⟨lv, l, acc, v4, rfl, sm, hc, hlv, hll, hacc, e⟩ ⟨rfl, rfl⟩
      obtain ⟨a, xs, rfl, ha, qa⟩ := row_inv hlv
      have hxl := pairs_len qa
      have hix : i < xs.length := by omega
      obtain ⟨p, hp, b, hb, kb⟩ := pairs_get qa (List.getElem?_eq_getElem hix)
      have hpr := atR_some hp
      rw [drop_range hi] at e
      have e2 : kinGo n (i :: (List.range (n - 1)).drop (i + 1)) acc l = if (atR l i).2 = true then kinGo n ((List.range (n - 1)).drop (i + 1)) (acc ++ [(i : Int)]) (addR l (kindR n i)) else kinGo n ((List.range (n - 1)).drop (i + 1)) acc l := rfl
      rw [e2, hpr] at e
      refine ⟨.ref a, rfl, .int i, rfl, a, xs, i, xs[i], rfl, rfl, SqT.of ha, atI_nat (List.getElem?_eq_getElem hix), b, _, 1, .int (bi p.2), hb, rfl, SqT.of kb, rfl, rfl, _, rfl, ?_⟩
      rw [biV_one]
      refine ite2 (fun h2 => ?_) (fun h2 => ?_)
      · rw [if_pos h2] at e
        refine ⟨.ref c, rfl, .inl ⟨rfl, _, SqL.of hc⟩, .int i, rfl, c, _, _, rfl, rfl, hc, szl (by rw [List.length_map]; omega), ?_⟩
        have hc3 : upd H2' c (.lst (acc.map V.int ++ [.int (i : Nat)])) c = some (.lst ((acc ++ [(i : Int)]).map V.int)) := by rw [upd_same, List.map_append]; rfl
        have t3 : TS H2' (upd H2' c (.lst (acc.map V.int ++ [.int (i : Nat)]))) := TS.lst hc
        have hlv3 := hlv.upT t3 (row_flat l)
        have sm3 : ∀ b o, H b = some o → upd H2' c (.lst (acc.map V.int ++ [.int (i : Nat)])) b = some o := fun b o hb => by rw [upd_ne (ne_of_none hb nc)]; exact sm _ _ hb
        generalize upd H2' c (.lst (acc.map V.int ++ [.int (i : Nat)])) = H3 at hc3 hlv3 sm3
        refine ⟨.int n, rfl, .ref a, rfl, .int n, rfl, .int i, rfl, n, i, rfl, by omega, hn, fun H4 kv s4 hkv => ⟨by show 2 ≤ sizeLine; decide, fun m nm => ?_⟩⟩
        have s5 := same_new (o := .lst [.ref a, kv]) nm
        refine ⟨n, m, [.ref a, kv], [l, kindR n i], rfl, hn, upd_same, .cons ((hlv3.up s4).up s5) (.cons (hkv.up s5) .nil), ?_, fun H6 v6 s6 hv6 => ?_⟩
        · intro z hz
          rcases List.mem_cons.mp hz with hz | hz
          · rw [hz]; exact hll
          · rw [List.mem_singleton.mp hz]; exact kindR_len n i
        · have e6 : [l, kindR n i].foldl addR (zeroR n) = addR l (kindR n i) := by
            show addR (addR (zeroR n) l) (kindR n i) = _
            rw [show addR (zeroR n) l = l from addR_zero (n + 1) l hll]
          rw [e6] at hv6
          exact ⟨v6, addR l (kindR n i), acc ++ [(i : Int)], _, rfl, fun b o hb => s6 _ _ (s5 _ _ (s4 _ _ (sm3 _ _ hb))), s6 _ _ (s5 _ _ (s4 _ _ hc3)), hv6, by rw [addR_len (by rw [hll, kindR_len]), kindR_len], by rw [List.length_append]; show _ + 1 ≤ _; omega, e⟩
      · rw [if_neg h2] at e
        exact ⟨.ref a, l, acc, _, rfl, sm, hc, hlv, hll, by omega, e⟩
    · rintro σ H2 ⟨lv, l, acc, v4, rfl, sm, hc, hlv, hll, hacc, e⟩
      rw [List.drop_of_length_le (by rw [List.length_range]; exact Nat.le_refl _)] at e
      have e' : kinGo n (List.range (n - 1)) [] r = (acc, l) := e
      unfold kinD at q
      rw [e'] at q
      refine ⟨lv, rfl, .int n, rfl, by show 0 ≤ sizeLine; decide, fun m nm => ?_⟩
      have s3 := same_new (o := .lst []) nm
      refine ⟨n, m, [], [], rfl, hn, upd_same, .nil, fun z hz => (nomatch hz), fun H4 v4 s4 hv4 => ?_⟩
      have s34 : Same H2 H4 := s3.trans s4
      refine ⟨rowD l, rowD (zeroR n), (hlv.up s34).dp (row_flat _), hv4.dp (row_flat _), row_shaped _, row_shaped _, _, rfl, ?_⟩
      rw [rows_eqv]
      refine ite2 (fun hz => ?_) (fun hz => ?_)
      · rw [if_pos (of_decide_eq_true hz)] at q
        refine ⟨.ref c, rfl, c, _, rfl, .inl ⟨SqL.of (s34 _ _ hc), fun t nt => q _ _ (fun b o hb => same_new nt _ _ (s34 _ _ (sm _ _ hb))) (.tup upd_same ?_)⟩⟩
        have e5 : (acc.map V.int).length = acc.length := List.length_map _
        exact DqA.ints acc
      · rw [if_neg (fun z => hz (decide_eq_true z))] at q
        exact q _ _ (fun b o hb => s34 _ _ (sm _ _ hb)) .non
theorem scLS : FnScope ["one", "two", "a", "b"] ["one", "two"] (defScope sLSum) := ⟨rfl, rfl, rfl, by decide +kernel, rfl, by decide +kernel, by decide +kernel⟩
def spLSum : Sp := fun vs H Q _ => ∃ (v u : V) (a b : Row) (n : Nat), vs = [v, u] ∧ a.length = n ∧ b.length = n ∧ n ≤ 1000 ∧ Dq H v (rowD a) ∧ Dq H u (rowD b) ∧ ∀ H' x, Same H H' → Dq H' x (rowD (addR a b)) → Q x H'
theorem o_lSum (D : Df K mg "_law_sum" sLSum ["one", "two"]) (B : Bi mg) : Ok P w K mg base 1 "_law_sum" ["one", "two"] spLSum := by
  refine D.ok fun f fd F => F.ok scLS (fun vs H Q E h => ?_) (fun cdv A outer s H vs Q E hr h => ?_)
  · obtain ⟨v, u, a, b, n, rfl, _⟩ := h
    rfl
  · obtain ⟨v, u, a, b, n, rfl, la, lb, hn, hv, hu, q⟩ := h
    refine ⟨_, pss_one (ps_ret (pe_callTy call_tuple_of (by rfl) B.tuple (by decide +kernel) (pa_cons
      (pe_lc (own := [("a", 2), ("b", 3)]) (g := gPair K 2 3) (tt := tYes) rfl scLS.nd (RZ.pi_zipA (by rfl) B.zip (pa_cons (pv 0) (pa_cons (pv 1) pa_nil))) (blkOk_by (own := [("a", 2), ("b", 3)]) (N := ["one", "two", "a", "b"]) (sc := defScope sLSum) (by decide +kernel))
        (fun _ _ _ _ _ => pg_tup rfl (pgs_cons (pg_name (i := 2) scLS.nd rfl (.inl rfl)) (pgs_cons (pg_name (i := 3) scLS.nd rfl (.inl rfl)) pgs_nil))) (fun _ _ _ _ _ => pts_nil)
        (fun _ _ _ _ _ => pe_tup (pa_cons (pe_op op_mod (pe_callTy call_int1 (by rfl) B.int (by decide +kernel) (pa_cons (pe_op op_add (pe_ix (r := rIxT K) ix_tup (pv 2) pe_int (fun _ _ => rfl)) (pe_ix (r := rIxT K) ix_tup (pv 3) pe_int (fun _ _ => rfl))) pa_nil)) pe_int)
          (pa_cons (pe_op op_mod (pe_callTy call_int1 (by rfl) B.int (by decide +kernel) (pa_cons (pe_op op_add (pe_ix (r := rIxT K) ix_tup (pv 2) pe_int (fun _ _ => rfl)) (pe_ix (r := rIxT K) ix_tup (pv 3) pe_int (fun _ _ => rfl))) pa_nil)) pe_int) pa_nil)))) pa_nil))), ?_⟩
    obtain ⟨av, xs, rfl, ha, qa⟩ := row_inv hv
    obtain ⟨bv, ys, rfl, hb, qb⟩ := row_inv hu
    have lx := pairs_len qa
    have ly := pairs_len qb
    refine ⟨.ref av, rfl, .ref bv, rfl, av, bv, xs, ys, rfl, .inr ⟨SqT.of ha, SqT.of hb, fun D nD => ?_⟩⟩
    refine lc_itF (walk_zipT (n := n) (xs := xs) (ys := ys) (by omega)) (fun i => pairD (addP (atR a i) (atR b i))) nD (by omega) (fun _ _ => pair_flat _) (fun H3 s3 => ⟨SqT.of (s3 _ _ ha), SqT.of (s3 _ _ hb)⟩) (fun j x H3 H3' C Cn hj s3 y c => ?_) (fun H3 acc s3 hD qd => ?_)
    · obtain ⟨T, y1, y2, rfl, nT, rfl, g1, g2⟩ := y
      obtain ⟨p1, e1, b1, rfl, k1⟩ := pairs_get (qa.up s3) g1
      obtain ⟨p2, e2, b2, rfl, k2⟩ := pairs_get (qb.up s3) g2
      have sT : Same H3 (upd H3 T (.tup [.ref b1, .ref b2])) := same_new nT
      have hp := c
      rw [atR_some e1, atR_some e2] at hp
      refine ⟨T, [.ref b1, .ref b2], rfl, SqT.of upd_same, rfl, .ref b1, [.ref b2], rfl, .ref b2, [], rfl, rfl, rfl, ?_⟩
      dsimp only [tYes]
      rw [if_pos rfl]
      refine ⟨.ref b1, rfl, b1, _, 0, .int (bi p1.1), rfl, rfl, SqT.of (sT _ _ k1), rfl, .ref b2, rfl, b2, _, 0, .int (bi p2.1), rfl, rfl, SqT.of (sT _ _ k2), rfl, _, _, rfl, rfl, .inl ⟨_, rfl, _, _, rfl, rfl, (by show (0 : Int) < 2; decide), ?_⟩⟩
      refine ⟨.ref b1, rfl, b1, _, 1, .int (bi p1.2), rfl, rfl, SqT.of (sT _ _ k1), rfl, .ref b2, rfl, b2, _, 1, .int (bi p2.2), rfl, rfl, SqT.of (sT _ _ k2), rfl, _, _, rfl, rfl, .inl ⟨_, rfl, _, _, rfl, rfl, (by show (0 : Int) < 2; decide), by show 2 ≤ sizeLine; decide, fun t nt => ?_⟩⟩
      dsimp only
      rw [bi_sum, bi_sum]
      exact hp _ _ (sT.trans (same_new nt)) (pair_at (p := addP p1 p2) upd_same)
    · rw [range_addR la lb] at qd
      exact ⟨D, _, rfl, .inl ⟨SqL.of hD, fun t nt => q _ _ (s3.trans (same_new nt)) (.tup upd_same (qd.up (same_new nt)))⟩⟩
end
end Kr
namespace Kr
open PySem PySem.Spec PyProof.Rows L2
/-- whether the figures of b, by twos, stand below those of a -/
def luc : Nat → Nat → Nat → Bool
  | 0, _, _ => true
  | f + 1, a, b => if 0 < b then (if a % 2 < b % 2 then false else luc f (a / 2) (b / 2)) else true
theorem luc_ch : ∀ a : Nat, a < 30 → ∀ b : Nat, b < a + 1 → luc 6 a b = chB (a : Int) (b : Int) := by decide +kernel
theorem luc_zero (f a : Nat) : luc f a 0 = true := by cases f <;> simp [luc]
theorem chB_above {a b : Int} (h : a < b) (h0 : 0 ≤ a) : chB a b = false := by
  unfold chB
  rw [if_pos (by omega), PySem.W.mcComb_above h]
  rfl
theorem chB_neg {a b : Int} (h : b < 0) : chB a b = false := by
  unfold chB
  rw [if_neg (by omega)]
def spLc : Sp := fun vs H Q _ => ∃ a b : Int, vs = [.int a, .int b] ∧ 0 ≤ a ∧ a < 30 ∧ Q (.int (bi (chB a b))) H
section
variable {P : Program} {w : World} {K : PySem.W.Frag} {mg : Str → Option Value} {base : Heap}
theorem scLC : FnScope ["a", "b"] ["a", "b"] (defScope sLChoose) := ⟨rfl, rfl, rfl, by decide +kernel, rfl, by decide +kernel, by decide +kernel⟩
theorem o_lChoose (D : Df K mg "_law_choose" sLChoose ["a", "b"]) (B : Bi mg) : Ok P w K mg base 1 "_law_choose" ["a", "b"] spLc := by
  refine D.ok fun f fd F => F.ok scLC (fun vs H Q E h => ?_) (fun cdv A outer s H vs Q E hr h => ?_)
  · obtain ⟨a, b, rfl, _⟩ := h
    rfl
  · obtain ⟨a, b, rfl, h0, h1, q⟩ := h
    refine ⟨_, pss_cons (ps_if (PW.pt (pw_or (pt_cmpR op_lt (pv 1) pe_int (nomark _)) (pw_or1 (pt_cmpR op_gt (pv 1) (pv 0) (nomark _))))) (pss_one (ps_ret pe_int)) pss_nil)
      (pss_cons (ps_while PassesOwn.never (pt_cmpR op_gt (pv 1) pe_int (nomark _))
        (pss_cons (ps_if (pt_cmpR op_gt (pe_op op_mod (pe_callTy call_int1 (by rfl) B.int (by decide +kernel) (pa_cons (pv 1) pa_nil)) pe_int) (pe_op op_mod (pe_callTy call_int1 (by rfl) B.int (by decide +kernel) (pa_cons (pv 0) pa_nil)) pe_int) (nomark _)) (pss_one (ps_ret pe_int)) pss_nil)
        (pss_one (ps_par (i := 0) (j := 1) rfl scLC.nd rfl rfl (by decide) rfl rfl (pa_cons (pe_op op_fdiv (pv 0) pe_int) (pa_cons (pe_op op_fdiv (pv 1) pe_int) pa_nil)) (by rfl)))))
      (pss_one (ps_ret pe_int))), ?_⟩
    refine ⟨.int b, rfl, _, _, rfl, rfl, _, rfl, ite2 (fun hb => ?_) (fun hb => ?_)⟩
    · rw [chB_neg (of_decide_eq_true hb)] at q
      exact q
    have hb0 : 0 ≤ b := Int.not_lt.mp fun z => hb (decide_eq_true z)
    refine ⟨.int b, rfl, .int a, rfl, _, _, rfl, rfl, _, rfl, ite2 (fun hba => ?_) (fun hba => ?_)⟩
    · rw [chB_above (of_decide_eq_true hba) h0] at q
      exact q
    have hb1 : b ≤ a := Int.not_lt.mp fun z => hba (decide_eq_true z)
    obtain ⟨a0, rfl⟩ : ∃ m : Nat, a = m := ⟨a.toNat, by omega⟩
    obtain ⟨b0, rfl⟩ : ∃ m : Nat, b = m := ⟨b.toNat, by omega⟩
    rw [← luc_ch a0 (by omega) b0 (by omega)] at q
    refine while_by (fun σ H2 => ∃ f a b : Nat, σ = [some (.int (a : Int)), some (.int (b : Int))] ∧ H2 = H ∧ b < 2 ^ f ∧ luc f a b = luc 6 a0 b0) (fun σ H2 => match σ with | [_, some (.int b)] => b.toNat | _ => 0) ⟨6, a0, b0, rfl, rfl, by show b0 < 64; omega, rfl⟩ ?_ ?_
    · rintro σ H2 ⟨fu, a, b, rfl, rfl, hf, e⟩
      refine ⟨.int b, rfl, _, _, rfl, rfl, _, rfl, ite2 (fun h2 => ?_) (fun h2 => ?_)⟩
      · have hb2 : 0 < b := by have : (0 : Int) < b := of_decide_eq_true h2; omega
        obtain ⟨f', rfl⟩ : ∃ f', fu = f' + 1 := by
          cases fu with
          | zero => omega
          | succ f' => exact ⟨f', rfl⟩
        rw [luc, if_pos hb2] at e
        refine ⟨.int b, rfl, .inl ⟨_, rfl, _, _, rfl, rfl, (by show (0 : Int) < 2; decide), .int a, rfl, .inl ⟨_, rfl, _, _, rfl, rfl, (by show (0 : Int) < 2; decide), _, _, rfl, rfl, _, rfl, ite2 (fun h3 => ?_) (fun h3 => ?_)⟩⟩⟩
        · have h4 : ((a : Int) % 2) < ((b : Int) % 2) := of_decide_eq_true h3
          rw [if_pos (by omega)] at e
          rw [← e] at q
          exact q
        · have h4 : ¬ ((a : Int) % 2) < ((b : Int) % 2) := fun z => h3 (decide_eq_true z)
          rw [if_neg (by omega)] at e
          refine ⟨.int a, rfl, _, _, rfl, rfl, ⟨by decide, by decide⟩, .int b, rfl, _, _, rfl, rfl, ⟨by decide, by decide⟩, _, _, rfl, ?_⟩
          refine ⟨⟨f', a / 2, b / 2, ?_, rfl, by rw [Nat.pow_succ] at hf; omega, e⟩, ?_⟩
          · show [some (V.int ((a : Int) / 2)), some (V.int ((b : Int) / 2))] = _
            simp
          · show ((b : Int) / 2).toNat < (b : Int).toNat
            omega
      · have hb2 : b = 0 := by have : ¬ (0 : Int) < b := fun z => h2 (decide_eq_true z); omega
        subst hb2
        rw [luc_zero] at e
        rw [← e] at q
        exact q
    · rintro σ H2 Q1 Q2 hq ⟨x, hx, i, j, e1, e2, k, e3, e4⟩
      exact ⟨x, hx, i, j, e1, e2, k, e3, hq _ _ e4⟩
theorem scLK : FnScope ["n", "k", "m"] ["n", "k"] (defScope sLKind) := ⟨rfl, rfl, rfl, by decide +kernel, rfl, by decide +kernel, by decide +kernel⟩
theorem o_lKind (D : Df K mg "_law_kind" sLKind ["n", "k"]) (B : Bi mg) (oc : Ok P w K mg base 1 "_law_choose" ["a", "b"] spLc) : Ok P w K mg base 2 "_law_kind" ["n", "k"] spKind := by
  refine D.ok fun f fd F => F.ok scLK (fun vs H Q E h => ?_) (fun cdv A outer s H vs Q E hr h => ?_)
  · obtain ⟨n, k, rfl, _⟩ := h
    rfl
  · obtain ⟨n, k, rfl, hk, hn, q⟩ := h
    refine ⟨_, pss_one (ps_ret (pe_callTy call_tuple_of (by rfl) B.tuple (by decide +kernel) (pa_cons
        (pe_lc (own := [("m", 2)]) (g := gName 2) (tt := tYes) rfl scLK.nd (pi_range1 (by rfl) B.range (pa_cons (pe_op op_add (pv 0) pe_int) pa_nil)) (blkOk_by (own := [("m", 2)]) (N := ["n", "k", "m"]) (sc := defScope sLKind) (by decide +kernel))
          (fun _ _ _ _ _ => pg_name (i := 2) scLK.nd rfl (.inl rfl)) (fun _ _ _ _ _ => pts_nil)
          (fun _ _ _ _ _ => pe_tup (pa_cons (pe_fn oc hr (by rfl) (pa_cons (pe_op op_sub (pe_op op_sub (pv 0) pe_int) (pv 1)) (pa_cons (pe_op op_sub (pe_op op_sub (pv 2) pe_int) (pv 1)) pa_nil)))
            (pa_cons (pe_fn oc hr (by rfl) (pa_cons (pe_op op_sub (pe_op op_sub (pv 0) pe_int) (pv 1)) (pa_cons (pe_op op_sub (pv 2) (pv 1)) pa_nil))) pa_nil)))) pa_nil))), ?_⟩
    refine ⟨.int n, rfl, _, _, rfl, rfl, (n : Int) + 1, rfl, by omega, by omega, fun D nD => ?_⟩
    refine lc_itF walk_rg (fun m => pairD (chB ((n : Int) - 2 - k) ((m : Int) - 1 - k), chB ((n : Int) - 2 - k) ((m : Int) - k))) nD (by show ((n : Int) + 1).toNat ≤ 100000; omega) (fun m _ => pair_flat _) (fun _ _ => trivial) (fun m x H2 H2' C Cn hm s y c => ?_) (fun H2 acc s hD qa => ?_)
    · obtain ⟨rfl, rfl⟩ := y
      refine ⟨rfl, ?_⟩
      dsimp only [tYes]
      rw [if_pos rfl]
      refine ⟨.int n, rfl, _, _, rfl, rfl, .int k, rfl, _, _, rfl, rfl, .int m, rfl, _, _, rfl, rfl, .int k, rfl, _, _, rfl, rfl, _, _, rfl, by omega, by omega, ?_⟩
      refine ⟨.int n, rfl, _, _, rfl, rfl, .int k, rfl, _, _, rfl, rfl, .int m, rfl, .int k, rfl, _, _, rfl, rfl, _, _, rfl, by omega, by omega, ?_⟩
      exact ⟨by show 2 ≤ sizeLine; decide, fun t nt => c _ _ (same_new nt) (pair_at upd_same)⟩
    · refine ⟨D, _, rfl, .inl ⟨SqL.of hD, fun t nt => q _ _ (s.trans (same_new nt)) (.tup upd_same ?_)⟩⟩
      have e : (kindR n k).map pairD = (List.range ((n : Int) + 1).toNat).map fun (m : Nat) => pairD (chB ((n : Int) - 2 - k) ((m : Int) - 1 - k), chB ((n : Int) - 2 - k) ((m : Int) - k)) := by
        unfold kindR
        rw [List.map_map]
        have : ((n : Int) + 1).toNat = n + 1 := by omega
        rw [this]
        rfl
      rw [e]
      exact qa.up (same_new nt)
theorem scWi : FnScope ["n", "row", "found", "rest", "k", "pair"] ["n", "row"] (defScope sWithin) := ⟨rfl, rfl, rfl, by decide +kernel, rfl, by decide +kernel, by decide +kernel⟩
theorem zero_iff {r : Row} {n : Nat} (h : r.length = n + 1) : r = zeroR n ↔ ∀ p ∈ r, p = (false, false) := by
  unfold zeroR
  rw [List.eq_replicate_iff]
  exact ⟨fun z => z.2, fun z => ⟨h, z⟩⟩
theorem o_within (D : Df K mg "_law_within" sWithin ["n", "row"]) (B : Bi mg) (os : Ok P w K mg base 1 "_law_sum" ["one", "two"] spLSum) (ok : Ok P w K mg base 2 "_law_kind" ["n", "k"] spKind) : Ok P w K mg base 3 "_law_within" ["n", "row"] (spRowF witD) := by
  refine D.ok fun f fd F => F.ok scWi (fun vs H Q E h => ?_) (fun cdv A outer s H vs Q E hr h => ?_)
  · obtain ⟨n, v, r, rfl, _⟩ := h
    rfl
  · obtain ⟨n, v, r, rfl, hn2, hn, hl, hv, q⟩ := h
    have hr1 := hr.mono (show 1 ≤ 2 by decide)
    have hu : (cxOf CX0 P w K mg base ["n", "row", "found", "rest", "k", "pair"] "_law_within" (defScope sWithin) f cdv A outer s H E).A.units + 64 < cLine := hr.units
    refine ⟨_, pss_cons (ps_par (i := 2) (j := 3) rfl scWi.nd rfl rfl (by decide) rfl rfl (pa_cons (pe_lst pa_nil) (pa_cons (pe_callTy call_tuple_of (by rfl) B.tuple (by decide +kernel) (pa_cons (pv 1) pa_nil)) pa_nil)) (by rfl))
      (pss_cons (ps_for PassesOwn.never rfl (pi_range1 (by rfl) B.range (pa_cons (pe_op op_sub (pv 0) pe_int) pa_nil)) (pg_name (i := 4) scWi.nd rfl (.inl rfl))
        (pss_one (ps_if (pt_cmpR (op_eqD hu) (pe_ix ix_tup (pv 3) (pv 4) (fun _ _ => rfl)) (pe_tup (pa_cons pe_int (pa_cons pe_int pa_nil))) (nomark _))
          (pss_cons (ps_expr (pe_bm PySem.F.plainAttrs_list PySem.F.slot_list_append PySem.F.type_list_append mt_append (pv 2) (pa_cons (pv 4) pa_nil)))
          (pss_one (ps_set (i := 3) scWi.nd rfl (.inl rfl) (pe_fn os hr1 (by rfl) (pa_cons (pv 3) (pa_cons (pe_fn ok hr (by rfl) (pa_cons (pv 0) (pa_cons (pv 4) pa_nil))) pa_nil))))))
          (pss_one (ps_if (pt_cmpR (op_neD hu) (pe_ix ix_tup (pv 3) (pv 4) (fun _ _ => rfl)) (pe_tup (pa_cons pe_int (pa_cons pe_int pa_nil))) (nomark _)) (pss_one (ps_ret pe_non)) pss_nil)))))
      (pss_one (ps_ret (pe_ifExp (pt_cmpR (op_eqN hu)
          (pe_lc (own := [("pair", 5)]) (g := gName 5) rfl scWi.nd (pi_tup (pv 3)) (blkOk_by (own := [("pair", 5)]) (N := ["n", "row", "found", "rest", "k", "pair"]) (sc := defScope sWithin) (by decide +kernel))
            (fun _ _ _ _ _ => pg_name (i := 5) scWi.nd rfl (.inl rfl)) (fun _ _ _ _ _ => pts_one (pt_cmpR (r := rNeD K) (op_neD hu) (pv 5) (pe_tup (pa_cons pe_int (pa_cons pe_int pa_nil))) (nomark _))) (fun _ _ _ _ _ => pe_int)) (pe_lst pa_nil) (nomark _))
        (pe_callTy call_tuple_of (by rfl) B.tuple (by decide +kernel) (pa_cons (pv 2) pa_nil)) pe_non)))), ?_⟩
    obtain ⟨rv, rxs, rfl, hrv, hrq⟩ := row_inv hv
    refine ⟨by show 0 ≤ sizeLine; decide, fun c nc => ?_⟩
    have s0 := same_new (o := .lst []) nc
    refine ⟨.ref rv, rfl, rv, _, rfl, .inr ⟨SqT.of (s0 _ _ hrv), _, _, rfl, ?_⟩⟩
    refine ⟨.int n, rfl, _, _, rfl, rfl, (n : Int) - 1, rfl, by omega, by omega, ?_⟩
    have hm : ((n : Int) - 1).toNat = n - 1 := by omega
    rw [hm]
    refine for_it walk_rg (fun i σ H2 => ∃ (lv : V) (l : Row) (acc : List Int) (v4 : Option V), σ = [some (.int n), some (.ref rv), some (.ref c), some lv, v4, none] ∧ (∀ b o, H b = some o → H2 b = some o) ∧ H2 c = some (.lst (acc.map V.int)) ∧ Dq H2 lv (rowD l) ∧ l.length = n + 1 ∧ acc.length ≤ i ∧ witGo n (List.range (n - 1)) [] r = witGo n ((List.range (n - 1)).drop i) acc l)
      ⟨.ref rv, r, [], none, rfl, s0, upd_same, hv.up s0, hl, Nat.le_refl _, rfl⟩ (fun _ _ _ _ _ => trivial) ?_ ?_
    · rintro i x σ H2 H2' hi ⟨lv, l, acc, v4, rfl, sm, hc, hlv, hll, hacc, e⟩ ⟨rfl, rfl⟩
      obtain ⟨a, xs, rfl, ha, qa⟩ := row_inv hlv
      have hxl := pairs_len qa
      have hix : i < xs.length := by omega
      obtain ⟨p, hp, b, hb, kb⟩ := pairs_get qa (List.getElem?_eq_getElem hix)
      have hpr := atR_some hp
      rw [drop_range hi] at e
      have e2 : witGo n (i :: (List.range (n - 1)).drop (i + 1)) acc l = if atR l i = (false, true) then witGo n ((List.range (n - 1)).drop (i + 1)) (acc ++ [(i : Int)]) (addR l (kindR n i)) else if atR l i = (false, false) then witGo n ((List.range (n - 1)).drop (i + 1)) acc l else none := rfl
      rw [e2, hpr] at e
      have hpd := pair_at kb
      refine ⟨.ref a, rfl, .int i, rfl, a, xs, i, xs[i], rfl, rfl, SqT.of ha, atI_nat (List.getElem?_eq_getElem hix), by show 2 ≤ sizeLine; decide, fun t nt => ?_⟩
      have st := same_new (o := .tup [.int 0, .int 1]) nt
      have ht : Dq (upd H2' t (.tup [.int 0, .int 1])) (.ref t) (pairD (false, true)) := pair_at upd_same
      rw [hb]
      refine ⟨pairD p, pairD (false, true), (hpd.up st).dp (pair_flat _), ht.dp (pair_flat _), pair_shaped _, pair_shaped _, _, rfl, ?_⟩
      rw [pairD_inj]
      have sm3 : ∀ b o, H b = some o → upd H2' t (.tup [.int 0, .int 1]) b = some o := fun b o hb => st _ _ (sm _ _ hb)
      have hc3 := st _ _ hc
      have hlv3 := hlv.up st
      have ha3 := st _ _ ha
      have hpd3 := hpd.up st
      generalize upd H2' t (.tup [.int 0, .int 1]) = H3 at sm3 hc3 hlv3 ha3 hpd3
      refine ite2 (fun h2 => ?_) (fun h2 => ?_)
      · rw [if_pos (of_decide_eq_true h2)] at e
        refine ⟨.ref c, rfl, .inl ⟨rfl, _, SqL.of hc3⟩, .int i, rfl, c, _, _, rfl, rfl, hc3, szl (by rw [List.length_map]; omega), ?_⟩
        have hc4 : upd H3 c (.lst (acc.map V.int ++ [.int (i : Nat)])) c = some (.lst ((acc ++ [(i : Int)]).map V.int)) := by rw [upd_same, List.map_append]; rfl
        have hlv4 := hlv3.upT (TS.lst (ys := acc.map V.int ++ [.int (i : Nat)]) hc3) (row_flat l)
        have sm4 : ∀ b o, H b = some o → upd H3 c (.lst (acc.map V.int ++ [.int (i : Nat)])) b = some o := fun b o hb => by rw [upd_ne (ne_of_none hb nc)]; exact sm3 _ _ hb
        generalize upd H3 c (.lst (acc.map V.int ++ [.int (i : Nat)])) = H4 at hc4 hlv4 sm4
        refine ⟨.ref a, rfl, .int n, rfl, .int i, rfl, n, i, rfl, by omega, hn, fun H5 kv s5 hkv => ?_⟩
        refine ⟨.ref a, kv, l, kindR n i, n + 1, rfl, hll, kindR_len n i, by omega, hlv4.up s5, hkv, fun H6 v6 s6 hv6 => ?_⟩
        exact ⟨v6, addR l (kindR n i), acc ++ [(i : Int)], _, rfl, fun b o hb => s6 _ _ (s5 _ _ (sm4 _ _ hb)), s6 _ _ (s5 _ _ hc4), hv6, by rw [addR_len (by rw [hll, kindR_len]), kindR_len], by rw [List.length_append]; show _ + 1 ≤ _; omega, e⟩
      · rw [if_neg (fun z => h2 (decide_eq_true z))] at e
        refine ⟨.ref a, rfl, .int i, rfl, a, xs, i, xs[i], rfl, rfl, SqT.of ha3, atI_nat (List.getElem?_eq_getElem hix), by show 2 ≤ sizeLine; decide, fun t nt => ?_⟩
        have st := same_new (o := .tup [.int 0, .int 0]) nt
        have ht : Dq (upd H3 t (.tup [.int 0, .int 0])) (.ref t) (pairD (false, false)) := pair_at upd_same
        rw [hb]
        refine ⟨pairD p, pairD (false, false), (hpd3.up st).dp (pair_flat _), ht.dp (pair_flat _), pair_shaped _, pair_shaped _, _, rfl, ?_⟩
        rw [pairD_inj]
        have sm4 : ∀ b o, H b = some o → upd H3 t (.tup [.int 0, .int 0]) b = some o := fun b o hb => st _ _ (sm3 _ _ hb)
        by_cases hz : p = (false, false)
        · rw [if_pos hz] at e
          rw [decide_eq_true hz]
          exact iteF ⟨.ref a, l, acc, _, rfl, sm4, st _ _ hc3, hlv3.up st, hll, by omega, e⟩
        · rw [if_neg hz] at e
          rw [decide_eq_false hz]
          refine iteT ?_
          unfold witD at q
          rw [e] at q
          exact q _ _ sm4 .non
    · rintro σ H2 ⟨lv, l, acc, v4, rfl, sm, hc, hlv, hll, hacc, e⟩
      rw [List.drop_of_length_le (by rw [List.length_range]; exact Nat.le_refl _)] at e
      have e' : witGo n (List.range (n - 1)) [] r = some (acc, l) := e
      unfold witD at q
      rw [e'] at q
      dsimp only at q
      obtain ⟨a, xs, rfl, ha, qa⟩ := row_inv hlv
      have hxl := pairs_len qa
      refine ⟨.ref a, rfl, a, rfl, ⟨xs, SqT.of ha⟩, fun Da nDa => lc_tup (K := K) (xs := xs) (fun i G => ∃ zs : List V, G Da = some (.lst zs) ∧ Same H2 G ∧ zs.length ≤ i ∧ (zs.isEmpty = true ↔ ∀ p ∈ l.take i, p = (false, false)))
        ⟨[], upd_same, same_new nDa, Nat.le_refl _, by simp⟩ (fun i G _ ⟨_, _, sG, _⟩ => SqT.of (sG _ _ ha)) ?_ ?_⟩
      · rintro i y G hy ⟨zs, hDa, sG, hzl, hz⟩
        obtain ⟨p, hp, b, rfl, kb⟩ := pairs_get (qa.up sG) hy
        have hi := (List.getElem?_eq_some_iff.mp hp).1
        refine ⟨rfl, .ref b, rfl, by show 2 ≤ sizeLine; decide, fun t nt => ?_⟩
        have st := same_new (o := .tup [.int 0, .int 0]) nt
        refine ⟨pairD p, pairD (false, false), ((pair_at kb).up st).dp (pair_flat _), (pair_at (p := (false, false)) upd_same).dp (pair_flat _), pair_shaped _, pair_shaped _, _, rfl, ?_⟩
        rw [pairD_inj]
        have hta : l.take (i + 1) = l.take i ++ [p] := by rw [List.take_add_one, hp]; rfl
        by_cases hz2 : p = (false, false)
        · rw [decide_eq_true hz2]
          refine iteF ⟨zs, st _ _ hDa, sG.trans st, by omega, ?_⟩
          rw [hz, hta]
          constructor
          · intro g x hx
            rcases List.mem_append.mp hx with hx | hx
            · exact g x hx
            · rw [List.mem_singleton.mp hx]; exact hz2
          · exact fun g x hx => g x (List.mem_append_left _ hx)
        · rw [decide_eq_false hz2]
          refine iteT ⟨zs, st _ _ hDa, szl (by omega), zs ++ [.int 1], upd_same, fun b o hb => ?_, by rw [List.length_append]; show _ + 1 ≤ _; omega, ?_⟩
          · rw [upd_ne (ne_of_none hb nDa)]
            exact st _ _ (sG _ _ hb)
          · rw [hta]
            constructor
            · intro g
              simp at g
            · exact fun g => absurd (g p (List.mem_append_right _ (List.mem_singleton.mpr rfl))) hz2
      · rintro G ⟨zs, hDa, sG, hzl, hz⟩
        refine ⟨by show 0 ≤ sizeLine; decide, fun m nm => ?_⟩
        have st := same_new (o := .lst []) nm
        refine ⟨Da, m, zs, rfl, rfl, st _ _ hDa, upd_same, _, rfl, ?_⟩
        rw [hxl, List.take_length] at hz
        by_cases he : zs.isEmpty = true
        · rw [he]
          refine iteT ?_
          rw [if_pos ((zero_iff hll).mpr (hz.mp he))] at q
          exact ⟨.ref c, rfl, c, _, rfl, .inl ⟨SqL.of (st _ _ (sG _ _ hc)), fun t nt => q _ _ (fun b o hb => same_new nt _ _ (st _ _ (sG _ _ (sm _ _ hb)))) (.tup upd_same (DqA.ints acc))⟩⟩
        · rw [Bool.eq_false_iff.mpr he]
          refine iteF ?_
          rw [if_neg (fun z => he (hz.mpr ((zero_iff hll).mp z)))] at q
          exact q _ _ (fun b o hb => st _ _ (sG _ _ (sm _ _ hb))) .non
end
end Kr
namespace Kr
open PySem PySem.Spec PyProof.Rows L2
/-! ### sums of rows, by their pairs -/
theorem atR_out {r : Row} {i : Nat} (h : r.length ≤ i) : atR r i = (false, false) := by
  unfold atR
  rw [List.getD_eq_getElem?_getD, List.getElem?_eq_none_iff.mpr h]
  rfl
theorem atR_add {a b : Row} {n : Nat} (ha : a.length = n) (hb : b.length = n) (i : Nat) : atR (addR a b) i = addP (atR a i) (atR b i) := by
  by_cases hi : i < n
  · refine atR_some ?_
    unfold addR
    rw [List.getElem?_zipWith, atR_get (r := a) (by omega), atR_get (r := b) (by omega)]
    rfl
  · rw [atR_out (by rw [addR_len (by omega)]; omega), atR_out (by omega), atR_out (by omega)]
    rfl
theorem row_ext {a b : Row} {n : Nat} (ha : a.length = n) (hb : b.length = n) (h : ∀ i, i < n → atR a i = atR b i) : a = b := by
  apply List.ext_getElem?
  intro i
  by_cases hi : i < n
  · rw [atR_get (by omega), atR_get (by omega), h i hi]
  · rw [List.getElem?_eq_none_iff.mpr (by omega), List.getElem?_eq_none_iff.mpr (by omega)]
theorem addP_ac (p q r : Bool × Bool) : addP (addP p q) r = addP (addP p r) q := by
  obtain ⟨a, b⟩ := p
  obtain ⟨c, d⟩ := q
  obtain ⟨e, f⟩ := r
  cases a <;> cases b <;> cases c <;> cases d <;> cases e <;> cases f <;> rfl
theorem addP_self (p q : Bool × Bool) : addP (addP p q) q = p := by
  obtain ⟨a, b⟩ := p
  obtain ⟨c, d⟩ := q
  cases a <;> cases b <;> cases c <;> cases d <;> rfl
theorem addP_0 (p : Bool × Bool) : addP p (false, false) = p := by
  obtain ⟨a, b⟩ := p
  cases a <;> cases b <;> rfl
theorem addP_0l (p : Bool × Bool) : addP (false, false) p = p := by
  obtain ⟨a, b⟩ := p
  cases a <;> cases b <;> rfl
theorem len2 {a b : Row} {n : Nat} (ha : a.length = n) (hb : b.length = n) : (addR a b).length = n := by rw [addR_len (by omega), hb]
theorem addR_ac {a b c : Row} {n : Nat} (ha : a.length = n) (hb : b.length = n) (hc : c.length = n) : addR (addR a b) c = addR (addR a c) b :=
  row_ext (len2 (len2 ha hb) hc) (len2 (len2 ha hc) hb) fun i _ => by
    rw [atR_add (len2 ha hb) hc, atR_add ha hb, atR_add (len2 ha hc) hb, atR_add ha hc, addP_ac]
theorem addR_self {a b : Row} {n : Nat} (ha : a.length = n) (hb : b.length = n) : addR (addR a b) b = a :=
  row_ext (len2 (len2 ha hb) hb) ha fun i _ => by rw [atR_add (len2 ha hb) hb, atR_add ha hb, addP_self]
theorem addR_z {a : Row} {n : Nat} (ha : a.length = n + 1) : addR (zeroR n) a = a := addR_zero (n + 1) a ha
theorem atR_zero (n i : Nat) : atR (zeroR n) i = (false, false) := by
  by_cases hi : i < n + 1
  · refine atR_some ?_
    unfold zeroR
    rw [List.getElem?_replicate, if_pos hi]
  · exact atR_out (by rw [zeroR_len]; omega)
/-! ### the rows of kinds -/
theorem atR_kind {n k i : Nat} (hi : i < n + 1) : atR (kindR n k) i = (chB ((n : Int) - 2 - k) ((i : Int) - 1 - k), chB ((n : Int) - 2 - k) ((i : Int) - k)) := by
  refine atR_some ?_
  unfold kindR
  rw [List.getElem?_map, List.getElem?_range hi]
  rfl
theorem kind_low {n k i : Nat} (hk : i < k) : atR (kindR n k) i = (false, false) := by
  by_cases hi : i < n + 1
  · rw [atR_kind hi, chB_neg (by omega), chB_neg (by omega)]
  · exact atR_out (by rw [kindR_len]; omega)
theorem kind_own {n k : Nat} (hk : k + 2 ≤ n) : atR (kindR n k) k = (false, true) := by
  rw [atR_kind (by omega), chB_neg (by omega)]
  have h0 : (k : Int) - k = 0 := by omega
  rw [h0]
  unfold chB
  rw [if_pos (Int.le_refl _)]
  have := (PySem.W.mc_comb_known (a := (n : Int) - 2 - k) (b := 0) (by omega) (Int.le_refl _)).2.2.2.1 rfl
  rw [this]
  rfl
/-! ### kinds_in and the law's own way -/
theorem kinGo_app (n : Nat) : ∀ (a b : List Nat) (acc : List Int) (l : Row), kinGo n (a ++ b) acc l = kinGo n b (kinGo n a acc l).1 (kinGo n a acc l).2
  | [], _, _, _ => rfl
  | k :: a, b, acc, l => by
    simp only [List.cons_append, kinGo]
    by_cases h : (atR l k).2 = true
    · rw [if_pos h, if_pos h, kinGo_app n a b]
    · rw [if_neg h, if_neg h, kinGo_app n a b]
theorem kinGo_len (n : Nat) : ∀ (ks : List Nat) (acc : List Int) (l : Row), l.length = n + 1 → (kinGo n ks acc l).2.length = n + 1
  | [], _, _, h => h
  | k :: ks, acc, l, h => by
    simp only [kinGo]
    by_cases c : (atR l k).2 = true
    · rw [if_pos c]
      exact kinGo_len n ks _ _ (len2 h (kindR_len n k))
    · rw [if_neg c]
      exact kinGo_len n ks _ _ h
/-- a row that is nought at these places goes along -/
theorem kinGo_add (n : Nat) {z : Row} (hz : z.length = n + 1) : ∀ (ks : List Nat) (acc : List Int) (l : Row), l.length = n + 1 → (∀ k ∈ ks, (atR z k).2 = false) → kinGo n ks acc (addR l z) = ((kinGo n ks acc l).1, addR (kinGo n ks acc l).2 z)
  | [], _, _, _, _ => rfl
  | k :: ks, acc, l, hl, h => by
    have h1 : (atR (addR l z) k).2 = (atR l k).2 := by
      rw [atR_add hl hz]
      simp [addP, h k List.mem_cons_self]
    have h2 : ∀ j ∈ ks, (atR z j).2 = false := fun j hj => h j (List.mem_cons_of_mem _ hj)
    simp only [kinGo, h1]
    by_cases c : (atR l k).2 = true
    · rw [if_pos c, if_pos c, addR_ac hl hz (kindR_len n k)]
      exact kinGo_add n hz ks _ _ (len2 hl (kindR_len n k)) h2
    · rw [if_neg c, if_neg c]
      exact kinGo_add n hz ks _ _ hl h2
/-- the places ahead stay -/
theorem kinGo_col (n i : Nat) : ∀ (ks : List Nat) (acc : List Int) (l : Row), l.length = n + 1 → (∀ k ∈ ks, i < k) → atR (kinGo n ks acc l).2 i = atR l i
  | [], _, _, _, _ => rfl
  | k :: ks, acc, l, hl, h => by
    have h2 : ∀ j ∈ ks, i < j := fun j hj => h j (List.mem_cons_of_mem _ hj)
    simp only [kinGo]
    by_cases c : (atR l k).2 = true
    · rw [if_pos c, kinGo_col n i ks _ _ (len2 hl (kindR_len n k)) h2, atR_add hl (kindR_len n k), kind_low (h k List.mem_cons_self), addP_0]
    · rw [if_neg c, kinGo_col n i ks _ _ hl h2]
theorem wit_kin (n : Nat) : ∀ (ks : List Nat) (acc : List Int) (l : Row), l.length = n + 1 → ks.Pairwise (· < ·) → (∀ k ∈ ks, k + 2 ≤ n) →
    witGo n ks acc l = some (kinGo n ks acc l) ∨ (witGo n ks acc l = none ∧ (kinGo n ks acc l).2 ≠ zeroR n)
  | [], _, _, _, _, _ => .inl rfl
  | k :: ks, acc, l, hl, hp, h => by
    obtain ⟨hp1, hp2⟩ := List.pairwise_cons.mp hp
    have h2 : ∀ j ∈ ks, j + 2 ≤ n := fun j hj => h j (List.mem_cons_of_mem _ hj)
    have hk := h k List.mem_cons_self
    have bad : ∀ (acc : List Int) (l' : Row), l'.length = n + 1 → (atR l' k).1 = true → (kinGo n ks acc l').2 ≠ zeroR n := fun acc l' hl' c z => by
      have := kinGo_col n k ks acc l' hl' hp1
      rw [z, atR_zero] at this
      rw [← this] at c
      cases c
    simp only [witGo, kinGo]
    generalize hp0 : atR l k = p
    obtain ⟨a, b⟩ := p
    cases a with
    | false =>
      cases b with
      | false =>
        rw [if_neg (by decide), if_pos rfl, if_neg (by decide)]
        exact wit_kin n ks acc l hl hp2 h2
      | true =>
        rw [if_pos rfl, if_pos rfl]
        exact wit_kin n ks _ _ (len2 hl (kindR_len n k)) hp2 h2
    | true =>
      rw [if_neg (by cases b <;> decide), if_neg (by cases b <;> decide)]
      refine .inr ⟨rfl, ?_⟩
      cases b with
      | false =>
        rw [if_neg (by decide)]
        exact bad acc l hl (by rw [hp0])
      | true =>
        rw [if_pos rfl]
        refine bad _ _ (len2 hl (kindR_len n k)) ?_
        rw [atR_add hl (kindR_len n k), hp0, kind_own hk]
        rfl
theorem range_pw (m : Nat) : (List.range m).Pairwise (· < ·) := List.pairwise_lt_range
theorem wit_eq {n : Nat} {r : Row} (hl : r.length = n + 1) (hn : 2 ≤ n) : witD n r = kinD n r := by
  unfold witD kinD
  rcases wit_kin n (List.range (n - 1)) [] r hl (range_pw _) (fun k hk => by have := List.mem_range.mp hk; omega) with e | ⟨e, hz⟩
  · rw [e]
  · rw [e, if_neg hz]
/-! ### all sums of kinds -/
def bySt (n : Nat) : Nat → List (Row × List Int)
  | 0 => [(zeroR n, [])]
  | k + 1 => bySt n k ++ (bySt n k).map fun e => (addR e.1 (kindR n k), e.2 ++ [(k : Int)])
theorem by_len (n : Nat) : ∀ k, ∀ e ∈ bySt n k, e.1.length = n + 1
  | 0, e, h => by
    rw [List.mem_singleton.mp h]
    exact zeroR_len n
  | k + 1, e, h => by
    rcases List.mem_append.mp h with h | h
    · exact by_len n k e h
    · obtain ⟨f, hf, rfl⟩ := List.mem_map.mp h
      exact len2 (by_len n k f hf) (kindR_len n k)
theorem by_size (n : Nat) : ∀ k, (bySt n k).length = 2 ^ k
  | 0 => rfl
  | k + 1 => by
    show (bySt n k ++ _).length = _
    rw [List.length_append, List.length_map, by_size n k, Nat.pow_succ]
    omega
theorem low_of (n : Nat) {k : Nat} : ∀ j ∈ List.range k, (atR (kindR n k) j).2 = false := fun j hj => by
  rw [kind_low (List.mem_range.mp hj)]
theorem by_dec (n : Nat) : ∀ k, k + 1 ≤ n → ∀ e ∈ bySt n k, kinGo n (List.range k) [] e.1 = (e.2, zeroR n)
  | 0, _, e, h => by
    rw [List.mem_singleton.mp h]
    rfl
  | k + 1, hk, e, h => by
    rw [List.range_succ, kinGo_app]
    rcases List.mem_append.mp h with h | h
    · rw [by_dec n k (by omega) e h]
      simp only [kinGo, atR_zero]
      rfl
    · obtain ⟨f, hf, rfl⟩ := List.mem_map.mp h
      rw [kinGo_add n (kindR_len n k) _ _ _ (by_len n k f hf) (low_of n), by_dec n k (by omega) f hf]
      simp only [kinGo]
      rw [addR_z (kindR_len n k), kind_own (by omega), if_pos rfl]
      have e0 : addR (kindR n k) (kindR n k) = zeroR n := by
        have := addR_self (zeroR_len n) (kindR_len n k)
        rw [addR_z (kindR_len n k)] at this
        exact this
      rw [e0]
theorem by_all (n : Nat) : ∀ k, k + 1 ≤ n → ∀ (r : Row) (S : List Int), r.length = n + 1 → kinGo n (List.range k) [] r = (S, zeroR n) → (r, S) ∈ bySt n k
  | 0, _, r, S, hl, h => by
    have h2 : ([], r) = (S, zeroR n) := h
    cases h2
    exact List.mem_singleton.mpr rfl
  | k + 1, hk, r, S, hl, h => by
    rw [List.range_succ, kinGo_app] at h
    generalize hg : kinGo n (List.range k) [] r = g at h
    obtain ⟨S1, l1⟩ := g
    have hl1 : l1.length = n + 1 := by
      have := kinGo_len n (List.range k) [] r hl
      rw [hg] at this
      exact this
    simp only [kinGo] at h
    by_cases c : (atR l1 k).2 = true
    · rw [if_pos c] at h
      cases h2 : addR l1 (kindR n k) with
      | nil => have := len2 hl1 (kindR_len n k); rw [h2] at this; cases this
      | cons x y =>
        have e1 : S1 ++ [(k : Int)] = S := congrArg Prod.fst h
        have e2 : addR l1 (kindR n k) = zeroR n := congrArg Prod.snd h
        have e3 : l1 = kindR n k := by
          have := addR_self hl1 (kindR_len n k)
          rw [e2, addR_z (kindR_len n k)] at this
          exact this.symm
        refine List.mem_append_right _ (List.mem_map.mpr ⟨(addR r (kindR n k), S1), by_all n k (by omega) _ _ (len2 hl (kindR_len n k)) ?_, ?_⟩)
        · rw [kinGo_add n (kindR_len n k) _ _ _ hl (low_of n), hg]
          simp only
          rw [e2]
        · simp only
          rw [addR_self hl (kindR_len n k), e1]
    · rw [if_neg c] at h
      cases h
      exact List.mem_append_left _ (by_all n k (by omega) r _ hl hg)
theorem by_nodup (n : Nat) : ∀ k, k + 1 ≤ n → ((bySt n k).map (·.1)).Nodup
  | 0, _ => by simp [bySt]
  | k + 1, hk => by
    show ((bySt n k ++ _).map (·.1)).Nodup
    rw [List.map_append, List.map_map]
    have ih := by_nodup n k (by omega)
    refine List.nodup_append.mpr ⟨ih, ?_, ?_⟩
    · have e : ((fun x : Row × List Int => x.1) ∘ fun e : Row × List Int => (addR e.1 (kindR n k), e.2 ++ [(k : Int)])) = fun e => addR e.1 (kindR n k) := rfl
      rw [e]
      have h2 := List.pairwise_map.mp ih
      refine List.pairwise_map.mpr (List.Pairwise.imp_of_mem (R := fun a b => a.1 ≠ b.1) (fun {a b} ha hb hab z => hab ?_) h2)
      have := addR_self (by_len n k a ha) (kindR_len n k)
      rw [show addR a.1 (kindR n k) = addR b.1 (kindR n k) from z, addR_self (by_len n k b hb) (kindR_len n k)] at this
      exact this.symm
    · intro a ha b hb z
      obtain ⟨e, he, rfl⟩ := List.mem_map.mp ha
      obtain ⟨f, hf, rfl⟩ := List.mem_map.mp hb
      have h1 := by_dec n k (by omega) e he
      have h2 := kinGo_add n (kindR_len n k) (List.range k) [] f.1 (by_len n k f hf) (low_of n)
      rw [by_dec n k (by omega) f hf] at h2
      have z' : e.1 = addR f.1 (kindR n k) := z
      rw [z', h2] at h1
      have h3 : addR (zeroR n) (kindR n k) = zeroR n := congrArg Prod.snd h1
      rw [addR_z (kindR_len n k)] at h3
      have h4 := kind_own (n := n) (k := k) (by omega)
      rw [h3, atR_zero] at h4
      cases h4
def byD (n : Nat) (r : Row) : PyData := match (bySt n (n - 1)).find? fun e => decide (e.1 = r) with
  | some e => .tuple (e.2.map .int)
  | none => .none
theorem by_eq {n : Nat} {r : Row} (hl : r.length = n + 1) (hn : 2 ≤ n) : byD n r = kinD n r := by
  unfold byD kinD
  cases hf : (bySt n (n - 1)).find? fun e => decide (e.1 = r) with
  | some e =>
    have h1 := List.mem_of_find?_eq_some hf
    have h2 : e.1 = r := of_decide_eq_true (by have := List.find?_some hf; exact this)
    have h3 := by_dec n (n - 1) (by omega) e h1
    rw [h2] at h3
    rw [h3, if_pos rfl]
  | none =>
    rw [if_neg]
    intro z
    have h1 := by_all n (n - 1) (by omega) r _ hl (show kinGo n (List.range (n - 1)) [] r = ((kinGo n (List.range (n - 1)) [] r).1, zeroR n) by rw [← z])
    have h2 := List.find?_eq_none.mp hf _ h1
    exact h2 (decide_eq_true rfl)
/-- what a part of the kinds makes is found again -/
def sumK (n : Nat) (ks : List Nat) : Row := ks.foldl (fun r k => addR r (kindR n k)) (zeroR n)
theorem by_sub (n : Nat) : ∀ (m : Nat) (ks : List Nat), ks.Sublist (List.range m) → (sumK n ks, ks.map fun (k : Nat) => (k : Int)) ∈ bySt n m
  | 0, ks, h => by
    have : ks = [] := by simpa using h
    subst this
    exact List.mem_singleton.mpr rfl
  | m + 1, ks, h => by
    rw [List.range_succ] at h
    obtain ⟨a, b, rfl, ha, hb⟩ := List.sublist_append_iff.mp h
    have ih := by_sub n m a ha
    cases hb with
    | cons _ hb =>
      have : b = [] := by simpa using hb
      subst this
      rw [List.append_nil]
      exact List.mem_append_left _ ih
    | cons_cons _ hb =>
      rename_i b
      have : b = [] := by simpa using hb
      subst this
      refine List.mem_append_right _ (List.mem_map.mpr ⟨_, ih, ?_⟩)
      simp only [sumK, List.foldl_append, List.foldl_cons, List.foldl_nil, List.map_append, List.map_cons, List.map_nil]
theorem kin_sum {n : Nat} {ks : List Nat} (hn : 2 ≤ n) (h : ks.Sublist (List.range (n - 1))) : kinD n (sumK n ks) = .tuple (ks.map fun (k : Nat) => .int (k : Int)) := by
  have h1 := by_dec n (n - 1) (by omega) _ (by_sub n _ ks h)
  unfold kinD
  rw [h1, if_pos rfl, List.map_map]
  rfl
theorem sumK_len (n : Nat) (ks : List Nat) : (sumK n ks).length = n + 1 := by
  unfold sumK
  have : ∀ (ks : List Nat) (r : Row), r.length = n + 1 → (ks.foldl (fun r k => addR r (kindR n k)) r).length = n + 1 := by
    intro ks
    induction ks with
    | nil => exact fun r h => h
    | cons k ks ih => exact fun r h => ih _ (len2 h (kindR_len n k))
  exact this ks _ (zeroR_len n)
end Kr
namespace Kr
open PySem PySem.Spec PyProof.Rows L2
/-! ### dicts whose keys are rows -/
def pairK (p : Bool × Bool) : NestedKey := .tup [.num (bi p.1), .num (bi p.2)]
def rowK (r : Row) : NestedKey := .tup (r.map pairK)
theorem pairK_inj {p q : Bool × Bool} (h : pairK p = pairK q) : p = q := by
  obtain ⟨a, b⟩ := p
  obtain ⟨c, d⟩ := q
  simp only [pairK, NestedKey.tup.injEq, List.cons.injEq, NestedKey.num.injEq, bi_inj, and_true] at h
  rw [h.1, h.2]
theorem map_inj {α β : Type} {f : α → β} (hf : ∀ x y, f x = f y → x = y) : ∀ a b : List α, a.map f = b.map f → a = b
  | [], [], _ => rfl
  | [], _ :: _, h => by simp at h
  | _ :: _, [], h => by simp at h
  | x :: a, y :: b, h => by
    simp only [List.map_cons, List.cons.injEq] at h
    rw [hf x y h.1, map_inj hf a b h.2]
theorem rowK_inj {a b : Row} (h : rowK a = rowK b) : a = b := by
  simp only [rowK, NestedKey.tup.injEq] at h
  exact map_inj (fun _ _ => pairK_inj) _ _ h
theorem pairsK_depth : ∀ r : Row, NestedKey.depthAll (r.map pairK) ≤ 1
  | [] => by simp [NestedKey.depthAll]
  | p :: r => by
    have := pairsK_depth r
    simp only [List.map_cons, NestedKey.depthAll, pairK, NestedKey.depth]
    omega
abbrev Ent := Row × Addr × Addr
def entX (e : Ent) : NestedKey × Addr × Value := (rowK e.1, e.2.1, .ref e.2.2)
def KDs (P : Program) (w : World) (d : Addr) (es : List Ent) (h : Heap) : Prop :=
  ∃ o ds ep, h.get? d = some o ∧ o.ExactDict ∧ o.data = .dict ds ep ∧ ds.toList = (es.map entX).map (entryOfKey (nestedKind P w)) ∧ ((es.map entX).map (·.1)).Nodup ∧ (d == sysModules) = false
def KD (P : Program) (w : World) (d : Addr) (es : List Ent) : HO := .ext (KDs P w d es)
def KeysAt (H : Hp) (es : List Ent) : Prop := ∀ e ∈ es, Dq H (.ref e.2.1) (rowD e.1)
theorem KDs.new {P : Program} {w : World} {H : Hp} {h : Heap} {d : Addr} {es : List Ent} (x : KDs P w d es h) : ObjOk P w H h d (KD P w d es) := by
  refine ⟨x, let ⟨o, _, _, ho, _⟩ := x; ⟨o, ho⟩, fun h1 h2 p k => ?_⟩
  obtain ⟨o, ds, ep, ho, r⟩ := p
  exact ⟨o, ds, ep, k _ ho, r⟩
theorem nodupK {es : List Ent} (h : (es.map (·.1)).Nodup) : ((es.map entX).map (·.1)).Nodup := by
  rw [List.map_map]
  have e : (fun e : Ent => (entX e).1) = (fun e : Ent => rowK e.1) := rfl
  show (es.map fun e => (entX e).1).Nodup
  rw [e, show (es.map fun e : Ent => rowK e.1) = (es.map (·.1)).map rowK by rw [List.map_map]; rfl]
  exact List.Pairwise.map _ (fun a b hab z => hab (rowK_inj z)) h
section
variable {X : Cx} {pins : List (Addr × Obj)} {σ : L2.St} {H : Hp} {s : Shared}
theorem pairs_is (I : Inv X pins σ H s) : ∀ (r : Row) (xs : List V) (its : List Value), DqA H xs (r.map pairD) → Vals xs its → NestedAll s.heap (r.map pairK) its
  | [], _, _, h, v => by
    cases h
    cases v
    exact .nil
  | p :: r, _, _, h, v => by
    cases h with
    | cons h1 h2 =>
      cases v with
      | cons v1 v2 =>
        refine .cons ?_ (pairs_is I r _ _ h2 v2)
        obtain ⟨b, rfl, hb⟩ := pair_inv h1
        obtain ⟨ys, rv, ⟨o, ho, hc, n, hd⟩, _⟩ := I.tuple (SqT.of (K := X.K) hb)
        cases v1
        cases rv with
        | cons e1 rv =>
          cases rv with
          | cons e2 rv =>
            cases rv
            obtain ⟨t1, rfl⟩ := e1
            obtain ⟨t2, rfl⟩ := e2
            exact .tup ho hc hd (.cons (.int _ _) (.cons (.int _ _) .nil))
theorem key_is (I : Inv X pins σ H s) {a : Addr} {r : Row} (h : Dq H (.ref a) (rowD r)) : (nestedKind X.prog X.w).is s.heap (rowK r) a := by
  obtain ⟨b, xs, e, hb, q⟩ := row_inv h
  cases e
  obtain ⟨its, rv, ⟨o, ho, hc, n, hd⟩, _⟩ := I.tuple (SqT.of (K := X.K) hb)
  refine ⟨.tup ho hc hd (pairs_is I r xs its q rv), ?_⟩
  have := pairsK_depth r
  simp only [rowK, NestedKey.depth]
  omega
theorem kd_at (I : Inv X pins σ H s) {d : Addr} {es : List Ent} (hd : H d = some (KD X.prog X.w d es)) (hk : KeysAt H es) : s.heap.DictOfH (nestedKind X.prog X.w) d (es.map entX) ∧ (d == sysModules) = false := by
  obtain ⟨⟨o, ds, ep, ho, hx, hdat, hl, hn, hs⟩, _, _⟩ := I.hok d _ hd
  refine ⟨⟨o, ds, ep, ho, hx, hdat, hl, fun x hx => ?_, hn⟩, hs⟩
  obtain ⟨e, he, rfl⟩ := List.mem_map.mp hx
  exact key_is I (hk e he)
theorem kd_nodup (I : Inv X pins σ H s) {d : Addr} {es : List Ent} (hd : H d = some (KD X.prog X.w d es)) : (es.map (·.1)).Nodup := by
  obtain ⟨⟨o, ds, ep, ho, hx, hdat, hl, hn, hs⟩, _, _⟩ := I.hok d _ hd
  rw [List.map_map] at hn
  have h2 : (es.map fun e : Ent => rowK e.1).Nodup := hn
  rw [show (es.map fun e : Ent => rowK e.1) = (es.map (·.1)).map rowK by rw [List.map_map]; rfl] at h2
  exact (List.pairwise_map.mp h2).imp fun h z => h (by rw [z])
end
theorem atK_mem : ∀ {es : List Ent} {e : Ent}, (es.map (·.1)).Nodup → e ∈ es → atKey (es.map entX) (rowK e.1) = some (e.2.1, Value.ref e.2.2)
  | [], _, _, h => nomatch h
  | f :: es, e, hn, h => by
    unfold atKey
    rw [List.map_cons, List.find?_cons]
    rcases List.mem_cons.mp h with h | h
    · subst h
      rw [show decide ((entX e).1 = rowK e.1) = true from decide_eq_true rfl]
      rfl
    · have hn2 : f.1 ∉ es.map (·.1) ∧ (es.map (·.1)).Nodup := by simpa using hn
      have hne : ¬ (entX f).1 = rowK e.1 := fun z => hn2.1 (by
        rw [rowK_inj (show rowK f.1 = rowK e.1 from z)]
        exact List.mem_map.mpr ⟨e, h, rfl⟩)
      rw [decide_eq_false hne]
      have ih := atK_mem hn2.2 h
      unfold atKey at ih
      exact ih
theorem atK_none {es : List Ent} {r : Row} (h : ∀ e ∈ es, e.1 ≠ r) : atKey (es.map entX) (rowK r) = none := by
  unfold atKey
  rw [List.find?_eq_none.mpr]
  · rfl
  · intro x hx
    obtain ⟨e, he, rfl⟩ := List.mem_map.mp hx
    exact fun z => h e he (rowK_inj (of_decide_eq_true z))
section
variable {X : Cx} {o i e f : Expr} {td ty tx : TE} {pos apos cpos : Pos}
/-- d[k] -/
def tKGet (P : Program) (w : World) (td ty : TE) : TE := fun σ H Q => td σ H fun x H1 => ty σ H1 fun y H2 => ∃ (d a : Addr) (es : List Ent) (e : Ent), x = .ref d ∧ y = .ref a ∧ H2 d = some (KD P w d es) ∧ KeysAt H2 es ∧ e ∈ es ∧ Dq H2 (.ref a) (rowD e.1) ∧ Q (.ref e.2.2) H2
theorem pe_kget (hu : X.A.units + 64 < cLine) (ho : PE X o td) (hi : PE X i ty) (hs : NoSl i) : PE X (.Subscript o i pos) (tKGet X.prog X.w td ty) := by
  refine ⟨fun pn sh st hp W Iv hh => subD_of PySem.F.slot_dict_getitem.lookup hs (thn (ho.run pn sh st hp _ Iv hh) fun u s1 ⟨x, H1, I1, rx, q1⟩ => thn (hi.run pn s1 st H1 _ I1 q1) fun iv s2 ⟨y, H2, I2, ry, d, a, es, e, ex, ey, hd, hk, he, ha, q2⟩ => ?_)⟩
  subst ex ey
  obtain rfl : u = Value.ref d := rx
  obtain rfl : iv = Value.ref a := ry
  obtain ⟨dd, hs2⟩ := kd_at I2 hd hk
  refine ⟨let ⟨ob, _, _, h1, h2, _⟩ := dd; ⟨ob, h1, h2.1⟩, wpAny_getItem_heap (knd := nestedKind X.prog X.w) (by show X.A.units + 1 + 8 < cLine; omega) (key_is I2 ha) dd (atK_mem (kd_nodup I2 hd) he) ?_⟩
  exact ⟨.ref e.2.2, H2, I2.tok _, rfl, q2⟩
/-- d[k] = v, k not there yet -/
def rKSet (P : Program) (w : World) : TSet := fun o i v H Q => ∃ (d a b : Addr) (es : List Ent) (r : Row), o = .ref d ∧ i = .ref a ∧ v = .ref b ∧ H d = some (KD P w d es) ∧ KeysAt H es ∧ Dq H (.ref a) (rowD r) ∧ (∀ e ∈ es, e.1 ≠ r) ∧ es.length ≤ 100000 ∧ Q (upd H d (KD P w d (es ++ [(r, a, b)])))
theorem set_k (hu : X.A.units + 64 < cLine) : PSet X (rKSet X.prog X.w) := by
  intro pn sh st hp o i v ov iv u Q Iv ro ri rv hh
  obtain ⟨d, a, b, es, r, rfl, rfl, rfl, hd, hk, ha, hn, hl, q⟩ := hh
  obtain rfl : ov = Value.ref d := ro
  obtain rfl : iv = Value.ref a := ri
  obtain rfl : u = Value.ref b := rv
  obtain ⟨dd, hs2⟩ := kd_at Iv hd hk
  refine wpAny_setItem_heap (knd := nestedKind X.prog X.w) (hsz := by rw [List.length_map]; exact Nat.le_trans hl (by decide)) (by show X.A.units + 1 + 8 < cLine; omega) (key_is Iv ha) dd fun h' dd' sb => ?_
  rw [storedH_new (atK_none hn)] at dd'
  have ee : es.map entX ++ [(rowK r, a, Value.ref b)] = (es ++ [(r, a, b)]).map entX := by rw [List.map_append]; rfl
  rw [ee] at dd'
  obtain ⟨ob, ds, ep, h1, h2, h3, h4, _, h6⟩ := dd'
  exact ⟨_, Iv.write (e := d) (t' := _) (by rw [hd]; trivial) (.inl rfl) (fun c z hc hz => (sb.2 c hc).trans hz) ⟨ob, h1⟩ (KDs.new ⟨ob, ds, ep, h1, h2, h3, h4, h6, hs2⟩), q⟩
/-- d.get(k, x) -/
def tKGet2 (P : Program) (w : World) (td ty tx : TE) : TE := fun σ H Q => td σ H fun x H1 => ∃ (d : Addr) (es : List Ent), x = .ref d ∧ H1 d = some (KD P w d es) ∧ KeysAt H1 es ∧ ty σ H1 fun y H2 => tx σ H2 fun z H3 => ∃ (a : Addr) (r : Row), y = .ref a ∧ H3 d = some (KD P w d es) ∧ KeysAt H3 es ∧ Dq H3 (.ref a) (rowD r) ∧
  ((∃ e ∈ es, e.1 = r ∧ Q (.ref e.2.2) H3) ∨ ((∀ e ∈ es, e.1 ≠ r) ∧ Q z H3))
theorem pe_kget2 (hu : X.A.units + 64 < cLine) (ho : PE X o td) (he : PE X e ty) (hf : PE X f tx) (m : M2 X o "get" apos e f cpos) : PE X (.Call (.Attribute o "get" apos) [e, f] [] cpos) (tKGet2 X.prog X.w td ty tx) := by
  refine ⟨fun pn sh st hp W Iv hh => wpAny_Call_method m.base m.few m.line PySem.F.plainAttrs_dict PySem.F.slot_dict_get PySem.F.type_dict_get (thn (ho.run pn sh st hp _ Iv hh) fun u s1 ⟨x, H1, I1, rx, d, es, ex, hd, hk, q1⟩ => ?_)⟩
  subst ex
  obtain rfl : u = Value.ref d := rx
  obtain ⟨dd0, _⟩ := kd_at I1 hd hk
  refine ⟨let ⟨ob, _, _, h1, h2, _⟩ := dd0; ⟨ob, h1, h2.1⟩, fun b q => ?_, ?_⟩
  · cases q
    obtain ⟨ob, _, _, h1, h2, _⟩ := dd0
    exact ⟨ob, h1, h2.2.1⟩
  rw [m.trees]
  refine Calls.callWith_builtin rfl (Calls.evalArgs_plain (Calls.spliced_cons (thn (he.run pn s1 st H1 _ I1 q1) fun iv s2 ⟨y, H2, I2, ry, q2⟩ =>
    Calls.spliced_cons (thn (hf.run pn s2 st H2 _ I2 q2) fun fv s3 ⟨z, H3, I3, rz, a, r, ey, hd3, hk3, ha, q3⟩ => Calls.spliced_nil ?_))))
  subst ey
  obtain rfl : iv = Value.ref a := ry
  obtain ⟨dd, hs2⟩ := kd_at I3 hd3 hk3
  refine getOr_keyed (knd := nestedKind X.prog X.w) (by show X.A.units + 1 + 8 < cLine; omega) (key_is I3 ha) hs2 ⟨_, dd, rfl⟩ ?_
  rw [valueAt_pairsH]
  rcases q3 with ⟨en, hen, rfl, q3⟩ | ⟨hn, q3⟩
  · rw [atK_mem (kd_nodup I3 hd3) hen]
    exact ⟨.ref en.2.2, H3, I3.tok _, rfl, q3⟩
  · rw [atK_none hn]
    exact ⟨_, H3, I3.tok _, rz, q3⟩
/-- list(d) -/
def rKList (P : Program) (w : World) : List V → Hp → VK → Prop := fun vs H Q => ∃ (d : Addr) (es : List Ent), vs = [.ref d] ∧ H d = some (KD P w d es) ∧ es.length ≤ 100000 ∧ ∀ l, H l = none → Q (.ref l) (upd H l (.lst (es.map fun e => V.ref e.2.1)))
theorem call_klist (hc : X.calm = true) : CallR X (.type "list") (rKList X.prog X.w) := by
  intro pn sh st hp vs us Q Iv r hh
  obtain ⟨d, es, rfl, hd, hl, q⟩ := hh
  cases r with
  | cons r1 r2 =>
    cases r2
    cases r1
    obtain ⟨⟨ob, ds, ep, ho, hx, hdat, he, hn, hs⟩, _, _⟩ := Iv.hok d _ hd
    have hsz : ds.size = es.length := by
      rw [← Array.length_toList, he, List.length_map, List.length_map]
    refine PySem.W.kdl_call (KdlSrc.rawDict hs) (Iv.ok.hd hc) (show sh.heap.DictRaw d ds ep from ⟨ob, ho, hx, hdat⟩) (by rw [hsz]; exact Nat.le_trans hl (by decide)) fun h' tk acc c hk hS hit => ?_
    have ea : acc.toList = es.map fun e => Value.ref e.2.1 := by
      apply List.ext_getElem?
      intro j
      rw [List.getElem?_map]
      by_cases hj : j < es.length
      · have hja : j < acc.size := by rw [hit.1, hsz]; exact hj
        obtain ⟨hi, ev⟩ := hit.2 j _ (Array.getElem?_eq_getElem hja)
        rw [Array.getElem?_toList, Array.getElem?_eq_getElem hja, List.getElem?_eq_getElem hj, ev]
        have e2 : ds.toList[j]? = some (entryOfKey (nestedKind X.prog X.w) (entX es[j])) := by
          rw [he, List.getElem?_map, List.getElem?_map, List.getElem?_eq_getElem hj]
          rfl
        rw [Array.getElem?_toList, Array.getElem?_eq_getElem hi] at e2
        rw [Option.some.inj e2]
        rfl
      · rw [List.getElem?_eq_none_iff.mpr (by rw [Array.length_toList, hit.1, hsz]; omega), List.getElem?_eq_none_iff.mpr (by omega)]
        rfl
    have rv : ∀ fs : List Ent, Vals (fs.map fun e => V.ref e.2.1) (fs.map fun e => Value.ref e.2.1) := fun fs => by
      induction fs with
      | nil => exact .nil
      | cons x fs ih => exact .cons rfl ih
    have oa : acc = (es.map fun e => Value.ref e.2.1).toArray := by rw [← ea]
    exact ⟨.ref sh.heap.objs.size, _, Iv.laid (a := sh.heap.objs.size) (o := .lst (es.map fun e => V.ref e.2.1)) (h' := h') (t' := tk) hk (Nat.le_refl _) ⟨by rw [List.length_map]; exact Nat.le_trans hl (by decide), _, c, rv es, by rw [hS, oa]⟩, rfl, q _ (Iv.hok.fresh (Nat.le_refl _))⟩
/-- {k: v} -/
def tKDisp (P : Program) (w : World) (tk tv : TE) : TE := fun σ H Q => ∀ p, H p = none → tPairs [(tk, tv)] σ (upd H p (.dK [])) fun ps H2 => ∃ (a b : Addr) (r : Row), ps = [(.ref a, .ref b)] ∧ H2 p = some (.dK []) ∧ Dq H2 (.ref a) (rowD r) ∧ Q (.ref p) (upd H2 p (KD P w p [(r, a, b)]))
theorem pe_kdisp {k v : Expr} {tk tv : TE} (hu : X.A.units + 64 < cLine) (h : PPs X pos [some k] [v] [(tk, tv)]) : PE X (.Dict [some k] [v] pos) (tKDisp X.prog X.w tk tv) := by
  refine ⟨fun pn sh st hp W Iv hh => ?_⟩
  have nf := Iv.hok.fresh (Nat.le_refl sh.heap.objs.size)
  have I1 := Iv.laid (a := sh.heap.objs.size) (o := .dK []) (h' := sh.heap.push { cls := .type "dict", data := .dict #[] }) (t' := sh.toks) (fun _ _ q => Heap.get?_push_of_some _ q) (Nat.le_refl _) (dk_empty sh.heap Iv.big)
  rw [arm_eval_Dict, zip_pairTrees [some k] [v] X.env pos rfl rfl, dictDisplay_pairs (pairTrees [some k] [v] X.env pos) (by simp [pairTrees]) (by simp [pairTrees])]
  refine wpAny_bind (wpAny_standAt (wpAny_bind (wpAny_subDictH (knd := nestedKind X.prog X.w) (Q := fun d s' => wpAny (model X.prog X.w) X.A (pure (Value.ref d)) (EP X pn st W) X.xe s') (by show X.A.units + 8 < cLine; omega) (by simp [pairTrees]) ?_)))
  refine wpAny_mono (h.run pn _ st _ _ I1 (hh _ nf)) (fun ws s2 ⟨ps, H2, I2, rel, a, b, r, eps, hp2, ha, q2⟩ => ?_) fun _ _ e => e
  subst eps
  cases rel with
  | @cons _ kv _ _ r1 rel =>
    cases rel
    obtain ⟨kk, vv⟩ := kv
    obtain ⟨ra, rb⟩ := r1
    obtain rfl : kk = Value.ref a := ra
    obtain rfl : vv = Value.ref b := rb
    obtain ⟨_, hsys, vs, rv, ob, ds, ep, ho, hx, hdat, _, hpq, _⟩ := I2.hok _ _ hp2
    cases rv
    have hds : ds = #[] := by
      obtain ⟨l⟩ := ds
      cases l with
      | nil => rfl
      | cons y l => exact nomatch hpq
    subst hds
    refine ⟨[(rowK r, a, Value.ref b)], ⟨rfl, rfl, key_is I2 ha, trivial⟩, ⟨ob, #[], ep, ho, hx, hdat, rfl, fun x hx => (nomatch hx), List.nodup_nil⟩, fun h' tk dd sb => wpAny_pure ?_⟩
    have e1 : storedAllH [] [(rowK r, a, Value.ref b)] = ([(r, a, b)] : List Ent).map entX := rfl
    rw [e1] at dd
    obtain ⟨ob, ds, ep, h1, h2, h3, h4, _, h6⟩ := dd
    exact ⟨.ref sh.heap.objs.size, _, I2.write (e := sh.heap.objs.size) (t' := tk) (by rw [hp2]; trivial) (.inl rfl) (fun c z hc hz => (sb.2 c hc).trans hz) ⟨ob, h1⟩ (KDs.new ⟨ob, ds, ep, h1, h2, h3, h4, h6, hsys⟩), rfl, q2⟩
end
end Kr
namespace Kr
open PySem PySem.Spec PyProof.Rows L2
inductive EsAt (H : Hp) : List Ent → List (Row × List Int) → Prop
  | nil : EsAt H [] []
  | cons {r : Row} {a b : Addr} {S : List Int} {es : List Ent} {bs : List (Row × List Int)} (hk : Dq H (.ref a) (rowD r)) (hv : H b = some (.tup (S.map V.int))) (t : EsAt H es bs) : EsAt H ((r, a, b) :: es) ((r, S) :: bs)
theorem EsAt.upT {H H' : Hp} (s : TS H H') : ∀ {es : List Ent} {bs : List (Row × List Int)}, EsAt H es bs → EsAt H' es bs
  | _, _, .nil => .nil
  | _, _, .cons hk hv t => .cons (hk.upT s (row_flat _)) (s _ _ hv) (EsAt.upT s t)
theorem EsAt.len {H : Hp} : ∀ {es : List Ent} {bs : List (Row × List Int)}, EsAt H es bs → es.length = bs.length
  | _, _, .nil => rfl
  | _, _, .cons _ _ t => by rw [List.length_cons, List.length_cons, EsAt.len t]
theorem EsAt.app {H : Hp} : ∀ {es fs : List Ent} {bs cs : List (Row × List Int)}, EsAt H es bs → EsAt H fs cs → EsAt H (es ++ fs) (bs ++ cs)
  | _, _, _, _, .nil, q => q
  | _, _, _, _, .cons hk hv t, q => .cons hk hv (EsAt.app t q)
theorem EsAt.get {H : Hp} : ∀ {es : List Ent} {bs : List (Row × List Int)} {i : Nat} {e : Ent}, EsAt H es bs → es[i]? = some e → ∃ S, bs[i]? = some (e.1, S) ∧ Dq H (.ref e.2.1) (rowD e.1) ∧ H e.2.2 = some (.tup (S.map V.int))
  | _, _, _, _, .nil, h => by simp at h
  | _, _, 0, _, .cons hk hv t, h => by
    simp at h
    subst h
    exact ⟨_, rfl, hk, hv⟩
  | _, _, i + 1, _, .cons hk hv t, h => by
    obtain ⟨S, h1, h2⟩ := EsAt.get (i := i) t (by simpa using h)
    exact ⟨S, by simpa using h1, h2⟩
theorem EsAt.keys {H : Hp} {es : List Ent} {bs : List (Row × List Int)} (q : EsAt H es bs) : KeysAt H es := fun e he => by
  obtain ⟨i, hi, rfl⟩ := List.mem_iff_getElem.mp he
  obtain ⟨_, _, h, _⟩ := q.get (List.getElem?_eq_getElem hi)
  exact h
theorem EsAt.fst {H : Hp} : ∀ {es : List Ent} {bs : List (Row × List Int)}, EsAt H es bs → es.map (·.1) = bs.map (·.1)
  | _, _, .nil => rfl
  | _, _, .cons _ _ t => by rw [List.map_cons, List.map_cons, EsAt.fst t]
theorem nodup_at {α : Type} {L : List α} {m : Nat} {x : α} (h : L.Nodup) (e : L[m]? = some x) : ∀ y ∈ L.take m, y ≠ x := by
  obtain ⟨hm, hx⟩ := List.getElem?_eq_some_iff.mp e
  have e2 : L = L.take m ++ x :: L.drop (m + 1) := by
    rw [← hx, ← List.drop_eq_getElem_cons hm, List.take_append_drop]
  rw [e2] at h
  intro y hy
  exact (List.nodup_append.mp h).2.2 y hy x List.mem_cons_self
def spBy : Sp := fun vs H Q _ => ∃ (n : Nat) (v : V) (r : Row), vs = [.int (n : Int), v] ∧ 2 ≤ n ∧ n ≤ 9 ∧ r.length = n + 1 ∧ Dq H v (rowD r) ∧ ∀ H' u, Same H H' → Dq H' u (kinD n r) → Q u H'
section
variable {P : Program} {w : World} {K : PySem.W.Frag} {mg : Str → Option Value} {base : Heap}
theorem scBA : FnScope ["n", "row", "found", "k", "own"] ["n", "row"] (defScope sByAll) := ⟨rfl, rfl, rfl, by decide +kernel, rfl, by decide +kernel, by decide +kernel⟩
theorem o_byAll (D : Df K mg "_law_by_all" sByAll ["n", "row"]) (B : Bi mg) (os : Ok P w K mg base 1 "_law_sum" ["one", "two"] spLSum) (ok : Ok P w K mg base 2 "_law_kind" ["n", "k"] spKind) : Ok P w K mg base 3 "_law_by_all" ["n", "row"] spBy := by
  refine D.ok fun f fd F => F.ok scBA (fun vs H Q E h => ?_) (fun cdv A outer s H vs Q E hr h => ?_)
  · obtain ⟨n, v, r, rfl, _⟩ := h
    rfl
  · obtain ⟨n, v, r, rfl, hn2, hn, hl, hv, q⟩ := h
    have hr1 := hr.mono (show 1 ≤ 2 by decide)
    have hu : (cxOf CX0 P w K mg base ["n", "row", "found", "k", "own"] "_law_by_all" (defScope sByAll) f cdv A outer s H E).A.units + 64 < cLine := hr.units
    refine ⟨_, pss_cons (ps_set (i := 2) scBA.nd rfl (.inl rfl) (pe_kdisp hu (pps_cons (pe_op op_repT (pe_tup (pa_cons (pe_tup (pa_cons pe_int (pa_cons pe_int pa_nil))) pa_nil)) (pe_op op_add (pv 0) pe_int)) (pe_tup pa_nil) pps_nil)))
      (pss_cons (ps_for PassesOwn.never rfl (pi_range1 (by rfl) B.range (pa_cons (pe_op op_sub (pv 0) pe_int) pa_nil)) (pg_name (i := 3) scBA.nd rfl (.inl rfl))
        (pss_one (ps_for PassesOwn.never rfl (pi_list (pe_callTy (call_klist rfl) (by rfl) B.list (by decide +kernel) (pa_cons (pv 2) pa_nil))) (pg_name (i := 4) scBA.nd rfl (.inl rfl))
          (pss_one (ps_asg (pe_op op_catA (pe_kget hu (pv 2) (pv 4) (fun _ _ => rfl)) (pe_tup (pa_cons (pv 3) pa_nil))) (pg_sub (pv 2) (pe_fn os hr1 (by rfl) (pa_cons (pv 4) (pa_cons (pe_fn ok hr (by rfl) (pa_cons (pv 0) (pa_cons (pv 3) pa_nil))) pa_nil))) (set_k hu)))))))
      (pss_one (ps_ret (pe_kget2 hu (pv 2) (pv 1) pe_non ⟨by rfl, by rfl, by rfl, by rfl⟩)))), ?_⟩
    intro d nd
    have sd := same_new (o := .dK []) nd
    refine ⟨by show 2 ≤ sizeLine; decide, fun t nt => ⟨by show 1 ≤ sizeLine; decide, fun t1 nt1 => ?_⟩⟩
    have st := same_new (o := .tup [.int 0, .int 0]) nt
    have st1 := same_new (o := .tup [.ref t]) nt1
    refine ⟨.int n, rfl, _, _, rfl, rfl, t1, (n : Int) + 1, [.ref t], rfl, rfl, SqT.of upd_same, by simp, by omega, by omega, by show 1 ≤ 1000; decide, fun t2 nt2 => ?_⟩
    have hlen : ((n : Int) + 1).toNat = n + 1 := by omega
    rw [rep_tup, hlen]
    have st2 := same_new (o := .tup (List.replicate (n + 1) (V.ref t))) nt2
    refine ⟨by show 0 ≤ sizeLine; decide, fun t3 nt3 => ?_⟩
    have st3 := same_new (o := .tup []) nt3
    have hz : Dq (upd (upd (upd (upd (upd H d (.dK [])) t (.tup [.int 0, .int 0])) t1 (.tup [.ref t])) t2 (.tup (List.replicate (n + 1) (V.ref t)))) t3 (.tup [])) (.ref t2) (rowD (zeroR n)) :=
      .tup (st3 _ _ upd_same) ((zero_dq (st2 _ _ (st1 _ _ upd_same)) (n + 1)).up st3)
    have hd4 := st3 _ _ (st2 _ _ (st1 _ _ (st _ _ (upd_same (H := H) (a := d) (o := .dK [])))))
    have sm4 : Same H _ := sd.trans (st.trans (st1.trans (st2.trans st3)))
    have ht3 : (upd (upd (upd (upd (upd H d (.dK [])) t (.tup [.int 0, .int 0])) t1 (.tup [.ref t])) t2 (.tup (List.replicate (n + 1) (V.ref t)))) t3 (.tup [])) t3 = some (.tup (([] : List Int).map V.int)) := upd_same
    generalize upd (upd (upd (upd (upd H d (.dK [])) t (.tup [.int 0, .int 0])) t1 (.tup [.ref t])) t2 (.tup (List.replicate (n + 1) (V.ref t)))) t3 (.tup []) = H4 at hz hd4 sm4 ht3
    refine ⟨t2, t3, zeroR n, rfl, hd4, hz, ?_⟩
    have ts5 : TS H4 (upd H4 d (KD P w d [(zeroR n, t2, t3)])) := fun b xs e => by
      rw [upd_ne (ne_of e hd4 (by intro z; cases z))]
      exact e
    refine ⟨.int n, rfl, _, _, rfl, rfl, (n : Int) - 1, rfl, by omega, by omega, ?_⟩
    have hm : ((n : Int) - 1).toNat = n - 1 := by omega
    rw [hm]
    refine for_it walk_rg (fun k σ H2 => ∃ (es : List Ent) (v3 v4 : Option V), σ = [some (.int n), some v, some (.ref d), v3, v4] ∧ (∀ b o, H b = some o → H2 b = some o) ∧ H2 d = some (KD P w d es) ∧ EsAt H2 es (bySt n k))
      ⟨[(zeroR n, t2, t3)], none, none, rfl, fun b o hb => by rw [upd_ne (ne_of_none hb nd)]; exact sm4 _ _ hb, upd_same, .cons (hz.upT ts5 (row_flat _)) (ts5 _ _ ht3) .nil⟩ (fun _ _ _ _ _ => trivial) ?_ ?_
    · rintro k x σ H2 H2' hk ⟨es, v3, v4, rfl, sm, hd, qe⟩ ⟨rfl, rfl⟩
      have hel : es.length = 2 ^ k := by rw [qe.len, by_size]
      have h2k : 2 ^ k ≤ 256 := Nat.le_trans (Nat.pow_le_pow_right (by decide) (show k ≤ 8 by omega)) (by decide)
      refine ⟨.ref d, rfl, d, es, rfl, hd, by omega, fun L nL => ?_⟩
      have sL := same_new (o := .lst (es.map fun e => V.ref e.2.1)) nL
      have hdL : d ≠ L := ne_of_none hd nL
      refine ⟨L, rfl, ⟨_, SqL.of upd_same⟩, for_list (K := K) (xs := es.map fun e => V.ref e.2.1) (fun i σ H3 => ∃ (fs : List Ent) (v4 : Option V), σ = [some (.int n), some v, some (.ref d), some (.int k), v4] ∧ (∀ b o, H b = some o → H3 b = some o) ∧ H3 d = some (KD P w d (es ++ fs)) ∧ H3 L = some (.lst (es.map fun e => V.ref e.2.1)) ∧ EsAt H3 (es ++ fs) (bySt n k ++ ((bySt n k).take i).map fun e => (addR e.1 (kindR n k), e.2 ++ [(k : Int)])))
        ⟨[], v4, rfl, fun b o hb => sL _ _ (sm _ _ hb), by rw [List.append_nil]; exact sL _ _ hd, upd_same, by rw [List.take_zero, List.map_nil, List.append_nil, List.append_nil]; exact qe.upT (TS.of sL)⟩ (fun i σ H3 _ ⟨_, _, _, _, _, h, _⟩ => SqL.of h) ?_ ?_⟩
      · rintro i x σ H3 hx ⟨fs, v4, rfl, sm3, hd3, hL3, qe3⟩
        rw [List.getElem?_map] at hx
        have hi : i < es.length := by
          by_cases c : i < es.length
          · exact c
          · rw [List.getElem?_eq_none_iff.mpr (by omega)] at hx
            cases hx
        rw [List.getElem?_eq_getElem hi] at hx
        obtain rfl : V.ref (es[i]).2.1 = x := Option.some.inj hx
        obtain ⟨S, hS, hkey, hval⟩ := qe3.get (i := i) (e := es[i]) (by rw [List.getElem?_append_left hi]; exact List.getElem?_eq_getElem hi)
        have hib : i < (bySt n k).length := by rw [← qe.len]; exact hi
        rw [List.getElem?_append_left hib] at hS
        generalize hee : es[i] = e at hkey hval hS
        have hmem : e ∈ es ++ fs := by rw [← hee]; exact List.mem_append_left _ (List.getElem_mem hi)
        have hrl : e.1.length = n + 1 := by_len n k _ (List.mem_of_getElem? hS)
        refine ⟨.ref d, rfl, .ref e.2.1, rfl, d, e.2.1, es ++ fs, e, rfl, rfl, hd3, qe3.keys, hmem, hkey, .int k, rfl, by show 1 ≤ sizeLine; decide, fun u nu => ?_⟩
        have su := same_new (o := .tup [.int (k : Nat)]) nu
        -- the tuple S + (k,)
        have cat : ∀ (y : Addr) (H5 : Hp), Same H3 H5 → H5 y = some (.tup ((S ++ [(k : Int)]).map V.int)) → gSub (tVar 2) (tCall spLSum [] E0 (tCons (tVar 4) (tCons (tCall spKind [] E0 (tCons (tVar 0) (tCons (tVar 3) tNil))) tNil))) (rKSet P w) (.ref y) [some (.int n), some v, some (.ref d), some (.int k), some (.ref e.2.1)] H5 (fun σ' H' => ∃ (fs : List Ent) (v4 : Option V), σ' = [some (.int n), some v, some (.ref d), some (.int k), v4] ∧ (∀ b o, H b = some o → H' b = some o) ∧ H' d = some (KD P w d (es ++ fs)) ∧ H' L = some (.lst (es.map fun e => V.ref e.2.1)) ∧ EsAt H' (es ++ fs) (bySt n k ++ ((bySt n k).take (i + 1)).map fun e => (addR e.1 (kindR n k), e.2 ++ [(k : Int)]))) := by
          intro y H5 s5 hy
          refine ⟨.ref d, rfl, .ref e.2.1, rfl, .int n, rfl, .int k, rfl, n, k, rfl, by omega, by omega, fun H6 kv s6 hkv => ?_⟩
          refine ⟨.ref e.2.1, kv, e.1, kindR n k, n + 1, rfl, hrl, kindR_len n k, by omega, (hkey.up s5).up s6, hkv, fun H7 kv2 s7 hkv2 => ?_⟩
          have s37 : Same H3 H7 := s5.trans (s6.trans s7)
          obtain ⟨ka, kxs, rfl, hka, hkq⟩ := row_inv hkv2
          have hd7 := s37 _ _ hd3
          have qe7 := qe3.upT (TS.of s37)
          have hne : ∀ z ∈ es ++ fs, z.1 ≠ addR e.1 (kindR n k) := by
            have hnd := by_nodup n (k + 1) (by omega)
            have hat : ((bySt n (k + 1)).map (·.1))[(bySt n k).length + i]? = some (addR e.1 (kindR n k)) := by
              show ((bySt n k ++ (bySt n k).map fun e => (addR e.1 (kindR n k), e.2 ++ [(k : Int)])).map (·.1))[_]? = _
              rw [List.getElem?_map, List.getElem?_append_right (Nat.le_add_right _ _), Nat.add_sub_cancel_left, List.getElem?_map, hS]
              rfl
            have hlow := nodup_at hnd hat
            intro z hz
            refine hlow z.1 ?_
            have e1 : ((bySt n (k + 1)).map (·.1)).take ((bySt n k).length + i) = (es ++ fs).map (·.1) := by
              rw [qe3.fst]
              show ((bySt n k ++ (bySt n k).map fun e => (addR e.1 (kindR n k), e.2 ++ [(k : Int)])).map (·.1)).take _ = _
              rw [← List.map_take, List.take_append, List.take_of_length_le (Nat.le_add_right _ _), Nat.add_sub_cancel_left, List.map_take]
            rw [e1]
            exact List.mem_map.mpr ⟨z, hz, rfl⟩
          have hel3 : (es ++ fs).length ≤ 100000 := by
            rw [qe3.len, List.length_append, List.length_map, by_size, List.length_take, by_size]
            omega
          refine ⟨d, ka, y, es ++ fs, addR e.1 (kindR n k), rfl, rfl, rfl, hd7, qe7.keys, hkv2, hne, hel3, ?_⟩
          have ts8 : TS H7 (upd H7 d (KD P w d (es ++ fs ++ [(addR e.1 (kindR n k), ka, y)]))) := fun b xs hb => by
            rw [upd_ne (ne_of hb hd7 (by intro z; cases z))]
            exact hb
          refine ⟨fs ++ [(addR e.1 (kindR n k), ka, y)], _, rfl, fun b o hb => ?_, by rw [upd_same, List.append_assoc], ?_, ?_⟩
          · rw [upd_ne (ne_of_none hb nd)]
            exact s37 _ _ (sm3 _ _ hb)
          · rw [upd_ne hdL.symm]
            exact s37 _ _ hL3
          · have e9 : bySt n k ++ ((bySt n k).take (i + 1)).map (fun e => (addR e.1 (kindR n k), e.2 ++ [(k : Int)])) = (bySt n k ++ ((bySt n k).take i).map fun e => (addR e.1 (kindR n k), e.2 ++ [(k : Int)])) ++ [(addR e.1 (kindR n k), S ++ [(k : Int)])] := by
              rw [List.take_add_one, hS, List.map_append, List.append_assoc]
              rfl
            rw [e9, ← List.append_assoc]
            exact (qe7.upT ts8).app (.cons (hkv2.upT ts8 (row_flat _)) (ts8 _ _ (s6.trans s7 _ _ hy)) .nil)
        refine ⟨e.2.2, u, S.map V.int, [.int (k : Nat)], rfl, rfl, SqT.of (su _ _ hval), SqT.of upd_same, ?_, fun hS0 => cat u _ su ?_, fun hS0 h0 => absurd h0 (by simp), fun hS0 _ y ny => cat y _ (su.trans (same_new ny)) ?_⟩
        · have hSl : S.length ≤ 100 := by
            have h1 : ∀ k, ∀ b ∈ bySt n k, b.2.length ≤ k := by
              intro k
              induction k with
              | zero =>
                intro b hb
                rw [List.mem_singleton.mp hb]
                exact Nat.le_refl _
              | succ k ih =>
                intro b hb
                rcases List.mem_append.mp hb with hb | hb
                · exact Nat.le_succ_of_le (ih b hb)
                · obtain ⟨c, hc, rfl⟩ := List.mem_map.mp hb
                  have := ih c hc
                  simp only [List.length_append, List.length_cons, List.length_nil]
                  omega
            have := h1 k _ (List.mem_of_getElem? hS)
            simp only at this
            omega
          rw [List.length_map]
          exact Nat.le_trans (show S.length + 1 ≤ 101 by omega) (by decide)
        · have : S = [] := by simpa using hS0
          subst this
          rw [upd_same]
          rfl
        · rw [upd_same, List.map_append]
          rfl
      · rintro σ H3 ⟨fs, v4, rfl, sm3, hd3, hL3, qe3⟩
        have e9 : (es.map fun e => V.ref e.2.1).length = (bySt n k).length := by rw [List.length_map, qe.len]
        rw [e9, List.take_length] at qe3
        exact ⟨es ++ fs, _, _, rfl, sm3, hd3, qe3⟩
    · rintro σ H2 ⟨es, v3, v4, rfl, sm, hd, qe⟩
      refine ⟨.ref d, rfl, d, es, rfl, hd, qe.keys, v, rfl, ?_⟩
      obtain ⟨ra, rxs, rfl, hra, hrq⟩ := row_inv hv
      refine ⟨ra, r, rfl, hd, qe.keys, hv.up sm, ?_⟩
      by_cases hex : ∃ e ∈ es, e.1 = r
      · obtain ⟨e, he, her⟩ := hex
        obtain ⟨i, hi, hei⟩ := List.mem_iff_getElem.mp he
        obtain ⟨S, hS, hkey, hval⟩ := qe.get (i := i) (e := e) (by rw [List.getElem?_eq_getElem hi, hei])
        refine .inl ⟨e, he, her, q _ _ sm ?_⟩
        have h1 := by_dec n (n - 1) (by omega) _ (List.mem_of_getElem? hS)
        rw [show (e.1, S).1 = r from her] at h1
        unfold kinD
        rw [h1, if_pos rfl]
        exact .tup hval (DqA.ints S)
      · refine .inr ⟨fun e he z => hex ⟨e, he, z⟩, q _ _ sm ?_⟩
        unfold kinD
        rw [if_neg]
        · exact .non
        · intro z
          have h1 := by_all n (n - 1) (by omega) r _ hl (show kinGo n (List.range (n - 1)) [] r = ((kinGo n (List.range (n - 1)) [] r).1, zeroR n) by rw [← z])
          have h2 : r ∈ es.map (·.1) := by
            rw [qe.fst]
            exact List.mem_map.mpr ⟨_, h1, rfl⟩
          obtain ⟨e, he, her⟩ := List.mem_map.mp h2
          exact hex ⟨e, he, her⟩
end
end Kr
namespace Kr
open PySem PySem.Spec PyProof.Rows L2
/-! ### small data: what repr can show -/
structure Sm (k w : Nat) (d : PyData) : Prop where
  sh : d.showable = true
  ls : d.leavesShort 41 = true
  dp : d.depth ≤ k
  wt : d.weight ≤ w
theorem Sm.mono {k w k' w' : Nat} {d : PyData} (h : Sm k w d) (hk : k ≤ k') (hw : w ≤ w') : Sm k' w' d := ⟨h.sh, h.ls, Nat.le_trans h.dp hk, Nat.le_trans h.wt hw⟩
theorem sm_all {k w : Nat} : ∀ {ds : List PyData}, (∀ d ∈ ds, Sm k w d) → PyData.showableAll ds = true ∧ PyData.leavesShortAll 41 ds = true ∧ PyData.depthAll ds ≤ k ∧ PyData.weightAll ds ≤ (w + 1) * ds.length
  | [], _ => ⟨by simp [PyData.showableAll], by simp [PyData.leavesShortAll], by simp [PyData.depthAll], by simp [PyData.weightAll]⟩
  | d :: ds, h => by
    obtain ⟨h1, h2, h3, h4⟩ := sm_all fun x hx => h x (List.mem_cons_of_mem _ hx)
    have hd := h d List.mem_cons_self
    refine ⟨by simp [PyData.showableAll, hd.sh, h1], by simp [PyData.leavesShortAll, hd.ls, h2], ?_, ?_⟩
    · simp only [PyData.depthAll]
      have := hd.dp
      omega
    · simp only [PyData.weightAll, List.length_cons, Nat.mul_add]
      have := hd.wt
      omega
theorem Sm.lst {k w m : Nat} {ds : List PyData} (h : ∀ d ∈ ds, Sm k w d) (hm : ds.length ≤ m) : Sm (k + 1) ((w + 1) * m) (.list ds) := by
  obtain ⟨h1, h2, h3, h4⟩ := sm_all h
  refine ⟨by simpa [PyData.showable] using h1, by simpa [PyData.leavesShort] using h2, by simp only [PyData.depth]; omega, ?_⟩
  simp only [PyData.weight]
  exact Nat.le_trans h4 (Nat.mul_le_mul_left _ hm)
theorem Sm.tup {k w m : Nat} {ds : List PyData} (h : ∀ d ∈ ds, Sm k w d) (hm : ds.length ≤ m) : Sm (k + 1) ((w + 1) * m) (.tuple ds) := by
  obtain ⟨h1, h2, h3, h4⟩ := sm_all h
  refine ⟨by simpa [PyData.showable] using h1, by simpa [PyData.leavesShort] using h2, by simp only [PyData.depth]; omega, ?_⟩
  simp only [PyData.weight]
  exact Nat.le_trans h4 (Nat.mul_le_mul_left _ hm)
theorem Sm.int {i : Int} (h : i.natAbs < 10 ^ 40) : Sm 1 140 (.int i) := by
  have hl : (PyData.shown (.int i)).length ≤ 41 := by
    have e := int_text_length_le10 (k := 40) (by decide) h
    show (Str.ofString (toString i)).length ≤ 41
    rw [PySem.ofString_length]
    exact e
  have hg : i.natAbs.log2 < 134 := by
    by_cases h0 : i.natAbs = 0
    · rw [h0]
      decide
    · rw [Nat.log2_lt h0]
      exact Nat.lt_of_lt_of_le h (by decide)
  refine ⟨?_, by simpa [PyData.leavesShort] using hl, by simp [PyData.depth], ?_⟩
  · simp only [PyData.showable, decide_eq_true_eq]
    omega
  · simp only [PyData.weight]
    split <;> omega
theorem Sm.non : Sm 1 140 .none := ⟨rfl, rfl, by simp [PyData.depth], by simp [PyData.weight]⟩
theorem Sm.bl (b : Bool) : Sm 1 140 (.bool b) := ⟨rfl, rfl, by simp [PyData.depth], by simp [PyData.weight]⟩
theorem Sm.dic : Sm 1 140 (.dict []) := ⟨by simp [PyData.showable, PyData.showableKv], by simp [PyData.leavesShort, PyData.leavesShortKv], by simp [PyData.depth, PyData.depthKv], by simp [PyData.weight, PyData.weightKv]⟩
theorem Sm.str {x : Str} (h : (x.cps.toList.all fun c => decide (c < 16 ^ 8)) = true) (hs : x.length ≤ 4) : Sm 1 140 (.str x) :=
  ⟨by simp [PyData.showable], by simpa [PyData.leavesShort] using h, by simp [PyData.depth], Nat.le_trans (show x.cps.size ≤ 4 from hs) (by decide)⟩
/-- the text is short enough -/
theorem Sm.fits {k w : Nat} {d : PyData} (h : Sm k w d) (hw : w ≤ 380000) : d.shown.length ≤ sizeLine := by
  have h1 := PyData.shown_le 41 (by decide) d h.ls
  have h2 := h.wt
  rw [sizeLine_eq]
  omega
/-- repr of small data -/
theorem repr_sm {v : V} {d : PyData} {H : Hp} {Q : VK} {k w : Nat} (hd : Dq H v d) (h : Sm k w d) (hk : k ≤ 40) (hw : w ≤ 380000) (q : Q (.str d.shown) H) : rRepr [v] H Q :=
  ⟨v, d, rfl, hd, h.sh, Nat.le_trans h.dp hk, h.fits hw, q⟩
/-- t + u, tuples of any lengths: some object that holds both -/
theorem catA_k {K : PySem.W.Frag} {a b : Addr} {xs ys : List V} {Q : VK} {H : Hp} (ha : H a = some (.tup xs)) (hb : H b = some (.tup ys)) (hl : xs.length + ys.length ≤ 100000) (k : ∀ y H5, Same H H5 → H5 y = some (.tup (xs ++ ys)) → Q (.ref y) H5) : rCatA K (.ref a) (.ref b) H Q := by
  refine ⟨a, b, xs, ys, rfl, rfl, SqT.of ha, SqT.of hb, Nat.le_trans hl (by decide), fun e => k _ _ (Same.refl _) (by rw [e]; exact hb), fun _ e => k _ _ (Same.refl _) (by rw [e, List.append_nil]; exact ha), fun _ _ p np => k _ _ (fun c o h => ?_) upd_same⟩
  rw [upd_ne (ne_of_none h np)]
  exact h
/-- t[i:j] of a tuple: some object that holds it -/
theorem sliceA_k {K : PySem.W.Frag} {a : Addr} {xs : List V} {lo hi : Option Int} {Q : VK} {H : Hp} (ha : H a = some (.tup xs)) (k : ∀ y H5, Same H H5 → H5 y = some (.tup (cutV xs lo hi)) → Q (.ref y) H5) : rSlA K (.ref a) lo hi H Q := by
  refine ⟨a, xs, rfl, SqT.of ha, fun ⟨e1, e2⟩ => k _ _ (Same.refl _) ?_, fun _ p np => k _ _ (fun c o h => ?_) upd_same⟩
  · unfold cutV
    rw [e1, e2, List.drop_zero, Nat.sub_zero, List.take_length]
    exact ha
  · rw [upd_ne (ne_of_none h np)]
    exact h
theorem cut_to {xs : List V} {i : Nat} (h : i ≤ xs.length) : cutV xs none (some (i : Int)) = xs.take i := by
  unfold cutV
  rw [HT.sIx_none, HT.sIx_nat, List.drop_zero, Nat.sub_zero, Nat.min_eq_left h]
theorem cut_from {xs : List V} {i : Nat} (h : i ≤ xs.length) : cutV xs (some (i : Int)) none = xs.drop i := by
  unfold cutV
  rw [HT.sIx_none, HT.sIx_nat, Nat.min_eq_left h]
  exact List.take_of_length_le (by rw [List.length_drop]; exact Nat.le_refl _)
end Kr
namespace Kr
open PySem PySem.Spec PyProof.Rows L2
/-! ### beside the deck -/
theorem Ext.mut {p l f : Addr} {H H' : Hp} {o : HO} (e : Ext p l H H') (h : H f = none) : Ext p l H (upd H' f o) := fun b x hb => by
  obtain ⟨_, _, h5⟩ := hid_some hb
  obtain ⟨h1, h2, h3⟩ := hid_some (e b x hb)
  rw [hid_ne h1 h2, upd_ne (ne_of_none h5 h)]
  exact h3
theorem Deck.mut {H : Hp} {p l f : Addr} {o : HO} (d : Deck H p l) (h1 : f ≠ p) (h2 : f ≠ l) : Deck (upd H f o) p l := by
  obtain ⟨ds, st, a, b, c⟩ := d.ex
  exact ⟨ds, st, by rw [upd_ne h1.symm]; exact a, by rw [upd_ne h2.symm]; exact b, c⟩
theorem Ext.free {p l f : Addr} {H H' : Hp} (e : Ext p l H H') (h : H' f = none) (h1 : f ≠ p) (h2 : f ≠ l) : H f = none := by
  cases q : H f with
  | none => rfl
  | some o =>
    have := (hid_some (e f o (by rw [hid_ne h1 h2]; exact q))).2.2
    rw [h] at this
    cases this
theorem Ext.at_ {p l f : Addr} {H H' : Hp} {o : HO} (e : Ext p l H H') (h1 : f ≠ p) (h2 : f ≠ l) (q : H f = some o) : H' f = some o := (hid_some (e f o (by rw [hid_ne h1 h2]; exact q))).2.2
/-- tuples stand apart from the deck -/
theorem TS.hide {p l : Addr} {H : Hp} (D : Deck H p l) : TS H (hid p l H) := fun b xs h => by
  obtain ⟨ds, st, h1, h2, _⟩ := D.ex
  rw [hid_ne (ne_of h h1 (by intro z; cases z)) (ne_of h h2 (by intro z; cases z))]
  exact h
theorem TS.deck {p l : Addr} {H H' : Hp} (D : Deck H p l) (E : Ext p l H H') : TS H H' := (TS.hide D).trans ((TS.of E).trans (TS.of (hid_same p l H')))
/-- a list of a new address stands apart -/
structure Apart (p l f : Addr) : Prop where
  p : f ≠ p
  l : f ≠ l
theorem Deck.apart {H : Hp} {p l q : Addr} (d : Deck H p l) (h : H q = none) : Apart p l q := ⟨(d.new h).1, (d.new h).2⟩
theorem Apart.of {H : Hp} {p l f : Addr} (d : Deck H p l) (h : hid p l H f ≠ none) : Apart p l f := by
  cases q : hid p l H f with
  | none => exact absurd q h
  | some o => exact ⟨(hid_some q).1, (hid_some q).2.1⟩
end Kr
namespace Kr
open PySem PySem.Spec PyProof.Rows L2
def flipP (z : Int) (p : Bool × Bool) : Bool × Bool := if z = 0 then (!p.1, p.2) else (p.1, !p.2)
theorem bi_not (a : Bool) : 1 - bi a = bi (!a) := by cases a <;> rfl
theorem bit_of {z : Int} (h0 : 0 ≤ z) (h1 : z < 2 ∨ z = 0) : ∃ b, z = bi b := by
  have : z = 0 ∨ z = 1 := by omega
  rcases this with rfl | rfl
  · exact ⟨false, rfl⟩
  · exact ⟨true, rfl⟩
def spTurned : Sp := fun vs H Q _ => ∃ (p l : Addr) (n : Nat) (v : V) (r : Row), vs = [.ref p, .int (n : Int), v] ∧ Deck H p l ∧ n ≤ 30 ∧ r.length = n + 1 ∧ Dq H v (rowD r) ∧
  ∀ H' u r', Deck H' p l → Ext p l H H' → r'.length = n + 1 → Dq H' u (rowD r') → Q u H'
section
variable {P : Program} {w : World} {K : PySem.W.Frag} {mg : Str → Option Value} {base : Heap}
theorem scTu : FnScope ["deck", "n", "row", "at", "side", "pair"] ["deck", "n", "row"] (defScope sTurned) := ⟨rfl, rfl, rfl, by decide +kernel, rfl, by decide +kernel, by decide +kernel⟩
theorem o_turned (D : Df K mg "_law_turned" sTurned ["deck", "n", "row"]) (B : Bi mg) (d : Ok P w K mg base 1 "_law_draw" ["deck", "many"] spDraw) : Ok P w K mg base 2 "_law_turned" ["deck", "n", "row"] spTurned := by
  refine D.ok fun f fd F => F.ok scTu (fun vs H Q E h => ?_) (fun cdv A outer s H vs Q E hr h => ?_)
  · obtain ⟨p, l, n, v, r, rfl, _⟩ := h
    rfl
  · obtain ⟨p, l, n, v, r, rfl, Dk, hn, hl, hv, q⟩ := h
    refine ⟨_, pss_cons (ps_par (i := 3) (j := 4) rfl scTu.nd rfl rfl (by decide) rfl rfl (pa_cons (pe_fn d hr (by rfl) (pa_cons (pv 0) (pa_cons (pe_op op_add (pv 1) pe_int) pa_nil))) (pa_cons (pe_fn d hr (by rfl) (pa_cons (pv 0) (pa_cons pe_int pa_nil))) pa_nil)) (by rfl))
      (pss_cons (ps_set (i := 5) scTu.nd rfl (.inl rfl) (pe_callTy call_list_of (by rfl) B.list (by decide +kernel) (pa_cons (pe_ix ix_tup (pv 2) (pv 3) (fun _ _ => rfl)) pa_nil)))
      (pss_cons (ps_asg (pe_op op_sub pe_int (pe_ix ix_list (pv 5) (pv 4) (fun _ _ => rfl))) (pg_sub (pv 5) (pv 4) set_list))
      (pss_one (ps_ret (pe_op op_catA (pe_op op_catA (pe_slice sl_tupA (pv 2) po_none (po_some (pv 3))) (pe_tup (pa_cons (pe_callTy call_tuple_of (by rfl) B.tuple (by decide +kernel) (pa_cons (pv 5) pa_nil)) pa_nil))) (pe_slice sl_tupA (pv 2) (po_some (pe_op op_add (pv 3) pe_int)) po_none)))))), ?_⟩
    refine ⟨.ref p, rfl, .int n, rfl, _, _, rfl, rfl, p, l, _, rfl, Dk, by omega, fun H1 z D1 E1 z0 z1 => ?_⟩
    refine ⟨.ref p, rfl, p, l, 2, rfl, D1, by decide, fun H2 y D2 E2 y0 y1 => ⟨_, _, rfl, ?_⟩⟩
    have E12 : Ext p l H H2 := E1.trans E2
    have ts := TS.deck Dk E12
    have hv2 := hv.upT ts (row_flat r)
    obtain ⟨j, rfl⟩ : ∃ j : Nat, z = j := ⟨z.toNat, by omega⟩
    have hj : j < r.length := by omega
    obtain ⟨a, xs, rfl, ha, qa⟩ := row_inv hv2
    have lx := pairs_len qa
    obtain ⟨pp, hp, b, hb, kb⟩ := pairs_get qa (List.getElem?_eq_getElem (show j < xs.length by omega))
    refine ⟨.ref a, rfl, .int j, rfl, a, xs, j, .ref b, rfl, rfl, SqT.of ha, atI_nat (by rw [List.getElem?_eq_getElem (show j < xs.length by omega), hb]), b, _, rfl, .inr (SqT.of kb), fun c nc => ?_⟩
    have apc := D2.apart nc
    have nc0 : H c = none := Ext.free E12 nc apc.p apc.l
    have sc := same_new (o := .lst [.int (bi pp.1), .int (bi pp.2)]) nc
    obtain ⟨bb, rfl⟩ := bit_of y0 y1
    have hget : ∃ i : Nat, bi bb = (i : Int) ∧ ([V.int (bi pp.1), V.int (bi pp.2)] : List V)[i]? = some (.int (if bb = true then bi pp.2 else bi pp.1)) ∧ ([V.int (bi pp.1), V.int (bi pp.2)] : List V).set i (.int (1 - (if bb = true then bi pp.2 else bi pp.1))) = [.int (bi (flipP (bi bb) pp).1), .int (bi (flipP (bi bb) pp).2)] ∧ ixN 2 (bi bb) = some i := by
      cases bb with
      | false => exact ⟨0, rfl, rfl, by obtain ⟨u1, u2⟩ := pp; cases u1 <;> cases u2 <;> rfl, by decide⟩
      | true => exact ⟨1, rfl, rfl, by obtain ⟨u1, u2⟩ := pp; cases u1 <;> cases u2 <;> rfl, by decide⟩
    obtain ⟨i, hi, g1, g2, g3⟩ := hget
    refine ⟨.ref c, rfl, .int (bi bb), rfl, c, _, bi bb, _, rfl, rfl, SqL.of upd_same, by rw [hi]; exact atI_nat g1, 1, _, rfl, rfl, ?_⟩
    refine ⟨.ref c, rfl, .int (bi bb), rfl, c, _, bi bb, i, rfl, rfl, upd_same, g3, ?_⟩
    rw [g2, upd_upd]
    have D3 := D2.mut (o := .lst [.int (bi (flipP (bi bb) pp).1), .int (bi (flipP (bi bb) pp).2)]) apc.p apc.l
    have E3 : Ext p l H _   := Ext.mut E12 (o := .lst [.int (bi (flipP (bi bb) pp).1), .int (bi (flipP (bi bb) pp).2)]) nc0
    have s3 := same_new (o := .lst [.int (bi (flipP (bi bb) pp).1), .int (bi (flipP (bi bb) pp).2)]) nc
    have hc3 : upd H2 c (.lst [.int (bi (flipP (bi bb) pp).1), .int (bi (flipP (bi bb) pp).2)]) c = some (.lst [.int (bi (flipP (bi bb) pp).1), .int (bi (flipP (bi bb) pp).2)]) := upd_same
    generalize upd H2 c (.lst [.int (bi (flipP (bi bb) pp).1), .int (bi (flipP (bi bb) pp).2)]) = H3 at D3 E3 s3 hc3
    refine ⟨.ref a, rfl, .int j, rfl, (j : Int), rfl, sliceA_k (s3 _ _ ha) fun y1 H4 s4 hy1 => ?_⟩
    rw [cut_to (by omega)] at hy1
    refine ⟨.ref c, rfl, c, _, rfl, .inl ⟨SqL.of (s4 _ _ hc3), fun t nt => ⟨by show 1 ≤ sizeLine; decide, fun t1 nt1 => ?_⟩⟩⟩
    have s5 := same_new (o := .tup [.int (bi (flipP (bi bb) pp).1), .int (bi (flipP (bi bb) pp).2)]) nt
    have s6 := same_new (o := .tup [.ref t]) nt1
    have s46 := s5.trans s6
    refine catA_k (s46 _ _ hy1) upd_same (by rw [List.length_take]; show _ + 1 ≤ _; omega) fun y2 H7 s7 hy2 => ?_
    have s37 := s4.trans (s46.trans s7)
    refine ⟨.ref a, rfl, .int j, rfl, _, _, rfl, rfl, (j : Int) + 1, rfl, ?_⟩
    dsimp only [tNoPart]
    refine sliceA_k (s37 _ _ (s3 _ _ ha)) fun y3 H8 s8 hy3 => ?_
    rw [show ((j : Int) + 1) = ((j + 1 : Nat) : Int) by omega, cut_from (by omega)] at hy3
    refine catA_k (s8 _ _ hy2) hy3 (by rw [List.length_append, List.length_take, List.length_drop]; show _ + 1 + _ ≤ _; omega) fun y4 H9 s9 hy4 => ?_
    have sAll : Same H3 H9 := s37.trans (s8.trans s9)
    refine q H9 _ (r.take j ++ [flipP (bi bb) pp] ++ r.drop (j + 1)) (D3.up sAll) (Same.trans E3 (Ext.of sAll)) (by rw [List.length_append, List.length_append, List.length_take, List.length_drop]; show _ + 1 + _ = _; omega) (.tup hy4 ?_)
    have qa9 := qa.up (s3.trans sAll)
    rw [List.map_append, List.map_append, List.map_take, List.map_drop]
    refine ((qa9.take j).app (.one ?_)).app (qa9.drop (j + 1))
    exact pair_at (s9 _ _ (s8 _ _ (s7 _ _ (s6 _ _ upd_same))))
end
end Kr
namespace Kr
open PySem PySem.Spec PyProof.Rows L2
abbrev nLaw : List Str := ["script", "deck", "turn", "n", "often", "k", "kinds", "row", "some", "own", "due", "m"]
theorem scLaw : FnScope nLaw ["script"] (defScope sLaw) := ⟨rfl, rfl, rfl, by decide +kernel, rfl, by decide +kernel, by decide +kernel⟩
def spLaw (K : PySem.W.Frag) : Sp := fun vs H Q _ => ∃ (a : Addr) (ns : List Int), vs = [.ref a] ∧ SqL K H a (ns.map V.int) ∧ ns.length ≤ 63 ∧ ∀ H', Q (.bl true) H'
structure Fns (P : Program) (w : World) (K : PySem.W.Frag) (mg : Str → Option Value) (base : Heap) : Prop where
  deck : Ok P w K mg base 1 "_law_deck" ["script"] (spDeck K)
  draw : Ok P w K mg base 1 "_law_draw" ["deck", "many"] spDraw
  pick : Ok P w K mg base 2 "_law_pick" ["deck", "some"] spPick
  lsum : Ok P w K mg base 1 "_law_sum" ["one", "two"] spLSum
  kind : Ok P w K mg base 2 "kind_signs" ["n", "k"] spKind
  turned : Ok P w K mg base 2 "_law_turned" ["deck", "n", "row"] spTurned
  within : Ok P w K mg base 3 "_law_within" ["n", "row"] (spRowF witD)
  byAll : Ok P w K mg base 3 "_law_by_all" ["n", "row"] spBy
  kin : ∃ f fd, FnOk P w K mg base CX0 3 f fd ["n", "row"] (spRowF kinD) ∧ PySem.W.keepIn K (.ref f) = true ∧ mg "kinds_in" = some (.ref f) ∧ Binds K fd ["n", "row"] [] ∧ KBn K fd ["n", "row"] 0 ["row", "n"] (fun _ ws => ws.reverse) (fun _ zs => zs.reverse)
/-! ### what is shown is small -/
theorem kinGo_mem (n : Nat) : ∀ (ks : List Nat) (acc : List Int) (l : Row), (∀ x ∈ (kinGo n ks acc l).1, x ∈ acc ∨ ∃ k ∈ ks, x = (k : Int)) ∧ (kinGo n ks acc l).1.length ≤ acc.length + ks.length
  | [], acc, l => ⟨fun x hx => .inl hx, Nat.le_refl _⟩
  | k :: ks, acc, l => by
    simp only [kinGo]
    by_cases c : (atR l k).2 = true
    · rw [if_pos c]
      obtain ⟨h1, h2⟩ := kinGo_mem n ks (acc ++ [(k : Int)]) (addR l (kindR n k))
      refine ⟨fun x hx => ?_, by rw [List.length_append] at h2; simp only [List.length_cons, List.length_nil] at h2 ⊢; omega⟩
      rcases h1 x hx with h | ⟨j, hj, e⟩
      · rcases List.mem_append.mp h with h | h
        · exact .inl h
        · exact .inr ⟨k, List.mem_cons_self, List.mem_singleton.mp h⟩
      · exact .inr ⟨j, List.mem_cons_of_mem _ hj, e⟩
    · rw [if_neg c]
      obtain ⟨h1, h2⟩ := kinGo_mem n ks acc l
      refine ⟨fun x hx => (h1 x hx).imp (fun h => h) fun ⟨j, hj, e⟩ => ⟨j, List.mem_cons_of_mem _ hj, e⟩, by rw [List.length_cons]; omega⟩
theorem ints_small {zs : List Int} (hl : zs.length ≤ 30) (h : ∀ z ∈ zs, 0 ≤ z ∧ z ≤ 99) : Sm 2 4230 (.tuple (zs.map .int)) := by
  refine (Sm.tup (k := 1) (w := 140) (m := 30) (fun d hd => ?_) (by rw [List.length_map]; exact hl)).mono (by decide) (by decide)
  obtain ⟨z, hz, rfl⟩ := List.mem_map.mp hd
  have := h z hz
  exact .int (Nat.lt_of_le_of_lt (show z.natAbs ≤ 99 by omega) (by decide +kernel))
theorem kinD_sm {n : Nat} (hn : n ≤ 30) (r : Row) : Sm 2 4230 (kinD n r) := by
  unfold kinD
  split
  · obtain ⟨h1, h2⟩ := kinGo_mem n (List.range (n - 1)) [] r
    rw [List.length_range, List.length_nil] at h2
    refine ints_small (by omega) fun z hz => ?_
    rcases h1 z hz with h | ⟨k, hk, rfl⟩
    · exact nomatch h
    · have := List.mem_range.mp hk
      omega
  · exact Sm.non.mono (by decide) (by decide)
theorem two_sm {k w : Nat} {a b : PyData} (ha : Sm k w a) (hb : Sm k w b) : Sm (k + 1) ((w + 1) * 2) (.list [a, b]) := Sm.lst (fun d hd => by
  simp only [List.mem_cons, List.not_mem_nil, or_false] at hd
  rcases hd with rfl | rfl
  · exact ha
  · exact hb) (Nat.le_refl _)
theorem ints_lay : ∀ zs : List Int, PyData.canLayAll0 (zs.map PyData.int) = true
  | [] => by simp [PyData.canLayAll0]
  | z :: zs => by simp [PyData.canLayAll0, PyData.canLay0, ints_lay zs]
theorem ints_dep : ∀ zs : List Int, PyData.depthAll (zs.map PyData.int) ≤ 1
  | [] => by simp [PyData.depthAll]
  | z :: zs => by
    have := ints_dep zs
    simp [PyData.depthAll, PyData.depth]
    omega
theorem ints_flat (zs : List Int) : flatTA (zs.map PyData.int) = true := flatTA_of fun d hd => by
  obtain ⟨z, _, rfl⟩ := List.mem_map.mp hd
  rfl
theorem kinD_flat (n : Nat) (r : Row) : flatT (kinD n r) = true := by
  unfold kinD
  split
  · simp only [flatT]
    exact ints_flat _
  · rfl
theorem kinD_shaped (n : Nat) (r : Row) : SeqAt.shaped (kinD n r) = true := by
  unfold kinD
  split
  · unfold SeqAt.shaped
    have := ints_dep (kinGo n (List.range (n - 1)) [] r).1
    simp [PyData.canLay0, ints_lay, PyData.depth]
    omega
  · decide +kernel
theorem kinD_eqv (n : Nat) (r : Row) : PyData.eqv (kinD n r) (kinD n r) = true := SeqAt.eqv_refl _ (Bool.and_eq_true_iff.mp (kinD_shaped n r)).1
/-- repr(e) != repr(e'), as a test -/
theorem ne_repr {te te2 : TE} {σ : L2.St} {H : Hp} {Q : Bool → Hp → Prop} (h : te σ H fun v H1 => rRepr [v] H1 fun x H2 => te2 σ H2 fun v2 H3 => rRepr [v2] H3 fun y H4 => rNe x y H4 fun z H5 => ∃ k, z = .bl k ∧ Q k H5) :
    tTest (tOp rNe (tCB rRepr (tCons te tNil)) (tCB rRepr (tCons te2 tNil))) σ H Q := h
theorem ret_eq_repr {te te2 : TE} {σ : L2.St} {H : Hp} {D : Ends} (h : te σ H fun v H1 => rRepr [v] H1 fun x H2 => te2 σ H2 fun v2 H3 => rRepr [v2] H3 fun y H4 => rEq x y H4 fun z H5 => D.rt z H5) : tRet (tOp rEq (tCB rRepr (tCons te tNil)) (tCB rRepr (tCons te2 tNil))) D σ H := h
section
variable {P : Program} {w : World} {K : PySem.W.Frag} {mg : Str → Option Value} {base : Heap}
theorem ok_law {f : Addr} {fd : FuncData} (F : Fun K "law" "law" sLaw f fd) (B : Bi mg) (T : Fns P w K mg base) : FnG P w K mg base CX0 4 f fd ["script"] (spLaw K) := by
  obtain ⟨fD, dD, gD, kD', mD, bD, nD⟩ := T.kin
  refine okG F scLaw (fun vs H Q E h => ?_) (fun cdv A outer s H vs Q E hg hr h => ?_)
  · obtain ⟨a, ns, rfl, _⟩ := h
    rfl
  · obtain ⟨sa, ns, rfl, hS, hlen, q⟩ := h
    have hr1 := hr.mono (show 1 ≤ 3 by decide)
    have hr2 := hr.mono (show 2 ≤ 3 by decide)
    have cr := call_repr (X := (cxOf CX0 P w K mg base nLaw "law" (defScope sLaw) f cdv A outer s H E).nox) hg hr.units
    refine ⟨_, pss_cons (ps_set (i := 1) scLaw.nd rfl (.inr rfl) (pe_fn T.deck hr1 (by rfl) (pa_cons (pv 0) pa_nil)))
      (pss_cons (ps_for PassesOwn.never rfl (pi_range1 (by rfl) B.range (pa_cons pe_int pa_nil)) (pg_name (i := 2) scLaw.nd rfl (.inl rfl))
        (pss_cons (ps_set (i := 3) scLaw.nd rfl (.inl rfl) (pe_ix ix_list (pe_lst (pa_cons pe_int (pa_cons (pe_op op_add pe_int (pe_fn T.draw hr1 (by rfl) (pa_cons (pv 1) (pa_cons pe_int pa_nil)))) (pa_cons (pe_op op_add pe_int (pe_fn T.draw hr1 (by rfl) (pa_cons (pv 1) (pa_cons pe_int pa_nil))))
          (pa_cons (pe_op op_add pe_int (pe_fn T.draw hr1 (by rfl) (pa_cons (pv 1) (pa_cons pe_int pa_nil)))) (pa_cons pe_int pa_nil)))))) (pv 2) (fun _ _ => rfl)))
        (pss_cons (ps_set (i := 4) scLaw.nd rfl (.inr rfl) (pe_fn T.pick hr2 (by rfl) (pa_cons (pv 1) (pa_cons (pe_lst (pa_cons pe_int (pa_cons pe_int (pa_cons pe_int (pa_cons pe_int (pa_cons pe_int pa_nil)))))) pa_nil))))
        (pss_cons (ps_par (i := 6) (j := 7) rfl scLaw.nd rfl rfl (by decide) rfl rfl (pa_cons
            (pe_lc (own := [("k", 5)]) (g := gName 5) rfl scLaw.nd (pi_range1 (by rfl) B.range (pa_cons (pe_op op_sub (pv 3) pe_int) pa_nil)) (blkOk_by (own := [("k", 5)]) (N := nLaw) (sc := defScope sLaw) (by decide +kernel))
              (fun _ _ _ _ _ => pg_name (i := 5) scLaw.nd rfl (.inl rfl)) (fun _ _ _ _ _ => pts_one (pt_cmpR op_eq (pe_fn T.draw hr1 (by rfl) (pa_cons (pv 1) (pa_cons (pv 4) pa_nil))) pe_int (nomark _))) (fun _ _ _ _ _ => pv 5))
            (pa_cons (pe_op op_repT (pe_tup (pa_cons (pe_tup (pa_cons pe_int (pa_cons pe_int pa_nil))) pa_nil)) (pe_op op_add (pv 3) pe_int)) pa_nil)) (by rfl))
        (pss_cons (ps_for PassesOwn.never rfl (pi_list (pv 6)) (pg_name (i := 5) scLaw.nd rfl (.inl rfl)) (pss_one (ps_set (i := 7) scLaw.nd rfl (.inl rfl) (pe_fn T.lsum hr1 (by rfl) (pa_cons (pv 7) (pa_cons (pe_fn T.kind hr2 (by rfl) (pa_cons (pv 3) (pa_cons (pv 5) pa_nil))) pa_nil))))))
        (pss_cons (ps_if (pt_cmpR op_ne (pe_callB cr (by rfl) B.repr (by decide +kernel) (pa_cons (pe_lst (pa_cons (pe_call gD hr (by rfl) mD kD' bD .nil pass0 (pa_cons (pv 3) (pa_cons (pv 7) pa_nil))) (pa_cons (pe_callN gD hr (by rfl) mD kD' nD pass0 (pk_cons (pv 7) (pk_cons (pv 3) pk_nil))) pa_nil))) pa_nil))
            (pe_callB cr (by rfl) B.repr (by decide +kernel) (pa_cons (pe_op op_rep (pe_lst (pa_cons (pe_callTy call_tuple_of (by rfl) B.tuple (by decide +kernel) (pa_cons (pv 6) pa_nil)) pa_nil)) pe_int) pa_nil)) (nomark _)) (pss_one (ps_ret pe_bl)) pss_nil)
        (pss_cons (ps_set (i := 8) scLaw.nd rfl (.inl rfl) (pe_lst (pa_cons (pe_fn T.turned hr2 (by rfl) (pa_cons (pv 1) (pa_cons (pv 3) (pa_cons (pv 7) pa_nil)))) (pa_cons (pe_fn T.turned hr2 (by rfl) (pa_cons (pv 1) (pa_cons (pv 3) (pa_cons (pe_fn T.turned hr2 (by rfl) (pa_cons (pv 1) (pa_cons (pv 3) (pa_cons (pv 7) pa_nil)))) pa_nil)))) pa_nil))))
        (pss_cons (ps_expr (pe_bm PySem.F.plainAttrs_list PySem.F.slot_list_append PySem.F.type_list_append mt_append (pv 8) (pa_cons (pe_callTy call_tuple_of (by rfl) B.tuple (by decide +kernel) (pa_cons
            (pe_lc (own := [("m", 11)]) (g := gName 11) (tt := tYes) rfl scLaw.nd (pi_range1 (by rfl) B.range (pa_cons (pe_op op_add (pv 3) pe_int) pa_nil)) (blkOk_by (own := [("m", 11)]) (N := nLaw) (sc := defScope sLaw) (by decide +kernel))
              (fun _ _ _ _ _ => pg_name (i := 11) scLaw.nd rfl (.inl rfl)) (fun _ _ _ _ _ => pts_nil)
              (fun _ _ _ _ _ => pe_tup (pa_cons (pe_fn T.draw hr1 (by rfl) (pa_cons (pv 1) (pa_cons pe_int pa_nil))) (pa_cons (pe_fn T.draw hr1 (by rfl) (pa_cons (pv 1) (pa_cons pe_int pa_nil))) pa_nil)))) pa_nil)) pa_nil)))
        (pss_one (ps_for PassesOwn.never rfl (pi_list (pv 8)) (pg_name (i := 9) scLaw.nd rfl (.inl rfl))
          (pss_cons (ps_set (i := 10) scLaw.nd rfl (.inl rfl) (pe_fn T.within hr (by rfl) (pa_cons (pv 3) (pa_cons (pv 9) pa_nil))))
          (pss_one (ps_if (PW.pt (pw_or (pt_cmpR op_ne (pe_callB cr (by rfl) B.repr (by decide +kernel) (pa_cons (pe_call gD hr (by rfl) mD kD' bD .nil pass0 (pa_cons (pv 3) (pa_cons (pv 9) pa_nil))) pa_nil)) (pe_callB cr (by rfl) B.repr (by decide +kernel) (pa_cons (pv 10) pa_nil)) (nomark _))
            (pw_or1 (PW.pt (pw_and (pt_cmpR op_lt (pv 3) pe_int (nomark _)) (pw_and1 (pt_cmpR (op_neD hr.units) (pe_fn T.byAll hr (by rfl) (pa_cons (pv 3) (pa_cons (pv 9) pa_nil))) (pv 10) (nomark _)))))))) (pss_one (ps_ret pe_bl)) pss_nil)))))))))))))
      (pss_one (ps_ret (pe_cmpR op_eq (pe_callB cr (by rfl) B.repr (by decide +kernel) (pa_cons (pe_call gD hr (by rfl) mD kD' bD .nil pass0 (pa_cons pe_int (pa_cons (pe_op op_repT (pe_tup (pa_cons (pe_tup (pa_cons pe_int (pa_cons pe_int pa_nil))) pa_nil)) pe_int) pa_nil))) pa_nil))
        (pe_callB cr (by rfl) B.repr (by decide +kernel) (pa_cons (pe_tup pa_nil) pa_nil)) (nomark _))))), ?_⟩
    refine ⟨.ref sa, rfl, sa, ns, rfl, hS, hlen, fun H1 p l s1 np nl D1 => ?_⟩
    refine ⟨5, rfl, by decide, by decide, for_it (walk_rg (n := 5)) (fun i σ H2 => ∃ y2 y3 y4 y5 y6 y7 y8 y9 y10 : Option V,
      σ = [some (.ref sa), some (.ref p), y2, y3, y4, y5, y6, y7, y8, y9, y10, none] ∧ Deck H2 p l) ⟨none, none, none, none, none, none, none, none, none, rfl, D1⟩ (fun _ _ _ _ _ => trivial) ?_ ?_⟩
    rotate_left
    · rintro σ H2 ⟨y2, y3, y4, y5, y6, y7, y8, y9, y10, rfl, D2⟩
      dsimp only [tNext]
      refine ret_eq_repr ⟨by show 2 ≤ sizeLine; decide, fun t nt => ⟨by show 1 ≤ sizeLine; decide, fun t1 nt1 => ?_⟩⟩
      have st1 := same_new (o := .tup [.ref t]) nt1
      refine ⟨t1, 25, [.ref t], rfl, rfl, SqT.of upd_same, by simp, by decide, by decide, by show 1 ≤ 1000; decide, fun t2 nt2 => ?_⟩
      have st2 := same_new (o := .tup (List.replicate (25 : Int).toNat [V.ref t]).flatten) nt2
      rw [rep_tup] at st2 ⊢
      refine ⟨24, .ref t2, zeroR 24, rfl, by decide, by decide, zeroR_len 24, .tup upd_same ((zero_dq (st1 _ _ upd_same) 25).up st2), fun G u sG hu => ?_⟩
      have e24 : kinD 24 (zeroR 24) = .tuple [] := kin_sum (n := 24) (ks := []) (by decide) (List.nil_sublist _)
      rw [e24] at hu
      have s0 : Sm 2 4230 (.tuple []) := ints_small (zs := []) (by decide) (fun z hz => nomatch hz)
      refine repr_sm hu s0 (by decide) (by decide) ?_
      refine ⟨by show 0 ≤ sizeLine; decide, fun t3 nt3 => ?_⟩
      refine repr_sm (.tup upd_same .nil) s0 (by decide) (by decide) ?_
      refine ⟨rfl, ?_⟩
      rw [decide_eq_true rfl]
      exact q _
    rintro i x σ H2' H2 hi ⟨y2, y3, y4, y5, y6, y7, y8, y9, y10, rfl, D2⟩ ⟨rfl, rfl⟩
    -- n
    refine ⟨.ref p, rfl, p, l, 2, rfl, D2, by decide, fun G1 z1 Da Ea a0 a1 => ⟨_, _, rfl, rfl, ?_⟩⟩
    refine ⟨.ref p, rfl, p, l, 4, rfl, Da, by decide, fun G2 z2 Db Eb b0 b1 => ⟨_, _, rfl, rfl, ?_⟩⟩
    refine ⟨.ref p, rfl, p, l, 22, rfl, Db, by decide, fun G3 z3 Dc Ec c0 c1 => ⟨_, _, rfl, rfl, ?_⟩⟩
    refine ⟨by show 5 ≤ sizeLine; decide, fun a na => ?_⟩
    have D4 := Dc.up (same_new (o := .lst [.int 3, .int (4 + z1), .int (5 + z2), .int (3 + z3), .int 24]) na)
    obtain ⟨n, hn, n0, n1⟩ : ∃ n : Nat, ([.int 3, .int (4 + z1), .int (5 + z2), .int (3 + z3), .int 24] : List V)[i]? = some (.int (n : Int)) ∧ 3 ≤ n ∧ n ≤ 24 := by
      match i, hi with
      | 0, _ => exact ⟨3, rfl, by decide, by decide⟩
      | 1, _ => exact ⟨(4 + z1).toNat, by rw [show (((4 + z1).toNat : Nat) : Int) = 4 + z1 by omega]; rfl, by omega, by omega⟩
      | 2, _ => exact ⟨(5 + z2).toNat, by rw [show (((5 + z2).toNat : Nat) : Int) = 5 + z2 by omega]; rfl, by omega, by omega⟩
      | 3, _ => exact ⟨(3 + z3).toNat, by rw [show (((3 + z3).toNat : Nat) : Int) = 3 + z3 by omega]; rfl, by omega, by omega⟩
      | 4, _ => exact ⟨24, rfl, by decide, by decide⟩
    refine ⟨.int i, rfl, a, _, i, .int n, rfl, rfl, SqL.of upd_same, atI_nat hn, ?_⟩
    generalize upd G3 a (.lst [.int 3, .int (4 + z1), .int (5 + z2), .int (3 + z3), .int 24]) = G4 at D4
    -- often
    refine ⟨.ref p, rfl, by show 5 ≤ sizeLine; decide, fun b nb => ?_⟩
    have apb := D4.apart nb
    refine ⟨p, l, b, _, rfl, D4.up (same_new nb), hid_upd apb.p apb.l, by simp, by show 5 < 1000000; decide, fun G5 v D5 E5 hv => ?_⟩
    obtain ⟨o, rfl, ho⟩ : ∃ o : Int, v = .int o ∧ o < 1000 := by
      simp only [List.mem_cons, List.not_mem_nil, or_false] at hv
      rcases hv with rfl | rfl | rfl | rfl | rfl <;> exact ⟨_, rfl, by decide⟩
    -- kinds, row
    refine ⟨.int n, rfl, _, _, rfl, rfl, (n : Int) - 1, rfl, by omega, by omega, fun Dk nDk => ?_⟩
    have apk := D5.apart nDk
    have hm : ((n : Int) - 1).toNat = n - 1 := by omega
    rw [hm]
    refine lc_it (walk_rg (n := n - 1)) (fun j G => ∃ acc : List Nat, G Dk = some (.lst (acc.map fun (k : Nat) => V.int (k : Int))) ∧ Deck G p l ∧ Ext p l G5 G ∧ acc.Sublist (List.range j))
      ⟨[], upd_same, D5.mut apk.p apk.l, Ext.rfl.mut nDk, List.nil_sublist _⟩ (fun _ _ _ _ => trivial) ?_ ?_
    · rintro j x G' G hj ⟨acc, hDk, DG, EG, hsub⟩ ⟨rfl, rfl⟩
      refine ⟨rfl, .ref p, rfl, .int o, rfl, p, l, o, rfl, DG, by omega, fun G6 z D6 E6 z0 z1 => ⟨rfl, _, rfl, ?_⟩⟩
      have hDk6 := Ext.at_ E6 apk.p apk.l hDk
      have E56 : Ext p l G5 G6 := Same.trans EG E6
      have hal : acc.length ≤ j := by have := hsub.length_le; rw [List.length_range] at this; exact this
      refine ite2 (fun hz => ?_) (fun hz => ?_)
      · refine ⟨.int j, rfl, _, hDk6, szl (by rw [List.length_map]; omega), acc ++ [j], by rw [upd_same, List.map_append]; rfl, D6.mut apk.p apk.l, Ext.mut E56 nDk, ?_⟩
        rw [List.range_succ]
        exact hsub.append (List.Sublist.refl _)
      · refine ⟨acc, hDk6, D6, E56, ?_⟩
        rw [List.range_succ]
        exact hsub.trans (List.sublist_append_left _ _)
    rintro G6 ⟨ks, hDk6, D6, E6, hsub⟩
    refine ⟨by show 2 ≤ sizeLine; decide, fun t nt => ⟨by show 1 ≤ sizeLine; decide, fun t1 nt1 => ?_⟩⟩
    have st := same_new (o := .tup [.int 0, .int 0]) nt
    have st1 := same_new (o := .tup [.ref t]) nt1
    refine ⟨.int n, rfl, _, _, rfl, rfl, t1, (n : Int) + 1, [.ref t], rfl, rfl, SqT.of upd_same, by simp, by omega, by omega, by show 1 ≤ 1000; decide, fun t2 nt2 => ⟨_, _, rfl, ?_⟩⟩
    have hlen1 : ((n : Int) + 1).toNat = n + 1 := by omega
    rw [rep_tup, hlen1]
    have st2 := same_new (o := .tup (List.replicate (n + 1) (V.ref t))) nt2
    have s67 : Same G6 (upd (upd (upd G6 t (.tup [.int 0, .int 0])) t1 (.tup [.ref t])) t2 (.tup (List.replicate (n + 1) (V.ref t)))) := st.trans (st1.trans st2)
    have hz7 : Dq (upd (upd (upd G6 t (.tup [.int 0, .int 0])) t1 (.tup [.ref t])) t2 (.tup (List.replicate (n + 1) (V.ref t)))) (.ref t2) (rowD (zeroR n)) := .tup upd_same ((zero_dq (st1 _ _ upd_same) (n + 1)).up st2)
    generalize upd (upd (upd G6 t (.tup [.int 0, .int 0])) t1 (.tup [.ref t])) t2 (.tup (List.replicate (n + 1) (V.ref t))) = G7 at s67 hz7
    -- the sum
    have hDk7 := s67 _ _ hDk6
    have D7 := D6.up s67
    refine ⟨.ref Dk, rfl, Dk, rfl, ⟨_, SqL.of hDk7⟩, for_list (K := K) (xs := ks.map fun (k : Nat) => V.int (k : Int)) (fun j σ G => ∃ (v5 : Option V) (rv : V), σ = [some (.ref sa), some (.ref p), some (.int i), some (.int n), some (.int o), v5, some (.ref Dk), some rv, y8, y9, y10, none] ∧ Same G7 G ∧ Dq G rv (rowD (sumK n (ks.take j))))
      ⟨_, _, rfl, Same.refl _, hz7⟩ (fun j σ G _ ⟨_, _, _, sm, _⟩ => SqL.of (sm _ _ hDk7)) ?_ ?_⟩
    · rintro j x σ G hx ⟨v5, rv, rfl, sm, hrv⟩
      rw [List.getElem?_map] at hx
      obtain ⟨k, hk, rfl⟩ : ∃ k, ks[j]? = some k ∧ V.int (k : Int) = x := by
        cases e : ks[j]? with
        | none => rw [e] at hx; cases hx
        | some k => rw [e] at hx; exact ⟨k, rfl, Option.some.inj hx⟩
      have hkn : k < n - 1 := List.mem_range.mp (hsub.subset (List.mem_of_getElem? hk))
      refine ⟨rv, rfl, .int n, rfl, .int k, rfl, n, k, rfl, by omega, by omega, fun G8 kv s8 hkv => ?_⟩
      refine ⟨rv, kv, sumK n (ks.take j), kindR n k, n + 1, rfl, sumK_len n _, kindR_len n k, by omega, hrv.up s8, hkv, fun G9 u s9 hu => ?_⟩
      refine ⟨_, u, rfl, sm.trans (s8.trans s9), ?_⟩
      have e : sumK n (ks.take (j + 1)) = addR (sumK n (ks.take j)) (kindR n k) := by
        unfold sumK
        rw [List.take_add_one, hk, List.foldl_append]
        rfl
      rw [e]
      exact hu
    rintro σ G8 ⟨v5, rv, rfl, s8, hrv⟩
    rw [List.length_map, List.take_length] at hrv
    have D8 := D7.up s8
    have hDk8 := s8 _ _ hDk7
    have hsl := sumK_len n ks
    have hkin : kinD n (sumK n ks) = .tuple ((ks.map fun (k : Nat) => (k : Int)).map .int) := by
      rw [kin_sum (by omega) hsub, List.map_map]
      rfl
    have hks : ks.map (fun (k : Nat) => V.int (k : Int)) = (ks.map fun (k : Nat) => (k : Int)).map V.int := by
      rw [List.map_map]
      rfl
    -- what the program tells of it
    have smT := two_sm (kinD_sm (n := n) (by omega) (sumK n ks)) (kinD_sm (n := n) (by omega) (sumK n ks))
    dsimp only [tNext]
    refine ne_repr ⟨.int n, rfl, rv, rfl, n, rv, sumK n ks, rfl, by omega, by omega, hsl, hrv, fun G9 u9 s9 hu9 => ?_⟩
    refine ⟨rv, rfl, .int n, rfl, rfl, n, rv, sumK n ks, rfl, by omega, by omega, hsl, hrv.up s9, fun G10 u10 s10 hu10 => ⟨by show 2 ≤ sizeLine; decide, fun L nL => ?_⟩⟩
    have sL := same_new (o := .lst [u9, u10]) nL
    refine repr_sm (.lst upd_same (.cons ((hu9.up s10).up sL) (.cons (hu10.up sL) .nil))) smT (by decide) (by decide) ?_
    have s811 : Same G8 (upd G10 L (.lst [u9, u10])) := s9.trans (s10.trans sL)
    generalize upd G10 L (.lst [u9, u10]) = G11 at s811
    have hDk11 := s811 _ _ hDk8
    refine ⟨.ref Dk, rfl, Dk, _, rfl, .inl ⟨SqL.of hDk11, fun t3 nt3 => ⟨by show 1 ≤ sizeLine; decide, fun L2 nL2 => ?_⟩⟩⟩
    have st3 := same_new (o := .tup (ks.map fun (k : Nat) => V.int (k : Int))) nt3
    have sL2 := same_new (o := .lst [.ref t3]) nL2
    refine ⟨L2, 2, [.ref t3], rfl, rfl, upd_same, by decide, by decide, by show 1 * 2 ≤ sizeLine; decide, fun L3 nL3 => ?_⟩
    have sL3 := same_new (o := .lst (List.replicate (2 : Int).toNat [V.ref t3]).flatten) nL3
    have s812 := s811.trans (st3.trans (sL2.trans sL3))
    have hkd : Dq (upd (upd (upd G11 t3 (.tup (ks.map fun (k : Nat) => V.int (k : Int)))) L2 (.lst [.ref t3])) L3 (.lst (List.replicate (2 : Int).toNat [V.ref t3]).flatten)) (.ref t3) (kinD n (sumK n ks)) := by
      rw [hkin]
      refine .tup (sL3 _ _ (sL2 _ _ upd_same)) ?_
      rw [hks]
      exact DqA.ints _
    refine repr_sm (d := .list [kinD n (sumK n ks), kinD n (sumK n ks)]) (.lst upd_same (.cons hkd (.cons hkd .nil))) smT (by decide) (by decide) ⟨rfl, _, rfl, iteNS rfl ?_⟩
    clear hkd
    generalize upd (upd (upd G11 t3 (.tup (ks.map fun (k : Nat) => V.int (k : Int)))) L2 (.lst [.ref t3])) L3 (.lst (List.replicate (2 : Int).toNat [V.ref t3]).flatten) = G12 at s812
    dsimp only [tNext]
    have hrv12 := hrv.up s812
    have D12 := D8.up s812
    -- some others
    refine ⟨.ref p, rfl, .int n, rfl, rv, rfl, p, l, n, rv, sumK n ks, rfl, D12, by omega, hsl, hrv12, fun G13 u1 r1 D13 E13 hr1l hu1 => ?_⟩
    have ts13 := TS.deck D12 E13
    refine ⟨.ref p, rfl, .int n, rfl, .ref p, rfl, .int n, rfl, rv, rfl, p, l, n, rv, sumK n ks, rfl, D13, by omega, hsl, hrv12.upT ts13 (row_flat _), fun G14 u2 r2 D14 E14 hr2l hu2 => ?_⟩
    have ts14 := TS.deck D13 E14
    refine ⟨p, l, n, u2, r2, rfl, D14, by omega, hr2l, hu2, fun G15 u3 r3 D15 E15 hr3l hu3 => ?_⟩
    have ts15 := TS.deck D14 E15
    have hu1' := (hu1.upT ts14 (row_flat _)).upT ts15 (row_flat _)
    refine ⟨by show 2 ≤ sizeLine; decide, fun S nS => ?_⟩
    have apS := D15.apart nS
    have D16 := D15.mut (o := .lst [u1, u3]) apS.p apS.l
    have ts16 : TS G15 (upd G15 S (.lst [u1, u3])) := TS.new nS
    have hS16 : upd G15 S (.lst [u1, u3]) S = some (.lst [u1, u3]) := upd_same
    have hu1s := hu1'.upT ts16 (row_flat _)
    have hu3s := hu3.upT ts16 (row_flat _)
    generalize upd G15 S (.lst [u1, u3]) = G16 at D16 ts16 hS16 hu1s hu3s
    refine ⟨.ref S, rfl, .inl ⟨rfl, _, SqL.of hS16⟩, .int n, rfl, _, _, rfl, rfl, (n : Int) + 1, rfl, by omega, by omega, fun Dm nDm => ?_⟩
    have apm := D16.apart nDm
    rw [hlen1]
    refine lc_it (walk_rg (n := n + 1)) (fun j G => ∃ (acc : List V) (r : Row), G Dm = some (.lst acc) ∧ Deck G p l ∧ Ext p l G16 G ∧ r.length = j ∧ DqA G acc (r.map pairD))
      ⟨[], [], upd_same, D16.mut apm.p apm.l, Ext.rfl.mut nDm, rfl, .nil⟩ (fun _ _ _ _ => trivial) ?_ ?_
    · rintro j x G' G hj ⟨acc, r, hDm, DG, EG, hrl, qr⟩ ⟨rfl, rfl⟩
      refine ⟨rfl, ?_⟩
      dsimp only [tYes]
      rw [if_pos rfl]
      refine ⟨.ref p, rfl, p, l, 2, rfl, DG, by decide, fun G17 z D17 E17 z0 z1 => ?_⟩
      refine ⟨.ref p, rfl, p, l, 2, rfl, D17, by decide, fun G18 z' D18 E18 z0' z1' => ⟨by show 2 ≤ sizeLine; decide, fun tt ntt => ?_⟩⟩
      obtain ⟨b1, rfl⟩ := bit_of z0 z1
      obtain ⟨b2, rfl⟩ := bit_of z0' z1'
      have apt := D18.apart ntt
      have E1618 : Ext p l G16 G18 := Same.trans EG (Same.trans E17 E18)
      have hDm18 : G18 Dm = some (.lst acc) := Ext.at_ E18 apm.p apm.l (Ext.at_ E17 apm.p apm.l hDm)
      have stt := same_new (o := .tup [.int (bi b1), .int (bi b2)]) ntt
      have ts := ((TS.deck DG E17).trans (TS.deck D17 E18)).trans (TS.of stt)
      have ntm : tt ≠ Dm := (ne_of_none hDm18 ntt).symm
      have nt16 : G16 tt = none := Ext.free E1618 ntt apt.p apt.l
      refine ⟨acc, stt _ _ hDm18, szm (by have := pairs_len qr; omega), acc ++ [.ref tt], r ++ [(b1, b2)], upd_same, (D18.mut apt.p apt.l).mut apm.p apm.l, Ext.mut (Ext.mut E1618 nt16) nDm, by rw [List.length_append, hrl]; rfl, ?_⟩
      rw [List.map_append]
      refine dqa_snoc (DqA.upT (TS.lst (stt _ _ hDm18)) (pairs_flat r) (DqA.upT ts (pairs_flat r) qr)) (Dq.upT (TS.lst (stt _ _ hDm18)) (pair_flat (b1, b2)) (pair_at (p := (b1, b2)) upd_same))
    rintro G17 ⟨acc, r4, hDm, D17, E17, hr4l, qr4⟩
    have hS17 : G17 S = some (.lst [u1, u3]) := Ext.at_ E17 apS.p apS.l hS16
    have ts17 := TS.deck D16 E17
    refine ⟨Dm, _, rfl, .inl ⟨SqL.of hDm, fun t4 nt4 => ?_⟩⟩
    have st4 := same_new (o := .tup acc) nt4
    have apt4 := D17.apart nt4
    have hr4v : Dq (upd G17 t4 (.tup acc)) (.ref t4) (rowD r4) := .tup upd_same (qr4.up st4)
    refine ⟨S, [u1, u3], .ref t4, rfl, rfl, st4 _ _ hS17, by show 2 < sizeLine; decide, ?_⟩
    have D18 := (D17.mut (o := .tup acc) apt4.p apt4.l).mut (o := .lst ([u1, u3] ++ [.ref t4])) apS.p apS.l
    have ts18 : TS (upd G17 t4 (.tup acc)) (upd (upd G17 t4 (.tup acc)) S (.lst ([u1, u3] ++ [.ref t4]))) := TS.lst (st4 _ _ hS17)
    have hS18 : upd (upd G17 t4 (.tup acc)) S (.lst ([u1, u3] ++ [.ref t4])) S = some (.lst [u1, u3, .ref t4]) := upd_same
    have hv1 := ((hu1s.upT ts17 (row_flat _)).upT (TS.of st4) (row_flat _)).upT ts18 (row_flat _)
    have hv3 := ((hu3s.upT ts17 (row_flat _)).upT (TS.of st4) (row_flat _)).upT ts18 (row_flat _)
    have hv4 := hr4v.upT ts18 (row_flat _)
    generalize upd (upd G17 t4 (.tup acc)) S (.lst ([u1, u3] ++ [.ref t4])) = G19 at D18 hS18 hv1 hv3 hv4
    -- each of them
    have hall : ∀ (j : Nat) (x : V), ([u1, u3, .ref t4] : List V)[j]? = some x → ∃ r : Row, r.length = n + 1 ∧ Dq G19 x (rowD r) := by
      intro j x hx
      match j, hx with
      | 0, hx => cases Option.some.inj hx; exact ⟨r1, hr1l, hv1⟩
      | 1, hx => cases Option.some.inj hx; exact ⟨r3, hr3l, hv3⟩
      | 2, hx => cases Option.some.inj hx; exact ⟨r4, hr4l, hv4⟩
    refine ⟨.ref S, rfl, S, rfl, ⟨_, SqL.of hS18⟩, for_list (K := K) (xs := [u1, u3, .ref t4]) (fun j σ G => ∃ y9 y10 : Option V, σ = [some (.ref sa), some (.ref p), some (.int i), some (.int n), some (.int o), v5, some (.ref Dk), some rv, some (.ref S), y9, y10, none] ∧ Same G19 G)
      ⟨_, _, rfl, Same.refl _⟩ (fun j σ G _ ⟨_, _, _, sm⟩ => SqL.of (sm _ _ hS18)) ?_ ?_⟩
    · rintro j x σ G hx ⟨z9, z10, rfl, sm⟩
      obtain ⟨r, hrl, hxr⟩ := hall j x hx
      have hxr' := hxr.up sm
      refine ⟨.int n, rfl, x, rfl, n, x, r, rfl, by omega, by omega, hrl, hxr', fun G20 u20 s20 hu20 => ?_⟩
      rw [wit_eq hrl (by omega)] at hu20
      have smk := kinD_sm (n := n) (by omega) r
      dsimp only [tNext]
      refine ne_repr ⟨.int n, rfl, x, rfl, n, x, r, rfl, by omega, by omega, hrl, hxr'.up s20, fun G21 u21 s21 hu21 => repr_sm hu21 smk (by decide) (by decide) ?_⟩
      refine ⟨u20, rfl, repr_sm (hu20.up s21) smk (by decide) (by decide) ⟨rfl, _, rfl, iteNS rfl ?_⟩⟩
      have done : ∀ G22, Same G21 G22 → ∃ y9 y10 : Option V, ([some (.ref sa), some (.ref p), some (.int i), some (.int n), some (.int o), v5, some (.ref Dk), some rv, some (.ref S), some x, some u20, none] : List (Option V)) = [some (.ref sa), some (.ref p), some (.int i), some (.int n), some (.int o), v5, some (.ref Dk), some rv, some (.ref S), y9, y10, none] ∧ Same G19 G22 := fun G22 s22 => ⟨_, _, rfl, sm.trans (s20.trans (s21.trans s22))⟩
      refine ⟨.int n, rfl, _, _, rfl, rfl, _, rfl, ?_⟩
      by_cases h9 : (n : Int) < 9
      · rw [decide_eq_true h9]
        refine iteT ⟨.int n, rfl, x, rfl, n, x, r, rfl, by omega, by omega, hrl, (hxr'.up s20).up s21, fun G22 u22 s22 hu22 => ?_⟩
        refine ⟨u20, rfl, kinD n r, kinD n r, hu22.dp (kinD_flat n r), ((hu20.up s21).up s22).dp (kinD_flat n r), kinD_shaped n r, kinD_shaped n r, _, rfl, ?_⟩
        rw [kinD_eqv]
        exact iteF (done G22 s22)
      · rw [decide_eq_false h9]
        exact iteF (done G21 (Same.refl _))
    · rintro σ G ⟨z9, z10, rfl, sm⟩
      exact ⟨_, _, _, _, _, _, _, _, _, rfl, D18.up sm⟩
end
end Kr
namespace Kr
open PySem PySem.Spec PyProof.Rows L2
/-! ### what the head has written -/
theorem df_mk {K : PySem.W.Frag} {h : Heap} {mg : Str → Option Value} {x : Str} {st : Stmt} {f : Addr} {ps : List Str} {oc : Value} {od an : Option Addr} {osl : Array (Option Value)} {kV doc pm cdv ct : Value} (X : K.In h) (G : h.Ns mainGlobals mg)
    (a : PySem.W.nsIn K mainGlobals x = some (some (.ref f))) (l : K.lookup f = some ⟨oc, od, .func (PySem.W.fnOf x x (defArgs st) (defBody st) (defScope st) .none kV doc pm an cdv ct), osl⟩) (c : PySem.W.codeIn K cdv x = true) (k : PySem.W.keepIn K (.ref f) = true)
    (hb : ∀ (kV doc pm : Value) (an : Option Addr) (cdv ct : Value) (us : List Value), us.length = ps.length → bindArgs (PySem.W.fnOf x x (defArgs st) (defBody st) (defScope st) .none kV doc pm an cdv ct) ⟨us, []⟩ = pure (ps.zip us)) : Df K mg x st ps :=
  ⟨_, _, fun_mk l c k, (fun_mk l c k).binds hb, PySem.W.mg_of X G a⟩
theorem all_mk {l : PySem.W.OpenLaw} {w : World} {K : PySem.W.Frag} {h : Heap} {mg : Str → Option Value} {fa : Addr} (X : K.In h) (G : h.Ns mainGlobals mg) (hfa : mg "law" = some (.ref fa))
    {f1 : Addr} {oc1 kV1 dc1 pm1 cd1 ct1 : Value} {od1 an1 : Option Addr} {sl1 : Array (Option Value)}
    {f2 : Addr} {oc2 kV2 dc2 pm2 cd2 ct2 : Value} {od2 an2 : Option Addr} {sl2 : Array (Option Value)}
    {f3 : Addr} {oc3 kV3 dc3 pm3 cd3 ct3 : Value} {od3 an3 : Option Addr} {sl3 : Array (Option Value)}
    {f4 : Addr} {oc4 kV4 dc4 pm4 cd4 ct4 : Value} {od4 an4 : Option Addr} {sl4 : Array (Option Value)}
    {f5 : Addr} {oc5 kV5 dc5 pm5 cd5 ct5 : Value} {od5 an5 : Option Addr} {sl5 : Array (Option Value)}
    {f6 : Addr} {oc6 kV6 dc6 pm6 cd6 ct6 : Value} {od6 an6 : Option Addr} {sl6 : Array (Option Value)}
    {f7 : Addr} {oc7 kV7 dc7 pm7 cd7 ct7 : Value} {od7 an7 : Option Addr} {sl7 : Array (Option Value)}
    {f8 : Addr} {oc8 kV8 dc8 pm8 cd8 ct8 : Value} {od8 an8 : Option Addr} {sl8 : Array (Option Value)}
    {f9 : Addr} {oc9 kV9 dc9 pm9 cd9 ct9 : Value} {od9 an9 : Option Addr} {sl9 : Array (Option Value)}
    {f10 : Addr} {oc10 kV10 dc10 pm10 cd10 ct10 : Value} {od10 an10 : Option Addr} {sl10 : Array (Option Value)}
    {f11 : Addr} {oc11 kV11 dc11 pm11 cd11 ct11 : Value} {od11 an11 : Option Addr} {sl11 : Array (Option Value)}
    {f12 : Addr} {oc12 kV12 dc12 pm12 cd12 ct12 : Value} {od12 an12 : Option Addr} {sl12 : Array (Option Value)}
    {f13 : Addr} {oc13 kV13 dc13 pm13 cd13 ct13 : Value} {od13 an13 : Option Addr} {sl13 : Array (Option Value)}
    {f14 : Addr} {oc14 kV14 dc14 pm14 cd14 ct14 : Value} {od14 an14 : Option Addr} {sl14 : Array (Option Value)}
    (a1 : PySem.W.nsIn K mainGlobals "kind_signs" = some (some (.ref f1))) (l1 : K.lookup f1 = some ⟨oc1, od1, .func (PySem.W.fnOf "kind_signs" "kind_signs" (defArgs sKindSigns) (defBody sKindSigns) (defScope sKindSigns) .none kV1 dc1 pm1 an1 cd1 ct1), sl1⟩) (c1 : PySem.W.codeIn K cd1 "kind_signs" = true) (k1 : PySem.W.keepIn K (.ref f1) = true)
    (a2 : PySem.W.nsIn K mainGlobals "_choices" = some (some (.ref f2))) (l2 : K.lookup f2 = some ⟨oc2, od2, .func (PySem.W.fnOf "_choices" "_choices" (defArgs sChoices) (defBody sChoices) (defScope sChoices) .none kV2 dc2 pm2 an2 cd2 ct2), sl2⟩) (c2 : PySem.W.codeIn K cd2 "_choices" = true) (k2 : PySem.W.keepIn K (.ref f2) = true)
    (a3 : PySem.W.nsIn K mainGlobals "sum_of_rows" = some (some (.ref f3))) (l3 : K.lookup f3 = some ⟨oc3, od3, .func (PySem.W.fnOf "sum_of_rows" "sum_of_rows" (defArgs sSumRows) (defBody sSumRows) (defScope sSumRows) .none kV3 dc3 pm3 an3 cd3 ct3), sl3⟩) (c3 : PySem.W.codeIn K cd3 "sum_of_rows" = true) (k3 : PySem.W.keepIn K (.ref f3) = true)
    (a4 : PySem.W.nsIn K mainGlobals "kinds_in" = some (some (.ref f4))) (l4 : K.lookup f4 = some ⟨oc4, od4, .func (PySem.W.fnOf "kinds_in" "kinds_in" (defArgs sKindsIn) (defBody sKindsIn) (defScope sKindsIn) .none kV4 dc4 pm4 an4 cd4 ct4), sl4⟩) (c4 : PySem.W.codeIn K cd4 "kinds_in" = true) (k4 : PySem.W.keepIn K (.ref f4) = true)
    (a5 : PySem.W.nsIn K mainGlobals "_law_deck" = some (some (.ref f5))) (l5 : K.lookup f5 = some ⟨oc5, od5, .func (PySem.W.fnOf "_law_deck" "_law_deck" (defArgs sDeck) (defBody sDeck) (defScope sDeck) .none kV5 dc5 pm5 an5 cd5 ct5), sl5⟩) (c5 : PySem.W.codeIn K cd5 "_law_deck" = true) (k5 : PySem.W.keepIn K (.ref f5) = true)
    (a6 : PySem.W.nsIn K mainGlobals "_law_draw" = some (some (.ref f6))) (l6 : K.lookup f6 = some ⟨oc6, od6, .func (PySem.W.fnOf "_law_draw" "_law_draw" (defArgs sDraw) (defBody sDraw) (defScope sDraw) .none kV6 dc6 pm6 an6 cd6 ct6), sl6⟩) (c6 : PySem.W.codeIn K cd6 "_law_draw" = true) (k6 : PySem.W.keepIn K (.ref f6) = true)
    (a7 : PySem.W.nsIn K mainGlobals "_law_pick" = some (some (.ref f7))) (l7 : K.lookup f7 = some ⟨oc7, od7, .func (PySem.W.fnOf "_law_pick" "_law_pick" (defArgs sPick) (defBody sPick) (defScope sPick) .none kV7 dc7 pm7 an7 cd7 ct7), sl7⟩) (c7 : PySem.W.codeIn K cd7 "_law_pick" = true) (k7 : PySem.W.keepIn K (.ref f7) = true)
    (a8 : PySem.W.nsIn K mainGlobals "_law_sum" = some (some (.ref f8))) (l8 : K.lookup f8 = some ⟨oc8, od8, .func (PySem.W.fnOf "_law_sum" "_law_sum" (defArgs sLSum) (defBody sLSum) (defScope sLSum) .none kV8 dc8 pm8 an8 cd8 ct8), sl8⟩) (c8 : PySem.W.codeIn K cd8 "_law_sum" = true) (k8 : PySem.W.keepIn K (.ref f8) = true)
    (a9 : PySem.W.nsIn K mainGlobals "_law_choose" = some (some (.ref f9))) (l9 : K.lookup f9 = some ⟨oc9, od9, .func (PySem.W.fnOf "_law_choose" "_law_choose" (defArgs sLChoose) (defBody sLChoose) (defScope sLChoose) .none kV9 dc9 pm9 an9 cd9 ct9), sl9⟩) (c9 : PySem.W.codeIn K cd9 "_law_choose" = true) (k9 : PySem.W.keepIn K (.ref f9) = true)
    (a10 : PySem.W.nsIn K mainGlobals "_law_kind" = some (some (.ref f10))) (l10 : K.lookup f10 = some ⟨oc10, od10, .func (PySem.W.fnOf "_law_kind" "_law_kind" (defArgs sLKind) (defBody sLKind) (defScope sLKind) .none kV10 dc10 pm10 an10 cd10 ct10), sl10⟩) (c10 : PySem.W.codeIn K cd10 "_law_kind" = true) (k10 : PySem.W.keepIn K (.ref f10) = true)
    (a11 : PySem.W.nsIn K mainGlobals "_law_within" = some (some (.ref f11))) (l11 : K.lookup f11 = some ⟨oc11, od11, .func (PySem.W.fnOf "_law_within" "_law_within" (defArgs sWithin) (defBody sWithin) (defScope sWithin) .none kV11 dc11 pm11 an11 cd11 ct11), sl11⟩) (c11 : PySem.W.codeIn K cd11 "_law_within" = true) (k11 : PySem.W.keepIn K (.ref f11) = true)
    (a12 : PySem.W.nsIn K mainGlobals "_law_by_all" = some (some (.ref f12))) (l12 : K.lookup f12 = some ⟨oc12, od12, .func (PySem.W.fnOf "_law_by_all" "_law_by_all" (defArgs sByAll) (defBody sByAll) (defScope sByAll) .none kV12 dc12 pm12 an12 cd12 ct12), sl12⟩) (c12 : PySem.W.codeIn K cd12 "_law_by_all" = true) (k12 : PySem.W.keepIn K (.ref f12) = true)
    (a13 : PySem.W.nsIn K mainGlobals "_law_turned" = some (some (.ref f13))) (l13 : K.lookup f13 = some ⟨oc13, od13, .func (PySem.W.fnOf "_law_turned" "_law_turned" (defArgs sTurned) (defBody sTurned) (defScope sTurned) .none kV13 dc13 pm13 an13 cd13 ct13), sl13⟩) (c13 : PySem.W.codeIn K cd13 "_law_turned" = true) (k13 : PySem.W.keepIn K (.ref f13) = true)
    (a14 : PySem.W.nsIn K mainGlobals "law" = some (some (.ref f14))) (l14 : K.lookup f14 = some ⟨oc14, od14, .func (PySem.W.fnOf "law" "law" (defArgs sLaw) (defBody sLaw) (defScope sLaw) .none kV14 dc14 pm14 an14 cd14 ct14), sl14⟩) (c14 : PySem.W.codeIn K cd14 "law" = true) (k14 : PySem.W.keepIn K (.ref f14) = true)
    (z1 : PySem.W.nsIn K mainGlobals "len" = some none)
    (z2 : PySem.W.nsIn K mainGlobals "abs" = some none)
    (z3 : PySem.W.nsIn K mainGlobals "int" = some none)
    (z4 : PySem.W.nsIn K mainGlobals "tuple" = some none)
    (z5 : PySem.W.nsIn K mainGlobals "list" = some none)
    (z6 : PySem.W.nsIn K mainGlobals "range" = some none)
    (z7 : PySem.W.nsIn K mainGlobals "zip" = some none)
    (z8 : PySem.W.nsIn K mainGlobals "repr" = some none)
    (zc : PySem.W.nsIn K mainGlobals "comb" = some (some (.builtin "math.comb")))
    : ∃ fd : FuncData, (∀ (s : Shared) (u : Value), BindsTo s fd ⟨[u], []⟩ [("script", u)]) ∧ ∀ base : Heap, K.In base → base.Ns mainGlobals mg → FnG l.prog w K mg base CX0 4 fa fd ["script"] (spLaw K) := by
  have e := hfa.symm.trans (PySem.W.mg_of X G a14)
  cases e
  have D1 : Df K mg "kind_signs" sKindSigns ["n", "k"] := df_mk X G a1 l1 c1 k1 fun _ _ _ _ _ _ us hl => match us, hl with | [_, _], _ => rfl
  have D2 : Df K mg "_choices" sChoices ["many", "some"] := df_mk X G a2 l2 c2 k2 fun _ _ _ _ _ _ us hl => match us, hl with | [_, _], _ => rfl
  have D3 : Df K mg "sum_of_rows" sSumRows ["n", "rows"] := df_mk X G a3 l3 c3 k3 fun _ _ _ _ _ _ us hl => match us, hl with | [_, _], _ => rfl
  have F4 := fun_mk (st := sKindsIn) l4 c4 k4
  have b4 := F4.binds (ps := ["n", "row"]) fun _ _ _ _ _ _ us hl => match us, hl with | [_, _], _ => rfl
  have g4 := PySem.W.mg_of X G a4
  have n4 := kbn_of (ps := ["n", "row"]) (ks := ["row", "n"]) F4 (fun zs => zs.reverse) vals_swap fun _ _ _ _ _ _ ws hl => match ws, hl with | [_, _], _ => rfl
  have D5 : Df K mg "_law_deck" sDeck ["script"] := df_mk X G a5 l5 c5 k5 fun _ _ _ _ _ _ us hl => match us, hl with | [_], _ => rfl
  have D6 : Df K mg "_law_draw" sDraw ["deck", "many"] := df_mk X G a6 l6 c6 k6 fun _ _ _ _ _ _ us hl => match us, hl with | [_, _], _ => rfl
  have D7 : Df K mg "_law_pick" sPick ["deck", "some"] := df_mk X G a7 l7 c7 k7 fun _ _ _ _ _ _ us hl => match us, hl with | [_, _], _ => rfl
  have D8 : Df K mg "_law_sum" sLSum ["one", "two"] := df_mk X G a8 l8 c8 k8 fun _ _ _ _ _ _ us hl => match us, hl with | [_, _], _ => rfl
  have D9 : Df K mg "_law_choose" sLChoose ["a", "b"] := df_mk X G a9 l9 c9 k9 fun _ _ _ _ _ _ us hl => match us, hl with | [_, _], _ => rfl
  have D10 : Df K mg "_law_kind" sLKind ["n", "k"] := df_mk X G a10 l10 c10 k10 fun _ _ _ _ _ _ us hl => match us, hl with | [_, _], _ => rfl
  have D11 : Df K mg "_law_within" sWithin ["n", "row"] := df_mk X G a11 l11 c11 k11 fun _ _ _ _ _ _ us hl => match us, hl with | [_, _], _ => rfl
  have D12 : Df K mg "_law_by_all" sByAll ["n", "row"] := df_mk X G a12 l12 c12 k12 fun _ _ _ _ _ _ us hl => match us, hl with | [_, _], _ => rfl
  have D13 : Df K mg "_law_turned" sTurned ["deck", "n", "row"] := df_mk X G a13 l13 c13 k13 fun _ _ _ _ _ _ us hl => match us, hl with | [_, _, _], _ => rfl
  have B : Bi mg := ⟨PySem.W.mg_none_of X G z1, PySem.W.mg_none_of X G z2, PySem.W.mg_none_of X G z3, PySem.W.mg_none_of X G z4, PySem.W.mg_none_of X G z5, PySem.W.mg_none_of X G z6, PySem.W.mg_none_of X G z7, PySem.W.mg_none_of X G z8, PySem.W.mg_of X G zc⟩
  refine ⟨PySem.W.fnOf "law" "law" (defArgs sLaw) (defBody sLaw) (defScope sLaw) .none kV14 dc14 pm14 an14 cd14 ct14, fun s v => .of_eq rfl, fun base _ _ => ?_⟩
  have oc := o_choices (P := l.prog) (w := w) (base := base) D2 B
  have ok : Ok l.prog w K mg base 2 "kind_signs" ["n", "k"] spKind := D1.ok fun _ _ F => f_kindSigns F B oc
  have os := o_sumRows (P := l.prog) (w := w) (base := base) D3 B
  have od := o_draw (P := l.prog) (w := w) (base := base) D6 B
  have ock := o_deck (P := l.prog) (w := w) (base := base) D5 B
  have op := o_pick D7 B od
  have ols := o_lSum (P := l.prog) (w := w) (base := base) D8 B
  have olc := o_lChoose (P := l.prog) (w := w) (base := base) D9 B
  have olk := o_lKind D10 B olc
  exact ok_law (fun_mk (st := sLaw) l14 c14 k14) B ⟨ock, od, op, ols, ok, o_turned D13 B od, o_within D11 B ols olk, o_byAll D12 B ols olk, ⟨_, _, f_kindsIn F4 B os ok, F4.kp, g4, b4, n4⟩⟩
end Kr
open PySem PySem.W PyProof.Rows
set_option maxHeartbeats 0 in
theorem PySem.Challenge.cw_keyriders_k22_whole_kinds_by_their_sum_holds : PySem.Challenge.rw_keyriders_k22_whole_kinds_by_their_sum.Holds := by
  w_on; o_law; k_head; (case hw => w_witness2)
  k_fill
  refine Kr.walkG (l := PySem.Challenge.rw_keyriders_k22_whole_kinds_by_their_sum) (n := 63) (k := 4) (x := "script") (sp := Kr.spLaw) rfl (by decide) rfl ⟨rfl, by decide, by decide⟩ (fun w h Y => PySem.W.kIn_of Y) ?F (fun _ _ a ns hl _ hS => ⟨a, ns, rfl, hS, hl, fun _ => rfl⟩)
  case F =>
    intro w mg fa h KX G hmg
    refine' Kr.all_mk KX G hmg ?a1 ?l1 ?c1 ?k1 ?a2 ?l2 ?c2 ?k2 ?a3 ?l3 ?c3 ?k3 ?a4 ?l4 ?c4 ?k4 ?a5 ?l5 ?c5 ?k5 ?a6 ?l6 ?c6 ?k6 ?a7 ?l7 ?c7 ?k7 ?a8 ?l8 ?c8 ?k8 ?a9 ?l9 ?c9 ?k9 ?a10 ?l10 ?c10 ?k10 ?a11 ?l11 ?c11 ?k11 ?a12 ?l12 ?c12 ?k12 ?a13 ?l13 ?c13 ?k13 ?a14 ?l14 ?c14 ?k14 ?z1 ?z2 ?z3 ?z4 ?z5 ?z6 ?z7 ?z8 ?zc
    (case a1 => k_is); (case l1 => k_is); (case c1 => k_is); (case k1 => k_is); (case a2 => k_is); (case l2 => k_is); (case c2 => k_is); (case k2 => k_is); (case a3 => k_is); (case l3 => k_is); (case c3 => k_is); (case k3 => k_is); (case a4 => k_is); (case l4 => k_is); (case c4 => k_is); (case k4 => k_is); (case a5 => k_is); (case l5 => k_is); (case c5 => k_is); (case k5 => k_is); (case a6 => k_is); (case l6 => k_is); (case c6 => k_is); (case k6 => k_is); (case a7 => k_is); (case l7 => k_is); (case c7 => k_is); (case k7 => k_is); (case a8 => k_is); (case l8 => k_is); (case c8 => k_is); (case k8 => k_is); (case a9 => k_is); (case l9 => k_is); (case c9 => k_is); (case k9 => k_is); (case a10 => k_is); (case l10 => k_is); (case c10 => k_is); (case k10 => k_is); (case a11 => k_is); (case l11 => k_is); (case c11 => k_is); (case k11 => k_is); (case a12 => k_is); (case l12 => k_is); (case c12 => k_is); (case k12 => k_is); (case a13 => k_is); (case l13 => k_is); (case c13 => k_is); (case k13 => k_is); (case a14 => k_is); (case l14 => k_is); (case c14 => k_is); (case k14 => k_is); (case z1 => k_is); (case z2 => k_is); (case z3 => k_is); (case z4 => k_is); (case z5 => k_is); (case z6 => k_is); (case z7 => k_is); (case z8 => k_is); (case zc => k_is)
