import PyProof.Rows.All
import Wide.All
import OpenK.AllK
import Wide.FinOn
import KE.GoesEnum
import HandS.ForMost
import HandS.Walk
import KE.KRevSl
import PyProof.ReprReads
import PyProof.ReprRoads
import HandS.IsInst
import HandS.Defaults
import HandS.TupAny
import HandS.TupMul
import HandS.Conv
import HandS.Zip
import HandS.SortInts
import HandS.WordsExc
import HandS.ExcOwn
import HandS.ExcIs
import HandS.ExcInit
import KE.KMathGC
import PyProof.ReprLen
import HandS.NoneIn
import PyProof.EqKinds
import HandS.Wide
import PySem.Challenge.RW_keyriders_k06_what_are_programs
set_option Elab.async false
set_option linter.all false
set_option maxRecDepth 100000
set_option maxHeartbeats 4000000
namespace Kr
open PySem PySem.Spec PyProof.Rows L2
open AutoSeq1 (wpAny_loadPart')

theorem enum_new_tup (l : Addr) (items : Array Value) :
    Meets (Builtin.«enumerate.__new__» ⟨[.type "enumerate", .ref l], []⟩) (fun _ R s => s.heap.IsTuple l items ∧
      R (.ok (.ret (.ref (s.heap.push { cls := .type "tuple_iterator", data := .fields #[.ref l, .int 0 0] }).objs.size)))
        { s with heap := (s.heap.push { cls := .type "tuple_iterator", data := .fields #[.ref l, .int 0 0] }).push { cls := .type "enumerate", data := .fields #[.none, .bool false, .ref s.heap.objs.size, rawInt 0, .none, .none] } }) :=
  .of_wp fun prog w A R s h => by
    obtain ⟨hp, g, d, tk, os⟩ := s
    obtain ⟨hL, h⟩ := h
    have hsub := sub_enumerate
    wp_walk using wpAny_pyIter_tuple hL
    refine wpAny_stack_any fun st => wpAny_pure ?_
    split
    · rename_i c _ _ _ _ _
      cases (c == Value.type "enumerate")
      all_goals
        wp_walk using wpAny_pyIter_tuple hL
        exact ⟨_, rfl, h⟩
    · wp_walk using wpAny_pyIter_tuple hL
      exact ⟨_, rfl, h⟩

section
variable {prog : Program} {w : World} {A : Around} {E : Value → Shared → Prop} {s : Shared}
theorem enum_call_tup {l : Addr} {items : Array Value} {Q : Value → Shared → Prop} (hL : s.heap.IsTuple l items)
    (h : ∀ h', IsEnum h' (s.heap.objs.size + 1) s.heap.objs.size 0 .none → h'.IsTupleIter s.heap.objs.size l 0 → h'.objs.size = s.heap.objs.size + 2 →
      (∀ b o, s.heap.get? b = some o → h'.get? b = some o) → Q (.ref (s.heap.objs.size + 1)) { s with heap := h' }) :
    wpAny (model prog w) A (call (.type "enumerate") [.ref l]) Q E s := by
  refine callType_new F.called_enumerate (by decide) (F.typeCall_enumerate_1 _) (F.newCall_enumerate_1 _) (fun obj => F.args_object_init_2 obj _) F.entry_enumerate_new
    (enum_new_tup l items) ⟨hL, ?_⟩
  generalize hh1 : s.heap.push { cls := .type "tuple_iterator", data := .fields #[.ref l, .int 0 0] } = h1
  have hz : h1.objs.size = s.heap.objs.size + 1 := by rw [← hh1]; exact Heap.size_push ..
  have g1 : h1.get? s.heap.objs.size = some { cls := .type "tuple_iterator", data := .fields #[.ref l, .int 0 0] } := by rw [← hh1]; exact Heap.get?_push_size _ rfl
  have k1 : ∀ b o, s.heap.get? b = some o → h1.get? b = some o := fun b o e => by rw [← hh1]; exact Heap.get?_push_of_some _ e
  have he : IsEnum (h1.push { cls := .type "enumerate", data := .fields #[.none, .bool false, .ref s.heap.objs.size, rawInt 0, .none, .none] }) (s.heap.objs.size + 1) s.heap.objs.size 0 .none := by
    have q := Heap.get?_push_size h1 (o := { cls := .type "enumerate", data := .fields #[.none, .bool false, .ref s.heap.objs.size, rawInt 0, .none, .none] }) rfl
    rw [hz] at q
    exact q
  show _ ∧ _
  rw [hz]
  exact ⟨⟨_, he, rfl⟩, h _ he ⟨_, Heap.get?_push_of_some _ g1, rfl, rfl⟩ (by rw [Heap.size_push, hz]) fun b o x => Heap.get?_push_of_some _ (k1 b o x)⟩
end

/-- the tuple at a, each item in a new pair -/
def Itet (K : PySem.W.Frag) (a : Addr) : It :=
  ⟨fun i H => ∃ (xs : List V) (x : V), SqT K H a xs ∧ xs[i]? = some x,
    fun i H v H' => ∃ T x, v = .ref T ∧ H T = none ∧ H' = upd H T (.tup [.int (i : Nat), x]) ∧ ∀ xs, SqT K H a xs → xs[i]? = some x,
    fun i H => ∃ xs : List V, SqT K H a xs ∧ xs.length = i⟩
theorem tup_ne {h : Heap} {a it : Addr} {items : Array Value} {o : Obj} (p : IsTup h a items) (ho : h.get? it = some o) (hc : o.cls ≠ .type "tuple") : a ≠ it := fun z => by
  obtain ⟨u, hu, hcu, _⟩ := p
  rw [z, ho] at hu
  cases hu
  exact hc hcu
theorem turn_enumT {P : Program} {w : World} {K : PySem.W.Frag} {elts : List Expr} {kk : Nat} {tpos : Pos} (a e it : Addr) :
    Turn P w K (.Tuple elts kk tpos) (Itet K a) [e, it] e (fun i h => (∃ old, IsEnum h e it ((i : Nat) : Int) old) ∧ h.IsTupleIter it a i ∧ e ≠ it) where
  mem := by simp
  obj := fun i h st b hb => by
    obtain ⟨⟨old, he⟩, ⟨o, ho, hc, hd⟩, _⟩ := st
    rcases (show b = e ∨ b = it by simpa using hb) with z | z
    · rw [z]; exact ⟨_, he, fun v q => nomatch q⟩
    · rw [z]; exact ⟨o, ho, fun v q => by rw [hd] at q; cases q⟩
  keep := fun i h h' st k => let ⟨⟨old, he⟩, hi, hne⟩ := st; ⟨⟨old, k e (by simp) _ he⟩, hi.at fun o q => k it (by simp) o q, hne⟩
  item := by
    intro X hP hw hK hc i pins s σ H E I hf st hg
    subst hP hw hK
    obtain ⟨⟨old, he⟩, hit, hne⟩ := st
    obtain ⟨xs, x, hq, hx⟩ := hg
    obtain ⟨its, rv, p, hz⟩ := I.tuple hq
    obtain ⟨u, hu, ru⟩ := rv.get hx
    have hel : e < s.heap.objs.size := Heap.lt_size he
    have hil : it < s.heap.objs.size := by obtain ⟨_, q, _⟩ := hit; exact Heap.lt_size q
    have nai : a ≠ it := by
      obtain ⟨o, ho, hcl, _⟩ := id hit
      exact tup_ne p ho (by rw [hcl]; decide)
    have hlt : i < its.toArray.size := by
      rw [List.size_toArray]
      exact (List.getElem?_eq_some_iff.mp hu).1
    have nea : e ≠ a := fun z => tup_ne p he (by show Value.type "enumerate" ≠ Value.type "tuple"; decide) z.symm
    refine PySem.wpAny_pyNext_enum_itemC (Draws.tuple (A := X.A.in1) (I.ok.hd hc) it a nai its.toArray) he ⟨hit, p⟩ hlt hne (by simp [hne, nea]) fun y h' tk hy ho hst hT hsz hk => ?_
    have ey : y = u := by
      have : its.toArray[i]? = some y := hy
      rw [List.getElem?_toArray, hu] at this
      exact (Option.some.inj this).symm
    subst ey
    refine ⟨_, rfl, wpAny_letOwnedTupleGo_enum (s := { s with heap := h', toks := tk + 1 }) ho fun h'' he' sb => ?_⟩
    have hT2 : h''.get? s.heap.objs.size = some { cls := .type "tuple", data := .seq #[.int i tk, y] } := (sb.2 _ (Nat.ne_of_gt hel)).trans hT
    have new : ObjOk X.prog X.w (upd H s.heap.objs.size (.tup [.int (i : Nat), x])) h'' s.heap.objs.size (.tup [.int (i : Nat), x]) :=
      ⟨by show 2 ≤ sizeLine; decide, [.int i tk, y], .cons ⟨_, rfl⟩ (.cons ru .nil), ⟨_, hT2, rfl, _, rfl⟩⟩
    have I1 : Inv X pins σ (upd H s.heap.objs.size (.tup [.int (i : Nat), x])) { s with heap := h'', toks := tk + 1 } :=
      I.turnedNew (ch := [e, it]) (fun b ob hb q => (sb.2 b (fun z => hb (by simp [z]))).trans (hk b ob (fun z => hb (by simp [z])) (fun z => hb (by simp [z])) q)) hf (Nat.le_refl _) new
    refine ⟨.ref s.heap.objs.size, _, I1, rfl, ⟨_, x, rfl, I.hok.fresh (Nat.le_refl _), rfl, fun ys hy => by rw [I.tuple_inj hy hq]; exact hx⟩, ⟨⟨y, ?_⟩, hst.1.at fun o q => (sb.2 it (Ne.symm hne)).trans q, hne⟩, fun b hb => ?_⟩
    · rw [show ((i + 1 : Nat) : Int) = (i : Int) + 1 by omega]
      exact he'
    · have hb' : b < s.heap.objs.size := by
        rcases (show b = e ∨ b = it by simpa using hb) with z | z
        · rw [z]; exact hel
        · rw [z]; exact hil
      rw [upd_ne (Nat.ne_of_lt hb')]
      exact (hf b hb).1
  done := by
    intro X hP hw hK hc i pins s σ H E I hf st hg
    subst hP hw hK
    obtain ⟨⟨old, he⟩, hit, hne⟩ := st
    obtain ⟨xs, hq, hx⟩ := hg
    obtain ⟨its, rv, p, hz⟩ := I.tuple hq
    obtain ⟨f0, f1, f2, f3, f4, f5⟩ := hf it (by simp)
    have nai : a ≠ it := by
      obtain ⟨o, ho, hcl, _⟩ := id hit
      exact tup_ne p ho (by rw [hcl]; decide)
    have ez : its.toArray.size = i := by
      rw [List.size_toArray, ← rv.length, hx]
    refine PySem.wpAny_pyNext_enum_endD (Draws.tuple (A := X.A.in1) (I.ok.hd hc) it a nai its.toArray) he ?_ fun h' eb => ⟨rfl, I.turned (t' := s.toks) (fun b o hb q => eb b o hb q) f0 f1 f3 f4 f5⟩
    rw [ez]
    exact ⟨hit, p⟩
  self := fun A i s Q E st h => let ⟨⟨_, he⟩, _⟩ := st; wpAny_pyIter_enum he h
def iEnumT (K : PySem.W.Frag) (ta : TA) : TI := fun σ H R => ta σ H fun vs H1 => ∃ a xs, vs = [.ref a] ∧ SqT K H1 a xs ∧ R (Itet K a) H1
theorem pi_enumT {X : Cx} {e : Expr} {ta : TA} {p pos tpos : Pos} {elts : List Expr} {kk : Nat} (hg : Gl X "enumerate") (hm : X.mg "enumerate" = none) (ha : PA X [e] ta) (hs : starEach [e] X.env = [(false, eval e X.env)] := by rfl) :
    PI X (.Tuple elts kk tpos) (.Call (.Name "enumerate" p) [e] [] pos) (iEnumT X.K ta) := by
  refine ⟨fun pins s σ H R I h => Call_ (ld_blt I hg hm boot_enumerate (PyProof.Rows.callWith_type1 (thn (ha.run pos pins s σ H _ I h) fun us s1 ⟨vs, H1, I1, r1, q1⟩ => ?_) hs rfl))⟩
  obtain ⟨a, xs, rfl, hq, q⟩ := q1
  obtain rfl := Vals.ref1 r1
  obtain ⟨its, rv, p', hz⟩ := I1.tuple hq
  refine enum_call_tup p' fun h' he hit hsz hk => wpAny_pyIter_enum he ?_
  have I2 : Inv X pins σ H1 { s1 with heap := h' } := I1.kept (t' := s1.toks) hk
  refine ⟨s1.heap.objs.size + 1, [s1.heap.objs.size + 1, s1.heap.objs.size], _, _, H1, rfl, I2, turn_enumT a (s1.heap.objs.size + 1) s1.heap.objs.size, ⟨⟨.none, he⟩, hit, Nat.succ_ne_self _⟩, fun b hb => ?_, q⟩
  have hle : s1.heap.objs.size ≤ b := by
    rcases (show b = s1.heap.objs.size + 1 ∨ b = s1.heap.objs.size by simpa using hb) with z | z <;> rw [z]
    · exact Nat.le_succ _
    · exact Nat.le_refl _
  exact I1.fpOk hle (I1.hok.fresh hle)

theorem walk_enumT {K : PySem.W.Frag} {a : Addr} {xs : List V} : Walk (Itet K a) xs.length (fun H => SqT K H a xs) (YPair (fun i => some (.int (i : Nat))) (fun i => xs[i]?)) := by
  refine ⟨fun i _ hi q => ⟨xs, xs[i], q, List.getElem?_eq_getElem hi⟩, fun _ q => ⟨xs, q, rfl⟩, fun i H v H' _ q y => ?_⟩
  obtain ⟨T, x, e1, e2, e3, e4⟩ := y
  exact ⟨T, _, x, e1, e2, e3, rfl, e4 xs q⟩
end Kr
namespace Kr
open PySem PySem.Spec PyProof.Rows L2 HT
theorem adj_rev (n : Nat) : Builtin.Slice.sliceAdjust none none (-1) (n : Int) = ((n : Int) - 1, -1) := by
  unfold Builtin.Slice.sliceAdjust
  simp
theorem pla_rev (n : Nat) : Builtin.Slice.slicePlaces ((n : Int) - 1) (-1) (-1) = n := by
  unfold Builtin.Slice.slicePlaces
  simp
  omega
theorem pick_rev (xs : Array Value) : ((List.range xs.size).filterMap fun (m : Nat) => xs[(((xs.size : Nat) : Int) - 1 + (m : Int) * (-1)).toNat]?).toArray = xs.toList.reverse.toArray := by
  have e : (fun (m : Nat) => xs[(((xs.size : Nat) : Int) - 1 + (m : Int) * (-1)).toNat]?) = (fun k => xs[k]?) ∘ fun (m : Nat) => xs.size - 1 - m := by
    funext m
    show _ = xs[xs.size - 1 - m]?
    rw [show (((xs.size : Nat) : Int) - 1 + (m : Int) * (-1)).toNat = xs.size - 1 - m by omega]
  rw [e, ← List.filterMap_map, PySem.W.krv_range, List.filterMap_reverse, PySem.W.krv_all]
section
variable {prog : Program} {w : World} {A : Around} {E : Value → Shared → Prop} {s : Shared}
theorem applied_rev {sl : Addr} {vk : Value} {n : Nat} {Q : Int × Int × Nat → Shared → Prop} (hs : s.heap.IsSliceOf sl .none .none vk) (pk : IsPart vk (some (-1)))
    (h : Q ((n : Int) - 1, -1, n) s) : wpAny (model prog w) A (Builtin.Slice.sliceApplied (.ref sl) (pure (n : Int))) Q E s := by
  obtain ⟨os, hos, hcs, hds⟩ := id hs
  unfold Builtin.Slice.sliceApplied Builtin.Slice.sliceFields
  refine wpAny_bind (wpAny_bind (wpAny_field hos hds (x := .none) rfl (wpAny_bind (wpAny_field hos hds (x := .none) rfl (wpAny_bind (wpAny_field hos hds (x := vk) rfl (wpAny_pure ?_)))))))
  refine wpAny_bind (slicePart_ pk ?_)
  show wpAny _ _ (if ((-1 : Int) == 0) = true then _ else _) _ _ s
  rw [if_neg (by decide)]
  refine wpAny_bind (slicePart_none (wpAny_bind (slicePart_none (wpAny_bind (wpAny_pure ?_)))))
  show wpAny _ _ (match Builtin.Slice.sliceAdjust none none (-1) (n : Int) with | (lo, hi) => pure (lo, (-1 : Int), Builtin.Slice.slicePlaces lo hi (-1))) _ _ s
  rw [adj_rev n]
  show wpAny _ _ (pure ((n : Int) - 1, (-1 : Int), Builtin.Slice.slicePlaces ((n : Int) - 1) (-1) (-1))) _ _ s
  rw [pla_rev]
  exact wpAny_pure h
theorem tuple_rev {t sl : Addr} {items : Array Value} {vk : Value} {Q : Value → Shared → Prop} (ht : IsTup s.heap t items) (hs : s.heap.IsSliceOf sl .none .none vk) (pk : IsPart vk (some (-1)))
    (h : Q (.ref s.heap.objs.size) { s with heap := s.heap.push { cls := .type "tuple", data := .seq items.toList.reverse.toArray } })
    (hsz : items.size ≤ sizeLine) : wpAny (model prog w) A (getItem (.ref t) (.ref sl)) Q E s := by
  have hok : sizeOk (.seq items.toList.reverse.toArray) := by
    show items.toList.reverse.toArray.size ≤ sizeLine
    rw [List.size_toArray, List.length_reverse, Array.length_toList]
    exact hsz
  obtain ⟨os, hos, hcs, hds⟩ := id hs
  have hTs : s.TypeIs (.ref sl) "slice" := ⟨os, hos, hcs⟩
  unfold getItem
  try with_reducible refine wpAny_holding ?_
  first | refine wpAny_bind (wpAny_pure ?_) | skip
  refine wpAny_bind (wpAny_sequenceKey ht.typeIs (by decide) ?_)
  refine wpAny_bind (wpAny_callSpecial?_slot (name := Str.ofString "__getitem__") ht.typeIs PyProof.Rows.slot_tuple_getitem
    (wpAny_call_entry PyProof.Rows.slot_tuple_getitem ht.typeIs entry_tuple_getitem ?_ (args_tuple_getitem _ _)))
  show wpAny _ _ (Builtin.Tuple.tupleItemsOf (.ref t) >>= _) _ _ s
  refine wpAny_bind (tupleItemsOf_ ht (wpAny_bind (wpAny_typeOf hTs ?_)))
  rw [if_pos (by decide)]
  refine wpAny_bind (applied_rev hs pk ?_)
  have hno : ¬ (((((items.size : Nat) : Int) - 1) == 0 && (-1 : Int) == 1 && items.size == items.size) = true) := by
    rw [show ((-1 : Int) == 1) = false by decide, Bool.and_false, Bool.false_and]
    exact Bool.false_ne_true
  show wpAny _ _ (if ((((items.size : Nat) : Int) - 1) == 0 && (-1 : Int) == 1 && items.size == items.size) = true then _ else _) _ _ s
  rw [if_neg hno, pick_rev]
  first
    | exact wpAny_bind (wpAny_bind (m := Builtin.Tuple.tupleExact _) (wpAny_newObj_type (wpAny_pure ⟨_, rfl, wpAny_pure h⟩) hok))
    | exact wpAny_bind (m := Builtin.Tuple.tupleExact _) (wpAny_newObj_type (wpAny_pure ⟨_, rfl, wpAny_pure h⟩) hok)
    | exact wpAny_bind (m := Builtin.Tuple.tupleExact _) (wpAny_newObj_type (wpAny_bind (wpAny_pure (wpAny_pure ⟨_, rfl, wpAny_pure h⟩))) hok)
    | exact wpAny_bind (wpAny_bind (m := Builtin.Tuple.tupleExact _) (wpAny_newObj_type (wpAny_pure (wpAny_pure ⟨_, rfl, wpAny_pure h⟩)) hok))
end
section
variable {X : Cx}
/-- t[::-1] of a tuple -/
def tRevT (K : PySem.W.Frag) (te : TE) : TE := fun σ H Q => te σ H fun x H1 => ∃ a xs, x = .ref a ∧ SqT K H1 a xs ∧ ∀ p, H1 p = none → Q (.ref p) (upd H1 p (.tup xs.reverse))
theorem pe_revT {e : Expr} {te : TE} {k : Nat} {p1 p2 p3 pos : Pos} (he : PE X e te) : PE X (.Subscript e (.Slice none none (some (.UnaryOp .USub (.Constant (.int 1) k p1) p2)) p3) pos) (tRevT X.K te) := by
  refine ⟨fun pins s σ H Q I h => Subscript_ (thn (he.run pins s σ H _ I h) fun v s1 ⟨x, H1, I1, r1, q1⟩ => ?_)⟩
  obtain ⟨a, xs, rfl, hx, q⟩ := q1
  cases r1
  have hst : PO X (some (.UnaryOp .USub (.Constant (.int 1) k p1) p2)) (tPart (tUn (rU fun i => .int (-i)) (tC (.int 1)))) := po_some (pe_un un_neg pe_int)
  refine wpAny_Slice (thn (po_none.run pins s1 σ H1 (fun o H2 => o = none ∧ H2 = H1) I1 ⟨rfl, rfl⟩) fun vl s2 ⟨l, H2, I2, pl, el, e2⟩ => ?_)
  subst el e2
  refine thn (po_none.run pins s2 σ H2 (fun o H3 => o = none ∧ H3 = H2) I2 ⟨rfl, rfl⟩) fun vu s3 ⟨u, H3, I3, pu, eu, e3⟩ => ?_
  subst eu e3
  refine thn (hst.run pins s3 σ H3 (fun o H4 => o = some (-1) ∧ H4 = H3) I3 ⟨1, rfl, -1, rfl, rfl, rfl⟩) fun vs s4 ⟨o, H4, I4, ps, eo, e4⟩ => ?_
  subst eo e4
  cases pl
  cases pu
  have I5 : Inv X pins σ H4 { s4 with heap := s4.heap.push { cls := .type "slice", data := .fields #[.none, .none, vs] } } := I4.kept (t' := s4.toks) fun b ob q => Heap.get?_push_of_some _ q
  obtain ⟨its, r, ht, hz⟩ := I5.tuple hx
  have hlen := r.length
  show wpAny (model X.prog X.w) X.A (subscriptTail e (.Slice none none (some (.UnaryOp .USub (.Constant (.int 1) k p1) p2)) p3) (.ref a) (.ref s4.heap.objs.size)) (EP X pins σ Q) X.xe { s4 with heap := s4.heap.push { cls := .type "slice", data := .fields #[.none, .none, vs] } }
  refine tail_any (ops := [.ref a, .ref s4.heap.objs.size]) ht.typeIs (PyProof.Rows.slot_tuple_getitem.lookup) ?_ (by with_unfolding_all rfl)
  refine tuple_rev ht (Heap.IsSliceOf.new _ .none .none vs) ps ?_ (by rw [List.size_toArray]; omega)
  refine ⟨.ref _, _, I5.laid (t' := s4.toks) (o := .tup xs.reverse) (fun b ob q => Heap.get?_push_of_some _ q) (Nat.le_refl _) ?_, rfl, q _ (I5.hok.fresh (Nat.le_refl _))⟩
  exact ⟨by rw [List.length_reverse]; exact hz, _, r.reverse, IsTup.new _ _⟩
end
end Kr
namespace Kr
open PySem PySem.Spec PyProof.Rows L2
/-! ### data over the abstract heap: None, bools, ints, texts, lists, tuples, {} -/
mutual
inductive Dq (H : Hp) : V → PyData → Prop
  | non : Dq H .non .none
  | bl (b : Bool) : Dq H (.bl b) (.bool b)
  | int (i : Int) : Dq H (.int i) (.int i)
  | str (x : Str) : Dq H (.str x) (.str x)
  | lst {a : Addr} {xs : List V} {ds : List PyData} (e : H a = some (.lst xs)) (q : DqA H xs ds) : Dq H (.ref a) (.list ds)
  | tup {a : Addr} {xs : List V} {ds : List PyData} (e : H a = some (.tup xs)) (q : DqA H xs ds) : Dq H (.ref a) (.tuple ds)
  | dic {a : Addr} (e : H a = some (.dK [])) : Dq H (.ref a) (.dict [])
inductive DqA (H : Hp) : List V → List PyData → Prop
  | nil : DqA H [] []
  | cons {v : V} {vs : List V} {d : PyData} {ds : List PyData} (h : Dq H v d) (t : DqA H vs ds) : DqA H (v :: vs) (d :: ds)
end
mutual
theorem Dq.up {H H' : Hp} (s : Same H H') : ∀ {v : V} {d : PyData}, Dq H v d → Dq H' v d
  | _, _, .non => .non
  | _, _, .bl b => .bl b
  | _, _, .int i => .int i
  | _, _, .str x => .str x
  | _, _, .lst e q => .lst (s _ _ e) (DqA.up s q)
  | _, _, .tup e q => .tup (s _ _ e) (DqA.up s q)
  | _, _, .dic e => .dic (s _ _ e)
theorem DqA.up {H H' : Hp} (s : Same H H') : ∀ {vs : List V} {ds : List PyData}, DqA H vs ds → DqA H' vs ds
  | _, _, .nil => .nil
  | _, _, .cons h t => .cons (Dq.up s h) (DqA.up s t)
end
theorem DqA.len {H : Hp} : ∀ {vs : List V} {ds : List PyData}, DqA H vs ds → vs.length = ds.length
  | _, _, .nil => rfl
  | _, _, .cons _ t => by rw [List.length_cons, List.length_cons, DqA.len t]
theorem DqA.get {H : Hp} : ∀ {vs : List V} {ds : List PyData} {i : Nat} {v : V}, DqA H vs ds → vs[i]? = some v → ∃ d, ds[i]? = some d ∧ Dq H v d
  | _, _, _, _, .nil, e => by simp at e
  | _, _, 0, _, .cons h _, e => by
    simp at e
    subst e
    exact ⟨_, rfl, h⟩
  | _, _, i + 1, _, .cons _ t, e => by
    obtain ⟨d, h1, h2⟩ := DqA.get (i := i) t (by simpa using e)
    exact ⟨d, by simpa using h1, h2⟩
theorem DqA.app {H : Hp} : ∀ {vs us : List V} {ds es : List PyData}, DqA H vs ds → DqA H us es → DqA H (vs ++ us) (ds ++ es)
  | _, _, _, _, .nil, q => q
  | _, _, _, _, .cons h t, q => .cons h (DqA.app t q)
theorem DqA.take {H : Hp} : ∀ {vs : List V} {ds : List PyData} (n : Nat), DqA H vs ds → DqA H (vs.take n) (ds.take n)
  | _, _, 0, _ => .nil
  | _, _, _ + 1, .nil => .nil
  | _, _, n + 1, .cons h t => .cons h (DqA.take n t)
theorem DqA.drop {H : Hp} : ∀ {vs : List V} {ds : List PyData} (n : Nat), DqA H vs ds → DqA H (vs.drop n) (ds.drop n)
  | _, _, 0, q => q
  | _, _, _ + 1, .nil => .nil
  | _, _, n + 1, .cons _ t => DqA.drop n t
theorem DqA.set {H : Hp} {v : V} {d : PyData} (q : Dq H v d) : ∀ {vs : List V} {ds : List PyData} (i : Nat), DqA H vs ds → DqA H (vs.set i v) (ds.set i d)
  | _, _, _, .nil => .nil
  | _, _, 0, .cons _ t => .cons q t
  | _, _, i + 1, .cons h t => .cons h (DqA.set q i t)
theorem DqA.one {H : Hp} {v : V} {d : PyData} (q : Dq H v d) : DqA H [v] [d] := .cons q .nil
theorem DqA.rev {H : Hp} : ∀ {vs : List V} {ds : List PyData}, DqA H vs ds → DqA H vs.reverse ds.reverse
  | _, _, .nil => .nil
  | _, _, .cons h t => by
    rw [List.reverse_cons, List.reverse_cons]
    exact DqA.app (DqA.rev t) (.one h)
theorem DqA.ints {H : Hp} : ∀ ns : List Int, DqA H (ns.map V.int) (ns.map PyData.int)
  | [] => .nil
  | n :: r => .cons (.int n) (DqA.ints r)
theorem DqA.rep {H : Hp} {v : V} {d : PyData} (q : Dq H v d) : ∀ n : Nat, DqA H (List.replicate n v) (List.replicate n d)
  | 0 => .nil
  | n + 1 => .cons q (DqA.rep q n)
theorem Dq.tup_inv {H : Hp} {v : V} {ds : List PyData} (q : Dq H v (.tuple ds)) : ∃ a xs, v = .ref a ∧ H a = some (.tup xs) ∧ DqA H xs ds := by
  cases q with
  | tup e h => exact ⟨_, _, rfl, e, h⟩

/-! ### how long what is shown is -/
mutual
def big : PyData → Nat
  | .none | .bool _ => 5
  | .int i => (toString i : Str).length
  | .str x => (reprText x).length
  | .list xs | .tuple xs => bigA xs + 3
  | .dict _ => 2
def bigA : List PyData → Nat
  | [] => 0
  | x :: xs => big x + 2 + bigA xs
end

section
variable {X : Cx} {pins : List (Addr × Obj)} {σ : L2.St} {H : Hp} {s : Shared}
mutual
theorem Dq.reprs (I : Inv X pins σ H s) : ∀ (d : PyData) (v : V) (u : Value), Dq H v d → RelV v u → d.showable = true → d.shown.length ≤ sizeLine →
    ∃ as, Reads s.heap u d as ∧ ∃ bs, ReadAtMost s.heap d.depth bs ∧ ReprK X.prog X.w bs s.heap d.depth u d.shown
  | .none, _, _, h, r, _, _ => by
    cases h
    cases r
    exact ⟨_, .none, [], (fun _ h => nomatch h), by simp only [PyData.shown]; exact .of_is ReprIs.none _ _ _⟩
  | .bool b, _, _, h, r, _, _ => by
    cases h
    cases r
    exact ⟨_, .bool b, [], (fun _ h => nomatch h), by simp only [PyData.shown]; exact .of_is (ReprIs.bool b) _ _ _⟩
  | .int i, _, _, h, r, hs, _ => by
    cases h
    obtain ⟨t, rfl⟩ := r
    exact ⟨_, .int i t, [], (fun _ h => nomatch h), by simp only [PyData.shown]; exact .of_is (ReprIs.int t (by simpa [PyData.showable] using hs)) _ _ _⟩
  | .str x, _, _, h, r, _, hz => by
    cases h
    obtain ⟨t, rfl⟩ := r
    exact ⟨_, .str x t, [], (fun _ h => nomatch h), by simp only [PyData.shown]; exact .of_is (ReprIs.str x t (by simpa only [PyData.shown] using hz)) _ _ _⟩
  | .list ds, _, _, h, r, hs, hz => by
    cases h with
    | @lst a xs _ e ha =>
      cases r
      have hz' : (listText (PyData.shownAll ds)).length ≤ sizeLine := by simpa only [PyData.shown] using hz
      obtain ⟨its, rv, ⟨o, n, ho, hc, _, hd⟩, _⟩ := I.list (SqL.of (K := X.K) e)
      obtain ⟨as, hr, bs, hb, hk⟩ := DqA.reprs I ds _ its ha rv (by simpa [PyData.showable] using hs) fun t ht => Nat.le_trans (listText_mem_le ht) hz'
      have rd : Reads s.heap (.ref a) (.list ds) _ := .list ho hc hd hr
      have hna : a ∉ bs := not_mem_of_deeper rd (by simp only [PyData.depth]; omega) hb
      refine ⟨_, rd, a :: bs, ReadAtMost.cons rd (by simp only [PyData.depth]; omega) hb, ?_⟩
      simp only [PyData.depth, PyData.shown]
      cases its with
      | nil =>
        cases hr
        simp only [PyData.shownAll, listText_nil]
        exact ReprK.listEmpty ho hc hd
      | cons y l => exact ReprK.list ho hc hd hna (by simpa using hk.length_eq) (fun i y e => hk.item i y (by simpa using e))
  | .tuple ds, _, _, h, r, hs, hz => by
    cases h with
    | @tup a xs _ e ha =>
      cases r
      have hz' : (tupleText (PyData.shownAll ds)).length ≤ sizeLine := by simpa only [PyData.shown] using hz
      obtain ⟨its, rv, ⟨o, ho, hc, n, hd⟩, _⟩ := I.tuple (SqT.of (K := X.K) e)
      obtain ⟨as, hr, bs, hb, hk⟩ := DqA.reprs I ds _ its ha rv (by simpa [PyData.showable] using hs) fun t ht => Nat.le_trans (tupleText_mem_le ht) hz'
      have rd : Reads s.heap (.ref a) (.tuple ds) _ := .tuple ho hc hd hr
      have hna : a ∉ bs := not_mem_of_deeper rd (by simp only [PyData.depth]; omega) hb
      refine ⟨_, rd, a :: bs, ReadAtMost.cons rd (by simp only [PyData.depth]; omega) hb, ?_⟩
      simp only [PyData.depth, PyData.shown]
      exact ReprK.tuple ho hc hd hna (by simpa using hk)
  | .dict kv, _, _, h, r, _, _ => by
    cases h with
    | @dic a e =>
      cases r
      obtain ⟨_, hsys, vs, rel, o, es, ep, ho, hx, hd, _, hp, _⟩ := I.hok a _ e
      cases rel
      have hes : es = #[] := by
        obtain ⟨l⟩ := es
        have : l = [] := by
          cases l with
          | nil => rfl
          | cons y l => exact nomatch hp
        rw [this]
      subst hes
      have rd : Reads s.heap (.ref a) (.dict []) _ := .dict ho hx.1 hd .nil .nil
      refine ⟨_, rd, [a], ReadAtMost.cons rd (Nat.zero_le _) (fun _ h => nomatch h), ?_⟩
      have := ReprK.dict (prog := X.prog) (w := X.w) (as := []) (d := 0) ho hx.1 hd hsys (fun h => nomatch h) .nil
      simpa only [PyData.depth, PyData.depthKv, PyData.shown, PyData.shownKv] using this
theorem DqA.reprs (I : Inv X pins σ H s) : ∀ (ds : List PyData) (vs : List V) (us : List Value), DqA H vs ds → Vals vs us → PyData.showableAll ds = true → (∀ t ∈ PyData.shownAll ds, t.length ≤ sizeLine) →
    ∃ as, ReadsAll s.heap us ds as ∧ ∃ bs, ReadAtMost s.heap (PyData.depthAll ds) bs ∧ ReprAllK X.prog X.w bs s.heap (PyData.depthAll ds) us (PyData.shownAll ds)
  | [], _, _, h, r, _, _ => by
    cases h
    cases r
    exact ⟨_, .nil, [], (fun _ h => nomatch h), by simp only [PyData.shownAll]; exact .nil⟩
  | d :: ds, _, _, h, r, hs, hz => by
    cases h with
    | cons h1 h2 =>
      cases r with
      | cons r1 r2 =>
        have hs' : d.showable = true ∧ PyData.showableAll ds = true := by simpa [PyData.showableAll] using hs
        obtain ⟨as, q1, b1, hb1, k1⟩ := Dq.reprs I d _ _ h1 r1 hs'.1 (hz _ (by simp only [PyData.shownAll]; exact List.mem_cons_self ..))
        obtain ⟨cs, q2, b2, hb2, k2⟩ := DqA.reprs I ds _ _ h2 r2 hs'.2 (fun t ht => hz t (by simp only [PyData.shownAll]; exact List.mem_cons_of_mem _ ht))
        refine ⟨_, .cons q1 q2, b1 ++ b2, ?_, ?_⟩
        · simp only [PyData.depthAll]
          exact (hb1.mono (Nat.le_max_left _ _)).append (hb2.mono (Nat.le_max_right _ _))
        · simp only [PyData.depthAll, PyData.shownAll]
          exact .cons ((k1.more fun b hb => List.mem_append_left _ hb).level_le (Nat.le_max_left _ _)) (k2.more_le (fun b hb => List.mem_append_right _ hb) (Nat.le_max_right _ _))
end
end

/-- repr(x) of data, where no repr is under way -/
def rRepr : List V → Hp → VK → Prop := fun xs H Q => ∃ v d, xs = [v] ∧ Dq H v d ∧ d.showable = true ∧ d.depth ≤ 40 ∧ d.shown.length ≤ sizeLine ∧ Q (.str d.shown) H
theorem call_repr {X : Cx} (hg : X.A.guards = some []) (hu : X.A.units + 64 < cLine) : CallR X (.builtin "repr") rRepr := by
  intro pins s σ H xs us Q I r h
  obtain ⟨v, d, rfl, hd, hs, hdep, hz, q⟩ := h
  obtain ⟨u, rfl, r1⟩ : ∃ u, us = [u] ∧ RelV v u := by
    cases r with
    | cons a b =>
      cases b
      exact ⟨_, rfl, a⟩
  have fin : ∀ (h' : Heap) (t : Tok) (tk : Nat), (∀ b o, s.heap.get? b = some o → h'.get? b = some o) → EP X pins σ Q (.str d.shown t) { s with heap := h', toks := tk } :=
    fun h' t tk hk => ⟨.str d.shown, H, I.kept (t' := tk) hk, ⟨t, rfl⟩, q⟩
  cases hd with
  | non =>
    simp only [PyData.shown] at fin
    cases r1
    exact PySem.P.repr_of_none (fin s.heap _ _ fun _ _ e => e)
  | bl b =>
    simp only [PyData.shown] at fin
    cases r1
    have := PySem.P.repr_of_bool (prog := X.prog) (w := X.w) (A := X.A) (E := X.xe) (b := b) (s := s) (Q := EP X pins σ Q)
    refine this ?_
    have f := fin s.heap s.toks (s.toks + 1) fun _ _ e => e
    cases b <;> exact f
  | int i =>
    simp only [PyData.shown] at fin
    obtain ⟨t, rfl⟩ := r1
    exact PySem.P.repr_of_int (by simpa [PyData.showable] using hs) (fin s.heap _ _ fun _ _ e => e)
  | str x =>
    simp only [PyData.shown] at fin hz
    obtain ⟨t, rfl⟩ := r1
    exact PySem.P.repr_of_str (fin s.heap _ _ fun _ _ e => e) hz
  | @lst a xs ds e ha =>
    obtain rfl : u = Value.ref a := r1
    simp only [PyData.depth] at hdep
    have hz' : (listText (PyData.shownAll ds)).length ≤ sizeLine := by simpa only [PyData.shown] using hz
    simp only [PyData.shown] at fin
    obtain ⟨its, rv, ⟨o, n, ho, hc, _, hd⟩, _⟩ := I.list (SqL.of (K := X.K) e)
    obtain ⟨as, hr, bs, hb, hk⟩ := DqA.reprs I ds _ its ha rv (by simpa [PyData.showable] using hs) fun t ht => Nat.le_trans (listText_mem_le ht) hz'
    have rd : Reads s.heap (.ref a) (.list ds) _ := .list ho hc hd hr
    have hna : a ∉ bs := not_mem_of_deeper rd (by simp only [PyData.depth]; omega) hb
    refine call_repr_slot (by omega) ⟨o, ho, hc⟩ F.slot_list_repr.toG ?_
    cases its with
    | nil =>
      cases hr
      have e0 : listText (PyData.shownAll []) = ("[]" : Str) := by simp only [PyData.shownAll, listText_nil]
      rw [e0] at fin
      exact call_list_repr_empty ⟨o, ho, hc⟩ ho hd ⟨_, _, rfl, fin s.heap _ _ fun _ _ e => e⟩
    | cons y l =>
      exact call_list_reprK ho hc hd hna (by simpa using hk.length_eq) (fun i y e => hk.item i y (by simpa using e)) hg (fun b _ => Clear.nil b) (by show X.A.units + 1 + _ < cLine; omega) (fun _ _ e => e) (fun h' t tk hk => ⟨_, _, rfl, fin h' t tk hk⟩) hz'
  | @tup a xs ds e ha =>
    obtain rfl : u = Value.ref a := r1
    simp only [PyData.depth] at hdep
    have hz' : (tupleText (PyData.shownAll ds)).length ≤ sizeLine := by simpa only [PyData.shown] using hz
    simp only [PyData.shown] at fin
    obtain ⟨its, rv, ⟨o, ho, hc, n, hd⟩, _⟩ := I.tuple (SqT.of (K := X.K) e)
    obtain ⟨as, hr, bs, hb, hk⟩ := DqA.reprs I ds _ its ha rv (by simpa [PyData.showable] using hs) fun t ht => Nat.le_trans (tupleText_mem_le ht) hz'
    have rd : Reads s.heap (.ref a) (.tuple ds) _ := .tuple ho hc hd hr
    have hna : a ∉ bs := not_mem_of_deeper rd (by simp only [PyData.depth]; omega) hb
    refine call_repr_slot (by omega) ⟨o, ho, hc⟩ F.slot_tuple_repr ?_
    exact call_tuple_reprK ho hc hd hna (by simpa using hk) hg (fun b _ => Clear.nil b) (by show X.A.units + 1 + _ < cLine; omega) (fun _ _ e => e) (fun h' t tk hk => ⟨_, _, rfl, fin h' t tk hk⟩) hz'
  | @dic a e =>
    obtain rfl : u = Value.ref a := r1
    obtain ⟨_, hsys, vs, rel, o, es, ep, ho, hx, hd, _, hp, _⟩ := I.hok a _ e
    cases rel
    have hes : es = #[] := by
      obtain ⟨l⟩ := es
      have : l = [] := by
        cases l with
        | nil => rfl
        | cons y l => exact nomatch hp
      rw [this]
    subst hes
    simp only [PyData.shown, PyData.shownKv] at fin hz
    refine call_repr_slot (by omega) ⟨o, ho, hx.1⟩ F.slot_dict_repr ?_
    exact call_dict_reprK (as := []) (d := 0) ho hx.1 hd hsys (fun h => nomatch h) .nil hg (fun b _ => Clear.nil b) (by show X.A.units + 1 + _ < cLine; omega) (fun _ _ e => e) (fun h' t tk hk => ⟨_, _, rfl, fin h' t tk hk⟩) hz
end Kr
namespace Kr
open PySem PySem.Spec PyProof.Rows L2
/-! ### defs that are called where no repr is under way -/
structure FnG (P : Program) (w : World) (K : PySem.W.Frag) (mg : Str → Option Value) (base : Heap) (CX : CXT) (k : Nat) (f : Addr) (fd : FuncData) (ps : List Str) (sp : Sp) : Prop where
  len : ∀ vs H Q E, sp vs H Q E → vs.length = ps.length
  run : ∀ (A : Around) (outer : List Env) (s : Shared) (H : Hp) (args : Args) (us : List Value) (vs : List V) (Q : VK) (E : XK), A.guards = some [] → Room k A → Env0 P w K mg base A outer s H → BindsTo s fd args (ps.zip us) → Vals vs us → sp vs H Q E →
    codeAny (model P w) A (.call (.ref f) args) (CR CX outer P w H s Q E) s
section
variable {P : Program} {w : World} {K : PySem.W.Frag} {mg : Str → Option Value} {base : Heap} {CX : CXT}
theorem FnG.mono {j k : Nat} {f : Addr} {fd : FuncData} {ps : List Str} {sp : Sp} (F : FnG P w K mg base CX j f fd ps sp) (h : j ≤ k) : FnG P w K mg base CX k f fd ps sp :=
  ⟨F.len, fun A outer s H args us vs Q E hg hr => F.run A outer s H args us vs Q E hg (hr.mono h)⟩
/-- by the body, as Fun.ok; the body is told that no repr is under way -/
theorem okG {x qual : Str} {st : Stmt} {f : Addr} {fd : FuncData} {N ps : List Str} {k : Nat} {sp : Sp} (F : Fun K x qual st f fd) (S : FnScope N ps (defScope st)) (len : ∀ vs H Q E, sp vs H Q E → vs.length = ps.length)
    (hbody : ∀ (cdv : Value) (A : Around) (outer : List Env) (s : Shared) (H : Hp) (vs : List V) (Q : VK) (E : XK), (A.deeper (envOfC qual (defScope st) s.heap.objs.size f cdv)).guards = some [] → Room k (A.deeper (envOfC qual (defScope st) s.heap.objs.size f cdv)) → sp vs H Q E →
      ∃ t, PSs (cxOf CX0 P w K mg base N qual (defScope st) f cdv A outer s H E).nox (defBody st) t ∧ t { nx := fun _ H' => Q .non H', rt := Q } (start N vs) H) : FnG P w K mg base CX0 (k + 1) f fd ps sp := by
  obtain ⟨oc, od, kV, doc, pm, an, cdv, ct, osl, rfl, lk, hcd⟩ := F.ex
  refine ⟨len, fun A outer s H args us vs Q E hg hr e0 hb r hsp => ?_⟩
  have KX : K.In s.heap := e0.mod.kin.keeps fun b o e => (e0.bs b o e).1
  have lim : s.heap.NoLimit := e0.mod.nolimit.keeps fun b o e => (e0.bs b o e).1
  refine codeAny_call_function hr.depth (KX _ _ lk) rfl S.co S.gen rfl (PySem.W.codeRec_of KX hcd) (hb _ _ _ _ ?_)
  have kinds : ∀ y ∈ ps.zip us, (defScope st).names.lookup y.1 = some .local ∨ ((defScope st).names.lookup y.1 = some .cell ∧ ((cellsFrom (s.heap.objs.size + 1) (defScope st).names []).lookup y.1).isSome = true) := by
    rintro ⟨n, v⟩ hy
    rcases S.par n (List.of_mem_zip hy).1 with q | q
    · exact .inl q
    · exact .inr ⟨q, PySem.W.cellsFrom_some _ _ _ (.inl q)⟩
  refine wpAny_newFunctionEnv_cells S.kind kinds fun env he s1 x => ?_
  subst he
  refine ⟨lim.keeps x.toInCall.keep, codeAny_func ?_⟩
  obtain ⟨t, ht, hq⟩ := hbody cdv A outer s H vs Q E (by first | exact hg | simpa [Around.deeper] using hg) (hr.deeper _) hsp
  have I : Inv (cxOf CX0 P w K mg base N qual (defScope st) f cdv A outer s H E) [] (start N vs) H s1 := inv_start S hr.hd e0 (len _ _ _ _ hsp) r x
  refine wpAny_mono (ht.nox.run [] s1 (start N vs) H _ I hq) (fun fl s' hs => ?_) fun e s' hs => hs
  cases fl with
  | ret u =>
    obtain ⟨v, σ', H', J, rv, q⟩ := hs
    exact ⟨v, H', J.os, J.bare, J.base, J.hok, rv, q⟩
  | next =>
    obtain ⟨σ', H', J, q⟩ := hs
    exact ⟨.non, H', J.os, J.bare, J.base, J.hok, rfl, q⟩
  | brk => exact hs.elim fun _ h => h.elim fun _ h => h.2.elim
  | cont => exact hs.elim fun _ h => h.elim fun _ h => h.2.elim
end
section
variable {X : Cx} {CX : CXT} {k : Nat} {f : Addr} {fd : FuncData} {ps : List Str} {sp : Sp} {dvs : List V} {ds : List Value} {E : XK} {x : Str} {p pos : Pos} {e : Expr} {es : List Expr} {t : TA}
/-- such a def's call, from a body of the same kind -/
theorem pe_callG (F : FnG X.prog X.w X.K X.mg X.base CX k f fd ps sp) (gd : X.A.guards = some []) (hr : Room k X.A) (hg : Gl X x) (hm : X.mg x = some (.ref f)) (hk : PySem.W.keepIn X.K (.ref f) = true) (hb : Binds X.K fd ps ds) (hd : Vals dvs ds) (hx : Passes CX X E)
    (ha : PA X (e :: es) t) (hdb : (x == ("__debug__" : Str)) = false := by decide) (he : starEach (e :: es) X.env = (false, eval e X.env) :: starEach es X.env := by rfl) (hpl : (backTo pos (starEach es X.env)).any (·.1) = false := by rfl) :
    PE X (.Call (.Name x p) (e :: es) [] pos) (tCall sp dvs E t) := by
  refine ⟨fun pins s σ H Q I h => wpAny_Call_Name_kw (ld_glob I hg hm ?_ hdb)⟩
  refine PySem.W.callWith_K (h₀ := X.base) I.ok.mod.kin hk (thn (ha.run pos pins s σ H _ I h) fun us s1 ⟨vs, H1, I1, r, q⟩ => ⟨I1.kIn, ?_⟩) he hpl
  have r2 : Vals (vs ++ dvs) (us ++ ds) := r.append hd
  have hl : (us ++ ds).length = ps.length := r2.length.symm.trans (F.len _ _ _ _ q)
  refine wpAny_call (codeAny_mono (F.run X.A X.stack s1 H1 ⟨us, []⟩ (us ++ ds) (vs ++ dvs) Q E gd hr I1.env0 (hb s1 us I1.kIn hl) r2 q) fun r s' hq => ?_)
  cases r with
  | error e => exact hx pins σ H1 s1 e s' I1 hq
  | ok fl =>
    cases fl with
    | ret u => exact I1.after hq
    | next => exact hq.elim
    | brk => exact hq.elim
    | cont => exact hq.elim
end

/-! ### the head: the law is called where nothing is under way -/
theorem law_callG {P : Program} {w : World} {K : PySem.W.Frag} {mg mb : Str → Option Value} {k : Nat} {fa a : Addr} {fd : FuncData} {x : Str} {sp : Sp} {s₁ : Shared} {vs : List Value} {ns : List Int}
    (KX : K.In s₁.heap) (hns : s₁.heap.Ns mainGlobals mg) (hb : s₁.heap.Ns builtinsNs mb) (hbb : ∀ x : Str, x ≠ "__name__" → mb x = bootBuiltins x) (hlim : s₁.heap.NoLimit) (hg : s₁.gens = #[])
    (ha : s₁.heap.get? a = some { cls := .type "list", data := .seq vs.toArray }) (hi : IntsAre vs ns) (hl : ns.length ≤ sizeLine) (hr : Room k callerA)
    (F : ∀ base : Heap, K.In base → base.Ns mainGlobals mg → FnG P w K mg base CX0 k fa fd [x] sp) (hbind : ∀ (s : Shared) (u : Value), BindsTo s fd ⟨[u], []⟩ [(x, u)])
    (hsp : ∀ H : Hp, Only H → SqL K H a (ns.map V.int) → sp [.ref a] H (fun v _ => v = .bl true) fun _ _ _ => False) :
    codeAny (model P w) callerA (.call (.ref fa) ⟨[.ref a], []⟩) (fun r s' => r = .ok (.ret (.bool true)) ∧ OldK s₁.heap s'.heap ∧ s'.os = s₁.os ∧ AllBare s'.gens) s₁ := by
  have rv := vals_ints hi
  have lenV := hi.length
  have step : ∀ H : Hp, Only H → SqL K H a (ns.map V.int) → HOk P w H s₁.heap → (∀ b, H b ≠ none → b = a) → (H a ≠ none → K.lookup a = none) →
      codeAny (model P w) callerA (.call (.ref fa) ⟨[.ref a], []⟩) (fun r s' => r = .ok (.ret (.bool true)) ∧ OldK s₁.heap s'.heap ∧ s'.os = s₁.os ∧ AllBare s'.gens) s₁ := by
    intro H hO hS hok only hK
    have free : ∀ {b : Addr} {o : Obj}, s₁.heap.get? b = some o → (b = a → H b = none) → (hidT s₁.heap H).get? b = some o := fun {b o} e n => hidT_get e (by
      cases q : H b with
      | none => rfl
      | some u => rw [n (only b (by rw [q]; simp))] at q; cases q)
    have ns2 : ∀ {b : Addr} {m : Str → Option Value}, s₁.heap.Ns b m → (hidT s₁.heap H).Ns b m := by
      rintro b m ⟨o, es, ep, e, d, r⟩
      refine ⟨o, es, ep, free e fun z => ?_, d, r⟩
      subst z
      rw [ha] at e
      cases e
      cases (show Data.seq vs.toArray _ = Data.dict es ep from d)
    have kin : K.In (hidT s₁.heap H) := fun b o e => free (KX b o e) fun z => by
      subst z
      cases q : H b with
      | none => rfl
      | some u => rw [hK (by rw [q]; simp)] at e; cases e
    have md : Mod K mg (hidT s₁.heap H) := ⟨kin, ns2 hns, ⟨mb, ns2 hb, hbb⟩, hlim.elim fun mc h => ⟨mc, ns2 h.1, h.2⟩⟩
    have e0 : Env0 P w K mg (hidT s₁.heap H) callerA [] s₁ H :=
      ⟨rfl, md, fun b o e => of_hidT e, Nat.le_of_eq (hidT_size _ _), trivial, fun b hb => absurd (show b ∈ ([] : List Addr) from hb) (by simp), hok, .of_eq hg⟩
    refine codeAny_mono ((F _ kin (ns2 hns)).run callerA [] s₁ H ⟨[.ref a], []⟩ [.ref a] [.ref a] _ _ rfl hr e0 (hbind s₁ (.ref a)) (.cons rfl .nil) (hsp H hO hS)) fun r s' h => ?_
    cases r with
    | error e => exact h.elim
    | ok fl =>
      cases fl with
      | next => exact h.elim
      | brk => exact h.elim
      | cont => exact h.elim
      | ret u =>
        obtain ⟨v, H', os, bare, un, hok', r', q⟩ := h
        obtain rfl : v = .bl true := q
        obtain rfl : u = Value.bool true := r'
        refine ⟨rfl, OldK.of_keep fun b o e => ?_, os, bare⟩
        rcases hO b with z | ⟨ob, xs, z⟩
        · exact un.keep b o e z (fun q => absurd (show b ∈ ([] : List Addr) from q) (by simp)) (by simp)
        · have e1 := (hok b _ z).1
          have e2 := (hok' b _ (un.frzs b ob _ z)).1
          rw [e] at e1
          cases e1
          exact e2
  cases hk : K.lookup a with
  | some o =>
    have e := KX a o hk
    rw [ha] at e
    cases e
    exact step (fun _ => none) (fun _ => .inl rfl) (.inr ⟨_, vs.toArray, _, hk, rfl, rfl, rfl, by rw [List.size_toArray, lenV]; exact hl, by simpa using rv⟩) (fun b u z => nomatch (show (none : Option HO) = some u from z)) (fun b z => absurd rfl z) fun z => absurd rfl z
  | none =>
    refine step (fun b => if b = a then some (.frz { cls := .type "list", data := .seq vs.toArray } (.lst (ns.map V.int))) else none) (fun b => ?_) (.inl (.inr ⟨_, if_pos rfl⟩)) (fun b u z => ?_) (fun b z => ?_) fun _ => hk
    · by_cases q : b = a
      · exact .inr ⟨_, _, if_pos q⟩
      · exact .inl (if_neg q)
    · by_cases q : b = a
      · cases (if_pos q).symm.trans z
        subst q
        exact ⟨ha, by rw [List.length_map]; exact hl, vs, _, rv, ha⟩
      · cases (if_neg q).symm.trans z
    · by_cases q : b = a
      · exact q
      · exact absurd (if_neg q) z
theorem walkG {l : PySem.W.OpenLaw} {n k : Nat} {q : Program} {loose : List Str} {XP : (Str → Option Value) → Heap → Prop} {YP : World → Heap → Prop} {d : DefRec} {K : Params → PySem.W.Frag} {sp : PySem.W.Frag → Sp} {x : Str}
    (hn : l.most = some n) (hn2 : n ≤ sizeLine) (hdf : d.params.defaults = []) (hr : Room k callerA) (hY : ∀ (w : World) (h : Heap), YP w h → (K w.params).In h)
    (F : ∀ (w : World) (mg : Str → Option Value) (fa : Addr) (h : Heap), (K w.params).In h → h.Ns mainGlobals mg → mg d.name = some (.ref fa) →
      ∃ fd : FuncData, (∀ (s : Shared) (u : Value), BindsTo s fd ⟨[u], []⟩ [(x, u)]) ∧ ∀ base : Heap, (K w.params).In base → base.Ns mainGlobals mg → FnG l.prog w (K w.params) mg base CX0 k fa fd [x] (sp (K w.params)))
    (hsp : ∀ (K : PySem.W.Frag) (H : Hp) (a : Addr) (ns : List Int), ns.length ≤ n → Only H → SqL K H a (ns.map V.int) → sp K [.ref a] H (fun v _ => v = .bl true) fun _ _ _ => False) :
    PySem.W.WalkO q loose XP YP l.row.toRowW d [] (fun f vs => PySem.call f vs) := by
  refine Att.attach_call hn hdf fun w s₀ s₁ mg mb fa o pm cd doc a vs ns G Y ho hd hcd hmg hobj hints hlen hg => ?_
  obtain ⟨fd, hb, hF⟩ := F w mg fa _ (hY w _ Y) G.T.g hmg
  exact law_callG (hY w _ Y) G.T.g G.T.b G.T.builtins G.T.nolimit hg hobj hints (Nat.le_trans hlen hn2) hr hF hb fun H hO hS => hsp _ H a ns hlen hO hS
end Kr
namespace Kr
open PySem PySem.Spec PyProof.Rows L2
/-- f(k = v, ..), names alone: how they bind -/
theorem kbn_of {K : PySem.W.Frag} {x qual : Str} {st : Stmt} {f : Addr} {fd : FuncData} {ps ks : List Str} (F : Fun K x qual st f fd) (g : {α : Type} → List α → List α)
    (hrel : ∀ {zs : List V} {ws : List Value}, Vals zs ws → Vals (g zs) (g ws))
    (h : ∀ (kV doc pm : Value) (an : Option Addr) (cdv ct : Value) (ws : List Value), ws.length = ks.length → bindArgs (PySem.W.fnOf x qual (defArgs st) (defBody st) (defScope st) .none kV doc pm an cdv ct) ⟨[], ks.zip ws⟩ = pure (ps.zip (g ws))) :
    KBn K fd ps 0 ks (fun _ ws => g ws) (fun _ zs => g zs) := by
  obtain ⟨oc, od, kV, doc, pm, an, cdv, ct, osl, rfl, lk, hcd⟩ := F.ex
  refine ⟨fun s us ws _ hu hw => ?_, fun _ r => hrel r⟩
  obtain rfl : us = [] := List.length_eq_zero_iff.mp hu
  exact .of_eq (h kV doc pm an cdv ct ws hw)
theorem vals_swap {zs : List V} {ws : List Value} (r : Vals zs ws) : Vals zs.reverse ws.reverse := r.reverse
section
variable {X : Cx} {CX : CXT} {k : Nat} {f : Addr} {fd : FuncData} {ps ks : List Str} {sp : Sp} {E : XK} {x : Str} {p pos : Pos} {kws : List Keyword} {tk : TA} {g : List Value → List Value → List Value} {gV : List V → List V → List V}
def tCallN (m : Nat) (sp : Sp) (gV : List V → List V → List V) (E : XK) (tk : TA) : TE := fun σ H Q => tk σ H fun zs H1 => zs.length = m ∧ sp (gV [] zs) H1 Q E
theorem pe_callN (F : FnOk X.prog X.w X.K X.mg X.base CX k f fd ps sp) (hr : Room k X.A) (hg : Gl X x) (hm : X.mg x = some (.ref f)) (hk : PySem.W.keepIn X.K (.ref f) = true) (hb : KBn X.K fd ps 0 ks g gV) (hx : Passes CX X E) (hkw : PK X kws tk)
    (hall : (backToKw pos (keywordEach kws X.env)).all (·.1.isSome) = true := by rfl) (hks : (backToKw pos (keywordEach kws X.env)).filterMap (·.1) = ks := by rfl) (hdb : (x == ("__debug__" : Str)) = false := by decide)
    (hpl : ((backTo pos (starEach [] X.env)).any (·.1) || (backToKw pos (keywordEach kws X.env)).any (·.1.isNone)) = false := by rfl) :
    PE X (.Call (.Name x p) [] kws pos) (tCallN ks.length sp gV E tk) := by
  refine ⟨fun pins s σ H Q I h => wpAny_Call_Name_kw (ld_glob I hg hm ?_ hdb)⟩
  refine PySem.W.callWith_KW0 (h₀ := X.base) I.ok.mod.kin hk hall ?_ hpl
  refine thn (hkw.run pos pins s σ H _ I h) fun ws s2 ⟨zs, H2, I2, rz, l2, q2⟩ => ⟨I2.kIn, ?_⟩
  rw [hks]
  have r2 := hb.rel .nil rz
  refine wpAny_call (codeAny_mono (F.run X.A X.stack s2 H2 ⟨[], ks.zip ws⟩ (g [] ws) (gV [] zs) _ E hr I2.env0 (hb.to s2 [] ws I2.kIn rfl (rz.length.symm.trans l2)) r2 q2) fun r s' hq => ?_)
  cases r with
  | error e => exact hx pins σ _ _ e s' I2 hq
  | ok fl =>
    cases fl with
    | ret u => exact I2.after hq
    | next => exact hq.elim
    | brk => exact hq.elim
    | cont => exact hq.elim
end
end Kr
namespace Kr
open PySem L2
def top (i : Nat) : Stmt := PySem.Challenge.pw_keyriders_k06_what_are_programs.main.body.getD i (.Pass ⟨0, 0, 0, 0⟩)
abbrev sBetween : Stmt := top 4
abbrev sTupleOf : Stmt := top 5
abbrev sLotError : Stmt := top 7
abbrev sDeedError : Stmt := top 9
abbrev sProgramError : Stmt := top 12
abbrev sTermError : Stmt := top 13
abbrev sHasTermForm : Stmt := top 14
abbrev sRowError : Stmt := top 15
abbrev sDeck : Stmt := top 17
abbrev sDraw : Stmt := top 18
abbrev sPick : Stmt := top 19
abbrev sMixed : Stmt := top 20
abbrev sDeed : Stmt := top 21
abbrev sLTerm : Stmt := top 22
abbrev sLItems : Stmt := top 23
abbrev sLProgram : Stmt := top 24
abbrev sLIsWhole : Stmt := top 25
abbrev sLIsDeed : Stmt := top 26
abbrev sLFault : Stmt := top 27
abbrev sLProgramDue : Stmt := top 28
abbrev sLNested : Stmt := top 29
abbrev sLNearDeed : Stmt := top 30
abbrev sLBad : Stmt := top 31
abbrev sLSpoilt : Stmt := top 32
abbrev sLEdge : Stmt := top 33
abbrev sLaw : Stmt := top 34
end Kr
namespace Kr
open PySem PySem.Spec PyProof.Rows L2
/-- the names of the built-ins are theirs -/
structure Bi (mg : Str → Option Value) : Prop where
  len : mg "len" = none
  abs : mg "abs" = none
  int : mg "int" = none
  bool : mg "bool" = none
  tuple : mg "tuple" = none
  list : mg "list" = none
  range : mg "range" = none
  zip : mg "zip" = none
  repr : mg "repr" = none
  enumerate : mg "enumerate" = none
  isinstance : mg "isinstance" = none
  all : mg "all" = none
  sorted : mg "sorted" = none
  set : mg "set" = none
  sum : mg "sum" = none
  min : mg "min" = none
  max : mg "max" = none
  any : mg "any" = none
  str : mg "str" = none
theorem sz {n : Nat} (h : n ≤ 100000) : n ≤ sizeLine := Nat.le_trans h (by decide)
theorem szl {n : Nat} (h : n < 100000) : n < sizeLine := Nat.lt_of_lt_of_le h (by decide)
/-- two ways that meet again -/
theorem join2 {c A : Prop} [Decidable c] {G R : Hp → Prop} {H2 : Hp} (tail : ∀ H3, R H3 → G H3) (h2 : ¬ c → R H2) (h1 : c → (∀ H3, R H3 → G H3) → A) : if c then A else G H2 :=
  ite2 (fun h => h1 h tail) fun h => tail _ (h2 h)
theorem same_new {H : Hp} {q : Addr} {o : HO} (h : H q = none) : Same H (upd H q o) := fun b x e => by
  rw [upd_ne (ne_of_none e h)]
  exact e
structure Df (K : PySem.W.Frag) (mg : Str → Option Value) (x : Str) (st : Stmt) (ps : List Str) : Prop where
  ex : ∃ f fd, Fun K x x st f fd ∧ Binds K fd ps [] ∧ mg x = some (.ref f)
structure Ok (P : Program) (w : World) (K : PySem.W.Frag) (mg : Str → Option Value) (base : Heap) (k : Nat) (x : Str) (ps : List Str) (sp : Sp) : Prop where
  ex : ∃ f fd, FnOk P w K mg base CX0 k f fd ps sp ∧ PySem.W.keepIn K (.ref f) = true ∧ mg x = some (.ref f) ∧ Binds K fd ps []
section
variable {P : Program} {w : World} {K : PySem.W.Frag} {mg : Str → Option Value} {base : Heap}
theorem Df.ok {x : Str} {st : Stmt} {ps : List Str} {k : Nat} {sp : Sp} (D : Df K mg x st ps) (h : ∀ f fd, Fun K x x st f fd → FnOk P w K mg base CX0 k f fd ps sp) : Ok P w K mg base k x ps sp := by
  obtain ⟨f, fd, F, b, g⟩ := D.ex
  exact ⟨f, fd, h f fd F, F.kp, g, b⟩
theorem Ok.mono {x : Str} {ps : List Str} {j k : Nat} {sp : Sp} (D : Ok P w K mg base j x ps sp) (h : j ≤ k) : Ok P w K mg base k x ps sp := by
  obtain ⟨f, fd, F, r⟩ := D.ex
  exact ⟨f, fd, F.mono h, r⟩
end
theorem pe_fn {X : Cx} {k : Nat} {x : Str} {ps : List Str} {sp : Sp} {p pos : Pos} {e : Expr} {es : List Expr} {t : TA} (D : Ok X.prog X.w X.K X.mg X.base k x ps sp) (hr : Room k X.A) (hg : Gl X x) (ha : PA X (e :: es) t)
    (hdb : (x == ("__debug__" : Str)) = false := by decide) (he : starEach (e :: es) X.env = (false, eval e X.env) :: starEach es X.env := by rfl) (hpl : (backTo pos (starEach es X.env)).any (·.1) = false := by rfl) :
    PE X (.Call (.Name x p) (e :: es) [] pos) (tCall sp [] E0 t) := by
  obtain ⟨f, fd, F, kp, g, b⟩ := D.ex
  exact pe_call F hr hg g kp b .nil pass0 ha hdb he hpl
theorem atI_int {α : Type} {xs : List α} {r : Int} {v : α} (h0 : 0 ≤ r) (h : xs[r.toNat]? = some v) : atI xs r = some v := by
  have e : r = ((r.toNat : Nat) : Int) := by omega
  rw [e]
  exact atI_nat h
end Kr
namespace Kr
open PySem PySem.Spec PyProof.Rows L2
/-! ### the deck: a dict of a list and a number, apart from all else -/
def hid (p l : Addr) (H : Hp) : Hp := fun b => if b = p ∨ b = l then none else H b
theorem hid_ne {p l b : Addr} {H : Hp} (h1 : b ≠ p) (h2 : b ≠ l) : hid p l H b = H b := by
  unfold hid
  rw [if_neg (fun h => h.elim h1 h2)]
theorem hid_some {p l b : Addr} {H : Hp} {o : HO} (h : hid p l H b = some o) : b ≠ p ∧ b ≠ l ∧ H b = some o := by
  unfold hid at h
  by_cases e : b = p ∨ b = l
  · rw [if_pos e] at h
    cases h
  · rw [if_neg e] at h
    exact ⟨fun z => e (.inl z), fun z => e (.inr z), h⟩
theorem hid_same (p l : Addr) (H : Hp) : Same (hid p l H) H := fun _ _ h => (hid_some h).2.2
abbrev Ext (p l : Addr) (H H' : Hp) : Prop := Same (hid p l H) (hid p l H')
theorem Ext.of {p l : Addr} {H H' : Hp} (s : Same H H') : Ext p l H H' := fun b o h => by
  obtain ⟨h1, h2, h3⟩ := hid_some h
  rw [hid_ne h1 h2]
  exact s _ _ h3
theorem Ext.rfl {p l : Addr} {H : Hp} : Ext p l H H := Same.refl _
abbrev kD : Key := Sum.inr ("deep" : Str)
abbrev kS : Key := Sum.inr ("state" : Str)
theorem kDS : ¬ kD = kS := by
  intro z
  exact absurd (Sum.inr.inj z) (by decide +kernel)
def dkv (x y : V) : List (Key × V) := [(kD, x), (kS, y)]
theorem dkv_d (x y : V) : valV (dkv x y) kD = some x := valV_pos rfl
theorem dkv_s (x y : V) : valV (dkv x y) kS = some y := (valV_neg kDS).trans (valV_pos rfl)
theorem kds : ¬ ("deep" : Str) = "state" := by decide +kernel
theorem ksd : ¬ ("state" : Str) = "deep" := by decide +kernel
theorem dkv_pd (x y z : V) : putK (dkv x y) kD z = dkv z y := by
  simp [putK, dkv, kds, ksd]
theorem dkv_ps (x y z : V) : putK (dkv x y) kS z = dkv x z := by
  simp [putK, dkv, kds, ksd]
theorem dkv_m (x y : V) : mergeK [] [(kD, x), (kS, y)] = dkv x y := by
  simp [mergeK, putK, dkv, kds, ksd]
structure Deck (H : Hp) (p l : Addr) : Prop where
  ex : ∃ (ds : List Int) (st : Int), H p = some (.dK (dkv (.ref l) (.int st))) ∧ H l = some (.lst (ds.map V.int)) ∧ ds.length ≤ 63
theorem Deck.ne {H : Hp} {p l : Addr} (d : Deck H p l) : p ≠ l := by
  obtain ⟨ds, st, h1, h2, _⟩ := d.ex
  exact ne_of h1 h2 (by intro z; cases z)
theorem Deck.up {H H' : Hp} {p l : Addr} (d : Deck H p l) (s : Same H H') : Deck H' p l := by
  obtain ⟨ds, st, h1, h2, h3⟩ := d.ex
  exact ⟨ds, st, s _ _ h1, s _ _ h2, h3⟩
/-- a new object stands apart -/
theorem Deck.new {H : Hp} {p l q : Addr} (d : Deck H p l) (h : H q = none) : q ≠ p ∧ q ≠ l := by
  obtain ⟨ds, st, h1, h2, h3⟩ := d.ex
  exact ⟨(ne_of_none h1 h).symm, (ne_of_none h2 h).symm⟩
theorem hid_upd {H : Hp} {p l q : Addr} {o : HO} (h1 : q ≠ p) (h2 : q ≠ l) : hid p l (upd H q o) q = some o := by
  rw [hid_ne h1 h2, upd_same]
def spDeck (K : PySem.W.Frag) : Sp := fun vs H Q _ => ∃ (a : Addr) (ns : List Int), vs = [.ref a] ∧ SqL K H a (ns.map V.int) ∧ ns.length ≤ 64 ∧ ∀ H' p l, Same H H' → H p = none → H l = none → Deck H' p l → Q (.ref p) H'
section
variable {P : Program} {w : World} {K : PySem.W.Frag} {mg : Str → Option Value} {base : Heap}
theorem scDeck : FnScope ["script", "deck", "cell", "whole", "state"] ["script"] (defScope sDeck) := ⟨rfl, rfl, rfl, by decide +kernel, rfl, by decide +kernel, by decide +kernel⟩
theorem ok_deck {f : Addr} {fd : FuncData} {k : Nat} (F : Fun K "_law_deck" "_law_deck" sDeck f fd) (B : Bi mg) : FnOk P w K mg base CX0 (k + 1) f fd ["script"] (spDeck K) := by
  refine F.ok scDeck (fun vs H Q E h => ?_) (fun cdv A outer s H vs Q E hr h => ?_)
  · obtain ⟨a, ns, rfl, _⟩ := h
    rfl
  · obtain ⟨a, ns, rfl, hS, hlen, q⟩ := h
    have hu := hu_of hr
    have hu1 := hu_of hr
    refine ⟨_, pss_cons (ps_set (i := 1) scDeck.nd rfl (.inl rfl) (pe_disp (pps_cons pe_str (pe_lst pa_nil) (pps_cons pe_str (pe_op op_add pe_int (pe_callB call_len_seq (by rfl) B.len boot_len (pa_cons (pe_slice sl_list (pv 0) po_none (po_some pe_int)) pa_nil))) pps_nil)) (by rfl) (by rfl) (fun z => by cases z) (by decide)))
      (pss_cons (ps_for PassesOwn.never rfl (pi_list (pe_slice sl_list (pv 0) po_none (po_some pe_int))) (pg_name (i := 2) scDeck.nd rfl (.inl rfl))
        (pss_cons (ps_set (i := 3) scDeck.nd rfl (.inl rfl) (pe_callB call_abs (by rfl) B.abs (by decide +kernel) (pa_cons (pv 2) pa_nil)))
        (pss_cons (ps_if (pt_cmpR op_ge (pv 3) (pe_op op_pow pe_int pe_int) (nomark _)) (pss_one (ps_dput hu1 (pv 1) pe_str (pe_op op_cat (pe_lst (pa_cons (pv 3) pa_nil)) (pe_dget hu1 (pv 1) pe_str (fun _ _ => rfl))) rfl)) pss_nil)
        (pss_cons (ps_set (i := 4) scDeck.nd rfl (.inl rfl) (pe_op op_add (pe_op op_mul (pe_op op_add (pe_op op_add (pe_op op_add (pe_dget hu1 (pv 1) pe_str (fun _ _ => rfl)) (pe_op op_mul pe_int (pv 3))) (pe_callTy call_int1 (by rfl) B.int (by decide +kernel) (pa_cons (pe_cmpR op_lt (pv 2) pe_int (nomark _)) pa_nil))) pe_int) pe_int) pe_int))
        (pss_one (ps_dput hu1 (pv 1) pe_str (pe_op op_mod (pe_callTy call_int1 (by rfl) B.int (by decide +kernel) (pa_cons (pv 4) pa_nil)) pe_int) rfl))))))
      (pss_one (ps_ret (pv 1)))), ?_⟩
    intro p np
    refine ⟨Nat.zero_le _, fun l nl => ?_⟩
    have s0 : Same H (upd (upd H p (.dK [])) l (.lst [])) := (same_new np).trans (same_new nl)
    have nlp : l ≠ p := fun z => by rw [z, upd_same] at nl; cases nl
    have nl0 : H l = none := by rw [upd_ne nlp] at nl; exact nl
    refine ⟨.ref a, rfl, 63, rfl, a, _, rfl, s0.seq hS, fun c nc => ?_⟩
    have ncp : c ≠ p := fun z => by rw [z, upd_ne nlp.symm, upd_same] at nc; cases nc
    have ncl : c ≠ l := fun z => by rw [z, upd_same] at nc; cases nc
    refine ⟨c, _, rfl, .inl (SqL.of upd_same), _, _, rfl, rfl, ?_⟩
    refine ⟨by rw [upd_ne ncp.symm, upd_ne nlp.symm, upd_same], [(kD, V.ref l), (kS, V.int _)], rfl, by show 2 ≤ 15; decide, ?_⟩
    rw [dkv_m]
    generalize ((1278733 : Int) + ((cutV (ns.map V.int) none (some 63)).length : Int)) = st0
    have s1 : Same (upd (upd H p (.dK [])) l (.lst [])) (upd (upd (upd H p (.dK [])) l (.lst [])) c (.lst (cutV (ns.map V.int) none (some 63)))) := same_new nc
    generalize hH1 : upd (upd (upd H p (.dK [])) l (.lst [])) c (.lst (cutV (ns.map V.int) none (some 63))) = H1 at s1
    have l1 : H1 l = some (.lst []) := s1 _ _ upd_same
    have s2 : Same H (upd H1 p (.dK (dkv (.ref l) (.int st0)))) := fun b o e => by
      rw [upd_ne (ne_of_none e np)]
      exact s1 _ _ (s0 _ _ e)
    refine ⟨.ref a, rfl, 63, rfl, a, _, rfl, s2.seq hS, fun c2 nc2 => ?_⟩
    have e63 : cutV (ns.map V.int) none (some 63) = (ns.take 63).map V.int := by
      unfold cutV
      rw [HT.sIx_none, show HT.sIx (ns.map V.int).length (ns.map V.int).length (some 63) = min 63 (ns.map V.int).length from HT.sIx_nat _ _ 63, List.drop_zero, Nat.sub_zero, List.map_take]
      by_cases c : 63 ≤ (ns.map V.int).length
      · rw [Nat.min_eq_left c]
      · rw [Nat.min_eq_right (by omega), List.take_of_length_le (Nat.le_refl _), List.take_of_length_le (by omega)]
    rw [e63]
    have hml : (ns.take 63).length ≤ 63 := by rw [List.length_take]; omega
    generalize ns.take 63 = ms at hml
    have c2p : c2 ≠ p := fun z => by rw [z, upd_same] at nc2; cases nc2
    have c2l : c2 ≠ l := fun z => by rw [z, upd_ne nlp, l1] at nc2; cases nc2
    refine ⟨c2, rfl, ⟨_, SqL.of upd_same⟩, for_list (K := K) (a := c2) (xs := ms.map V.int) (fun i σ H2 => ∃ v2 v3 v4 l ds st, σ = [some (.ref a), some (.ref p), v2, v3, v4] ∧ Same H H2 ∧ H2 c2 = some (.lst (ms.map V.int)) ∧ H2 p = some (.dK (dkv (.ref l) (.int st))) ∧ H2 l = some (.lst (ds.map V.int)) ∧ ds.length ≤ i ∧ H l = none ∧ c2 ≠ l)
      ⟨none, none, none, l, [], st0, rfl, s2.trans (same_new nc2), upd_same, by rw [upd_ne c2p.symm, upd_same], by rw [upd_ne c2l.symm, upd_ne nlp, l1]; rfl, Nat.le_refl _, nl0, c2l⟩ (fun i σ H2 _ ⟨_, _, _, _, _, _, _, _, h, _⟩ => SqL.of h) ?_ ?_⟩
    · rintro i y σ H2 hi ⟨v2, v3, v4, l, ds, st, rfl, sm, hc, hp, hl, hd, nl, ncl⟩
      have hil : i < ms.length := by
        have := (List.getElem?_eq_some_iff.mp hi).1
        rw [List.length_map] at this
        exact this
      obtain ⟨z, rfl⟩ : ∃ z, y = V.int z := by
        rw [List.getElem?_map] at hi
        cases e : ms[i]? with
        | none => rw [e] at hi; cases hi
        | some z => rw [e] at hi; exact ⟨z, (Option.some.inj hi).symm⟩
      have nlp : l ≠ p := ne_of hl hp (by intro z; cases z)
      refine ⟨.int z, rfl, z, rfl, ?_⟩
      generalize (if z < 0 then -z else z) = wz
      dsimp only [tNext]
      refine ⟨.int wz, rfl, _, _, rfl, rfl, ⟨by decide, by decide, by decide⟩, _, _, rfl, rfl, _, rfl, ?_⟩
      refine join2 (H2 := H2) (R := fun H3 => ∃ (l3 : Addr) (ds3 : List Int), Same H H3 ∧ H3 c2 = some (.lst (ms.map V.int)) ∧ H3 p = some (.dK (dkv (.ref l3) (.int st))) ∧ H3 l3 = some (.lst (ds3.map V.int)) ∧ ds3.length ≤ i + 1 ∧ H l3 = none ∧ c2 ≠ l3 ∧ l3 ≠ p)
        (fun H3 hR => ?_) (fun _ => ⟨l, ds, sm, hc, hp, hl, by omega, nl, ncl, nlp⟩) (fun _ tail => ?_)
      rotate_left
      · refine ⟨.int wz, rfl, by show 1 ≤ sizeLine; decide, fun l1 nl1 => ⟨.ref p, rfl, p, .ref l, rfl, ?_⟩⟩
        have n1p : l1 ≠ p := (ne_of_none hp nl1).symm
        have n1l : l1 ≠ l := (ne_of_none hl nl1).symm
        have n1c : l1 ≠ c2 := (ne_of_none hc nl1).symm
        have hp1 : upd H2 l1 (.lst [.int wz]) p = some (.dK (dkv (.ref l) (.int st))) := by rw [upd_ne n1p.symm]; exact hp
        refine ⟨by rw [← dkv_d (.ref l) (.int st)]; exact DGet.k (k := kD) hp1, l1, l, _, _, rfl, rfl, upd_same, by rw [upd_ne n1l.symm]; exact hl, by rw [List.length_map]; exact sz (by show 1 + ds.length ≤ 100000; omega), fun l2 nl2 => ?_⟩
        have n2p : l2 ≠ p := (ne_of_none hp1 nl2).symm
        have n2c : l2 ≠ c2 := fun z => by rw [z, upd_ne n1c.symm, hc] at nl2; cases nl2
        have sm2 : Same H (upd (upd H2 l1 (.lst [.int wz])) l2 (.lst ([.int wz] ++ ds.map V.int))) := (sm.trans (same_new nl1)).trans (same_new nl2)
        have hp2 : (upd (upd H2 l1 (.lst [.int wz])) l2 (.lst ([.int wz] ++ ds.map V.int))) p = some (.dK (dkv (.ref l) (.int st))) := by rw [upd_ne n2p.symm]; exact hp1
        refine ⟨.ref p, rfl, p, _, rfl, DPut.k (k := kD) hp2 (by show 2 < sizeLine; decide), ?_⟩
        rw [dkv_pd]
        have nl2' : H l2 = none := (sm.trans (same_new nl1)).free nl2
        refine tail (upd (upd (upd H2 l1 (.lst [.int wz])) l2 (.lst ([.int wz] ++ ds.map V.int))) p (.dK (dkv (.ref l2) (.int st)))) ⟨l2, wz :: ds, (fun b o e => by rw [upd_ne (ne_of_none e np)]; exact sm2 _ _ e), ?_, upd_same, ?_, (by rw [List.length_cons]; omega), nl2', n2c.symm, n2p⟩
        · rw [upd_ne c2p, upd_ne n2c.symm, upd_ne n1c.symm]
          exact hc
        · rw [upd_ne n2p, upd_same]
          rfl
      · obtain ⟨l3, ds3, sm3, hc3, hp3, hl3, hd3, nl3, ncl3, nlp3⟩ := hR
        refine ⟨.ref p, rfl, p, .int st, rfl, by rw [← dkv_s (.ref l3) (.int st)]; exact DGet.k (k := kS) hp3, .int wz, rfl, 2, _, rfl, rfl, .inl ⟨by decide, by decide⟩, _, _, rfl, rfl, .int z, rfl, z, 0, rfl, rfl, .inr ⟨_, rfl, ?_⟩⟩
        refine ⟨_, _, rfl, rfl, _, 1, rfl, rfl, _, 1181783497276652981, rfl, rfl, .inr ⟨by decide, by decide⟩, _, 521288629, rfl, rfl, ?_⟩
        dsimp only [tNext]
        refine ⟨_, rfl, .inl ⟨_, rfl, ?_⟩⟩
        refine ⟨_, 2305843009213693951, rfl, rfl, by show (0 : Int) < 2305843009213693951; decide, .ref p, rfl, p, _, rfl, DPut.k (k := kS) hp3 (by show 2 < sizeLine; decide), ?_⟩
        rw [dkv_ps]
        refine ⟨_, _, _, l3, ds3, _, rfl, fun b o e => ?_, ?_, upd_same, ?_, hd3, nl3, ncl3⟩
        · rw [upd_ne (ne_of_none e np)]
          exact sm3 _ _ e
        · rw [upd_ne c2p]
          exact hc3
        · rw [upd_ne nlp3]
          exact hl3
    · rintro σ H2 ⟨v2, v3, v4, l, ds, st, rfl, sm, hc, hp, hl, hd, nl, ncl⟩
      rw [List.length_map] at hd
      exact ⟨.ref p, rfl, q H2 p l sm np nl ⟨ds, st, hp, hl, by omega⟩⟩
end
end Kr
namespace Kr
open PySem PySem.Spec PyProof.Rows L2
def spDraw : Sp := fun vs H Q _ => ∃ (p l : Addr) (m : Int), vs = [.ref p, .int m] ∧ Deck H p l ∧ m < 1073741824 ∧ ∀ H' r, Deck H' p l → Ext p l H H' → 0 ≤ r → (r < m ∨ r = 0) → Q (.int r) H'
theorem dp_ints {K : PySem.W.Frag} {H : Hp} : ∀ ds : List Int, DpAll K H (ds.map V.int) (ds.map PyData.int)
  | [] => .nil
  | d :: ds => .cons (.int d) (dp_ints ds)
theorem lay_ints : ∀ ds : List Int, PyData.canLayAll0 (ds.map PyData.int) = true
  | [] => by simp [PyData.canLayAll0]
  | d :: ds => by simp [PyData.canLayAll0, PyData.canLay0, lay_ints ds]
theorem dep_ints : ∀ ds : List Int, PyData.depthAll (ds.map PyData.int) ≤ 1
  | [] => by simp [PyData.depthAll]
  | d :: ds => by
    have := dep_ints ds
    simp [PyData.depthAll, PyData.depth]
    omega
theorem shaped_ints (ds : List Int) : SeqAt.shaped (.list (ds.map PyData.int)) = true := by
  unfold SeqAt.shaped
  have := dep_ints ds
  simp [PyData.canLay0, lay_ints ds, PyData.depth]
  omega
theorem eqv_ints_nil (ds : List Int) : PyData.eqv (.list (ds.map PyData.int)) (.list []) = decide (ds = []) := by
  cases ds <;> simp [PyData.eqv, PyData.eqvAll]
theorem Ext.new {p l q : Addr} {H H' : Hp} {o : HO} (e : Ext p l H H') (h : H' q = none) : Ext p l H (upd H' q o) := fun b x hb => by
  have h2 := e b x hb
  obtain ⟨h3, h4, h5⟩ := hid_some h2
  rw [hid_ne h3 h4, upd_ne (ne_of_none h5 h)]
  exact h5
theorem Ext.at {p l q : Addr} {H H' : Hp} {o : HO} (e : Ext p l H H') (h : q = p ∨ q = l) : Ext p l H (upd H' q o) := fun b x hb => by
  have h2 := e b x hb
  obtain ⟨h3, h4, h5⟩ := hid_some h2
  have hq : b ≠ q := fun z => h.elim (fun w => h3 (z.trans w)) fun w => h4 (z.trans w)
  rw [hid_ne h3 h4, upd_ne hq]
  exact h5
section
variable {P : Program} {w : World} {K : PySem.W.Frag} {mg : Str → Option Value} {base : Heap}
theorem scDraw : FnScope ["deck", "many", "whole", "one", "two"] ["deck", "many"] (defScope sDraw) := ⟨rfl, rfl, rfl, by decide +kernel, rfl, by decide +kernel, by decide +kernel⟩
theorem ok_draw {f : Addr} {fd : FuncData} {k : Nat} (F : Fun K "_law_draw" "_law_draw" sDraw f fd) (B : Bi mg) : FnOk P w K mg base CX0 (k + 1) f fd ["deck", "many"] spDraw := by
  refine F.ok scDraw (fun vs H Q E h => ?_) (fun cdv A outer s H vs Q E hr h => ?_)
  · obtain ⟨p, l, m, rfl, _⟩ := h
    rfl
  · obtain ⟨p, l, m, rfl, D, hm, q⟩ := h
    have hu := hu_of hr
    refine ⟨_, pss_cons (ps_if (pt_cmpR op_lt (pv 1) pe_int (nomark _)) (pss_one (ps_ret pe_int)) pss_nil)
      (pss_cons (ps_if (pt_cmpR (op_neD hr.units) (pe_dget hu (pv 0) pe_str (fun _ _ => rfl)) (pe_lst pa_nil) (nomark _))
        (pss_cons (ps_set (i := 2) scDraw.nd rfl (.inl rfl) (pe_bm0 PySem.F.plainAttrs_list PySem.F.slot_list_pop PySem.F.type_list_pop mt_pop (pe_dget hu (pv 0) pe_str (fun _ _ => rfl))))
        (pss_cons (ps_if (pt_cmpR op_ge (pv 2) (pv 1) (nomark _)) (pss_one (ps_expr (pe_bm PySem.F.plainAttrs_list PySem.F.slot_list_append PySem.F.type_list_append mt_append (pe_dget hu (pv 0) pe_str (fun _ _ => rfl)) (pa_cons (pe_op op_fdiv (pv 2) (pv 1)) pa_nil)))) pss_nil)
        (pss_one (ps_ret (pe_op op_mod (pe_callTy call_int1 (by rfl) B.int (by decide +kernel) (pa_cons (pv 2) pa_nil)) (pv 1)))))) pss_nil)
      (pss_cons (ps_set (i := 3) scDraw.nd rfl (.inl rfl) (pe_op op_mod (pe_callTy call_int1 (by rfl) B.int (by decide +kernel) (pa_cons (pe_op op_add (pe_op op_mul (pe_dget hu (pv 0) pe_str (fun _ _ => rfl)) pe_int) pe_int) pa_nil)) pe_int))
      (pss_cons (ps_dput hu (pv 0) pe_str (pv 3) rfl)
      (pss_cons (ps_set (i := 4) scDraw.nd rfl (.inl rfl) (pe_op op_mod (pe_callTy call_int1 (by rfl) B.int (by decide +kernel) (pa_cons (pe_op op_add (pe_op op_add (pe_op op_mul (pv 3) (pv 3)) (pe_op op_mul pe_int (pv 3))) pe_int) pa_nil)) pe_int))
      (pss_one (ps_ret (pe_op op_mod (pe_callTy call_int1 (by rfl) B.int (by decide +kernel) (pa_cons (pe_op op_fdiv (pv 4) pe_int) pa_nil)) (pv 1)))))))), ?_⟩
    refine ⟨.int m, rfl, m, 2, rfl, rfl, _, rfl, ite2 (fun _ => ?_) (fun hm2 => ?_)⟩
    · exact q H 0 D Ext.rfl (Int.le_refl _) (.inr rfl)
    have hm1 : ¬ m < 2 := fun z => hm2 (decide_eq_true z)
    obtain ⟨ds, st, hp, hl, hd⟩ := id D.ex
    have hgd : DGet H p (V.str "deep") (some (.ref l)) := by rw [← dkv_d (.ref l) (.int st)]; exact DGet.k (k := kD) hp
    refine ⟨.ref p, rfl, p, .ref l, rfl, hgd, by show 0 ≤ sizeLine; decide, fun e ne => ?_⟩
    have nep : e ≠ p := (ne_of_none hp ne).symm
    have nel : e ≠ l := (ne_of_none hl ne).symm
    have nlp : l ≠ p := D.ne.symm
    refine ⟨.list (ds.map PyData.int), .list [], .lst (SqL.of (by rw [upd_ne nel.symm]; exact hl)) (dp_ints ds), .lst (SqL.of upd_same) .nil, shaped_ints ds, shaped_ints [], ?_⟩
    rw [eqv_ints_nil]
    have hp1 : upd H e (.lst []) p = some (.dK (dkv (.ref l) (.int st))) := by rw [upd_ne nep.symm]; exact hp
    have hl1 : upd H e (.lst []) l = some (.lst (ds.map V.int)) := by rw [upd_ne nel.symm]; exact hl
    have E1 : Ext p l H (upd H e (.lst [])) := Ext.rfl.new ne
    generalize upd H e (.lst []) = H1 at hp1 hl1 E1
    have hgd1 : DGet H1 p (V.str "deep") (some (.ref l)) := by rw [← dkv_d (.ref l) (.int st)]; exact DGet.k (k := kD) hp1
    have hgs1 : DGet H1 p (V.str "state") (some (.int st)) := by rw [← dkv_s (.ref l) (.int st)]; exact DGet.k (k := kS) hp1
    refine ⟨_, rfl, ?_⟩
    by_cases hds : ds = []
    · -- mixed numbers
      rw [decide_eq_true hds]
      refine iteF ?_
      refine ⟨.ref p, rfl, p, .int st, rfl, hgs1, _, _, rfl, rfl, .inr ⟨by decide, by decide⟩, _, _, rfl, rfl, .inl ⟨_, rfl, _, _, rfl, rfl, (by show (0 : Int) < 2305843009213693951; decide), ?_⟩⟩
      dsimp only
      have o0 : 0 ≤ ((st * 1181783497276652981 + 88172645463325) % 2305843009213693951 : Int) := Int.emod_nonneg _ (by decide)
      have o1 : ((st * 1181783497276652981 + 88172645463325) % 2305843009213693951 : Int) < 2305843009213693951 := Int.emod_lt_of_pos _ (by decide)
      generalize ((st * 1181783497276652981 + 88172645463325) % 2305843009213693951 : Int) = one at o0 o1
      refine ⟨.int one, rfl, .ref p, rfl, p, _, rfl, DPut.k (k := kS) hp1 (by show 2 < sizeLine; decide), ?_⟩
      rw [dkv_ps]
      refine ⟨.int one, rfl, .int one, rfl, _, _, rfl, rfl, .inl ⟨by omega, by omega⟩, .int one, rfl, _, _, rfl, rfl, .inl ⟨by decide, by decide⟩, _, _, rfl, rfl, _, _, rfl, rfl, .inl ⟨_, rfl, _, _, rfl, rfl, (by show (0 : Int) < 2305843009213693921; decide), ?_⟩⟩
      dsimp only
      generalize ((one * one + 374761393 * one + 11) % 2305843009213693921 : Int) = two
      refine ⟨.int two, rfl, _, _, rfl, rfl, ⟨by decide, by decide⟩, .inl ⟨_, rfl, .int m, rfl, _, _, rfl, rfl, (by show 0 < m; omega), ?_⟩⟩
      refine q _ _ ⟨ds, one, upd_same, by rw [upd_ne nlp]; exact hl1, hd⟩ (E1.at (.inl rfl)) (Int.emod_nonneg _ (by omega)) (.inl (Int.emod_lt_of_pos _ (by omega)))
    · -- a digit of a great cell
      rw [decide_eq_false hds]
      refine iteT ?_
      obtain ⟨last, hlast⟩ : ∃ y, ds[ds.length - 1]? = some y := ⟨_, List.getElem?_eq_getElem (by
        have := List.length_pos_iff.mpr hds
        omega)⟩
      refine ⟨.ref p, rfl, p, .ref l, rfl, hgd1, .inl ⟨rfl, _, SqL.of hl1⟩, l, _, .int last, rfl, rfl, hl1, by rw [List.length_map, List.getElem?_map, hlast]; rfl, ?_⟩
      rw [← List.map_dropLast]
      have hdl : ds.dropLast.length ≤ 62 := by rw [List.length_dropLast]; omega
      have hp2 : upd H1 l (.lst (ds.dropLast.map V.int)) p = some (.dK (dkv (.ref l) (.int st))) := by rw [upd_ne nlp.symm]; exact hp1
      have hl2 : upd H1 l (.lst (ds.dropLast.map V.int)) l = some (.lst (ds.dropLast.map V.int)) := upd_same
      have E2 : Ext p l H (upd H1 l (.lst (ds.dropLast.map V.int))) := E1.at (.inr rfl)
      generalize ds.dropLast = ds2 at hdl hp2 hl2 E2
      generalize upd H1 l (.lst (ds2.map V.int)) = H2 at hp2 hl2 E2
      have hgd2 : DGet H2 p (V.str "deep") (some (.ref l)) := by rw [← dkv_d (.ref l) (.int st)]; exact DGet.k (k := kD) hp2
      refine ⟨.int last, rfl, .int m, rfl, _, _, rfl, rfl, _, rfl, ?_⟩
      refine join2 (H2 := H2) (R := fun H3 => ∃ ds3 : List Int, H3 p = some (.dK (dkv (.ref l) (.int st))) ∧ H3 l = some (.lst (ds3.map V.int)) ∧ ds3.length ≤ 63 ∧ Ext p l H H3)
        (fun H3 hR => ?_) (fun _ => ⟨ds2, hp2, hl2, by omega, E2⟩) (fun _ tail => ?_)
      · obtain ⟨ds3, hp3, hl3, hd3, E3⟩ := hR
        refine ⟨.int last, rfl, .inl ⟨_, rfl, .int m, rfl, _, _, rfl, rfl, (by show 0 < m; omega), ?_⟩⟩
        exact q _ _ ⟨ds3, st, hp3, hl3, hd3⟩ E3 (Int.emod_nonneg _ (by omega)) (.inl (Int.emod_lt_of_pos _ (by omega)))
      · refine ⟨.ref p, rfl, p, .ref l, rfl, hgd2, .inl ⟨rfl, _, SqL.of hl2⟩, .int last, rfl, .int m, rfl, _, _, rfl, rfl, ⟨by omega, hm⟩, l, _, _, rfl, rfl, hl2, szl (by rw [List.length_map]; omega), ?_⟩
        refine tail _ ⟨ds2 ++ [last / m], by rw [upd_ne nlp.symm]; exact hp2, ?_, by rw [List.length_append]; show _ + 1 ≤ 63; omega, E2.at (.inr rfl)⟩
        rw [upd_same, List.map_append]
        rfl
end
end Kr
namespace Kr
open PySem PySem.Spec PyProof.Rows L2
/-! ### defs by their names -/
section
variable {P : Program} {w : World} {K : PySem.W.Frag} {mg : Str → Option Value} {base : Heap}
end
/-- one of some items -/
def spPick : Sp := fun vs H Q _ => ∃ (p l a : Addr) (xs : List V), vs = [.ref p, .ref a] ∧ Deck H p l ∧ hid p l H a = some (.lst xs) ∧ xs ≠ [] ∧ xs.length < 1000000 ∧ ∀ H' v, Deck H' p l → Ext p l H H' → v ∈ xs → Q v H'
section
variable {P : Program} {w : World} {K : PySem.W.Frag} {mg : Str → Option Value} {base : Heap}
theorem o_draw (D : Df K mg "_law_draw" sDraw ["deck", "many"]) (B : Bi mg) : Ok P w K mg base 1 "_law_draw" ["deck", "many"] spDraw := D.ok fun _ _ F => ok_draw F B
theorem o_deck (D : Df K mg "_law_deck" sDeck ["script"]) (B : Bi mg) : Ok P w K mg base 1 "_law_deck" ["script"] (spDeck K) := D.ok fun _ _ F => ok_deck F B
theorem scPick : FnScope ["deck", "items"] ["deck", "items"] (defScope sPick) := ⟨rfl, rfl, rfl, by decide +kernel, rfl, by decide +kernel, by decide +kernel⟩
theorem o_pick (D : Df K mg "_law_pick" sPick ["deck", "items"]) (B : Bi mg) (d : Ok P w K mg base 1 "_law_draw" ["deck", "many"] spDraw) : Ok P w K mg base 2 "_law_pick" ["deck", "items"] spPick := by
  refine D.ok fun f fd F => F.ok scPick (fun vs H Q E h => ?_) (fun cdv A outer s H vs Q E hr h => ?_)
  · obtain ⟨p, l, a, xs, rfl, _⟩ := h
    rfl
  · obtain ⟨p, l, a, xs, rfl, Dk, ha, hne, hlen, q⟩ := h
    refine ⟨_, pss_one (ps_ret (pe_ix ix_list (pv 1) (pe_fn d hr (by rfl) (pa_cons (pv 0) (pa_cons (pe_callB call_len_seq (by rfl) B.len boot_len (pa_cons (pv 1) pa_nil)) pa_nil))) (fun _ _ => rfl))), ?_⟩
    have hpos := List.length_pos_iff.mpr hne
    refine ⟨.ref a, rfl, .ref p, rfl, .ref a, rfl, a, xs, rfl, .inl (SqL.of (hid_same p l H _ _ ha)), p, l, _, rfl, Dk, by show (xs.length : Int) < 1073741824; omega, fun H' r Dk' e h0 h1 => ?_⟩
    have hr2 : r.toNat < xs.length := by omega
    refine ⟨a, xs, r, xs[r.toNat], rfl, rfl, SqL.of (hid_same p l H' _ _ (e _ _ ha)), ?_, q H' _ Dk' e (List.getElem_mem hr2)⟩
    exact atI_int h0 (List.getElem?_eq_getElem hr2)
end
end Kr
namespace Kr
open PySem PySem.Spec PyProof.Rows L2
/-! ### a module's name that holds a built-in (from math import comb) -/
theorem pe_callBG {X : Cx} {id : String} {r : List V → Hp → VK → Prop} {x : Str} {e : Expr} {es : List Expr} {t : TA} {p pos : Pos} (hc : CallR X (.builtin id) r) (hg : Gl X x) (hm : X.mg x = some (.builtin id)) (ha : PA X (e :: es) t) (hdb : (x == ("__debug__" : Str)) = false := by decide)
    (he : starEach (e :: es) X.env = (false, eval e X.env) :: starEach es X.env := by rfl) (hpl : (backTo pos (starEach es X.env)).any (·.1) = false := by rfl) : PE X (.Call (.Name x p) (e :: es) [] pos) (tCB r t) :=
  ⟨fun pn sh st hp W Iv hh => wpAny_Call_Name_kw (ld_glob Iv hg hm (PyProof.Rows.callWith_builtin1 (thn (ha.run pos pn sh st hp _ Iv hh) fun us s1 ⟨vs, H1, I1, r1, q1⟩ => hc pn s1 st H1 vs us W I1 r1 q1) he hpl) hdb)⟩
/-- comb(a, b) -/
def rComb : List V → Hp → VK → Prop := fun vs H Q => ∃ a b : Int, vs = [.int a, .int b] ∧ 0 ≤ a ∧ 0 ≤ b ∧ a < 1000 ∧ Q (.int (PySem.W.mcComb a b)) H
theorem call_comb {X : Cx} : CallR X (.builtin "math.comb") rComb := by
  intro pn sh st hp xs us Q Iv r h
  obtain ⟨a, b, rfl, h1, h2, h3, q⟩ := h
  cases r with
  | cons ra r =>
    cases r with
    | cons rb r =>
      cases r
      obtain ⟨t, rfl⟩ := ra
      obtain ⟨u, rfl⟩ := rb
      exact PySem.W.mc_comb h1 h2 (by omega) (.inr (by omega)) fun _ => ⟨.int (PySem.W.mcComb a b), hp, Iv.kept (t' := sh.toks + 1) (fun _ _ e => e), ⟨_, rfl⟩, q⟩
end Kr
namespace Kr
open PySem PySem.Spec PyProof.Rows L2
/-! ### data without lists and dicts: it stays while tuples stay -/
def TS (H H' : Hp) : Prop := ∀ b xs, H b = some (.tup xs) → H' b = some (.tup xs)
theorem TS.rfl {H : Hp} : TS H H := fun _ _ h => h
theorem TS.trans {H H' H'' : Hp} (a : TS H H') (b : TS H' H'') : TS H H'' := fun c xs h => b c xs (a c xs h)
theorem TS.of {H H' : Hp} (s : Same H H') : TS H H' := fun b xs h => s _ _ h
theorem TS.lst {H : Hp} {D : Addr} {xs ys : List V} (h : H D = some (.lst xs)) : TS H (upd H D (.lst ys)) := fun b zs e => by
  rw [upd_ne (ne_of e h (by intro z; cases z))]
  exact e
theorem TS.new {H : Hp} {q : Addr} {o : HO} (h : H q = none) : TS H (upd H q o) := fun b zs e => by
  rw [upd_ne (ne_of_none e h)]
  exact e
mutual
def flatT : PyData → Bool
  | .none | .bool _ | .int _ | .str _ => true
  | .tuple xs => flatTA xs
  | .list _ | .dict _ => false
def flatTA : List PyData → Bool
  | [] => true
  | x :: xs => flatT x && flatTA xs
end
mutual
theorem Dq.upT {H H' : Hp} (s : TS H H') : ∀ {v : V} {d : PyData}, flatT d = true → Dq H v d → Dq H' v d
  | _, _, _, .non => .non
  | _, _, _, .bl b => .bl b
  | _, _, _, .int i => .int i
  | _, _, _, .str x => .str x
  | _, _, h, .lst _ _ => by simp [flatT] at h
  | _, _, h, .tup e q => .tup (s _ _ e) (DqA.upT s (by simpa [flatT] using h) q)
  | _, _, h, .dic _ => by simp [flatT] at h
theorem DqA.upT {H H' : Hp} (s : TS H H') : ∀ {vs : List V} {ds : List PyData}, flatTA ds = true → DqA H vs ds → DqA H' vs ds
  | _, _, _, .nil => .nil
  | _ :: _, d :: ds, h, .cons a t => by
    have h2 : flatT d = true ∧ flatTA ds = true := by simpa [flatTA] using h
    exact .cons (Dq.upT s h2.1 a) (DqA.upT s h2.2 t)
end
theorem flatTA_of : ∀ {ds : List PyData}, (∀ d ∈ ds, flatT d = true) → flatTA ds = true
  | [], _ => rfl
  | d :: ds, h => by
    have h1 := h d List.mem_cons_self
    have h2 := flatTA_of (ds := ds) fun e he => h e (List.mem_cons_of_mem _ he)
    simp [flatTA, h1, h2]
mutual
/-- as the layer's own data, for == -/
theorem Dq.dp {K : PySem.W.Frag} {H : Hp} : ∀ {v : V} {d : PyData}, flatT d = true → Dq H v d → Dp K H v d
  | _, _, _, .non => .non
  | _, _, _, .bl b => .bl b
  | _, _, _, .int i => .int i
  | _, _, _, .str x => .str x
  | _, _, h, .lst _ _ => by simp [flatT] at h
  | _, _, h, .tup e q => .tup (SqT.of e) (DqA.dp (by simpa [flatT] using h) q)
  | _, _, h, .dic _ => by simp [flatT] at h
theorem DqA.dp {K : PySem.W.Frag} {H : Hp} : ∀ {vs : List V} {ds : List PyData}, flatTA ds = true → DqA H vs ds → DpAll K H vs ds
  | _, _, _, .nil => .nil
  | _ :: _, d :: ds, h, .cons a t => by
    have h2 : flatT d = true ∧ flatTA ds = true := by simpa [flatTA] using h
    exact .cons (Dq.dp h2.1 a) (DqA.dp h2.2 t)
end
theorem dqa_snoc {H : Hp} {vs : List V} {ds : List PyData} {v : V} {d : PyData} (a : DqA H vs ds) (b : Dq H v d) : DqA H (vs ++ [v]) (ds ++ [d]) := a.app (.one b)
/-! ### rows of signs -/
abbrev Row := List (Bool × Bool)
def bi (b : Bool) : Int := if b = true then 1 else 0
def pairD (p : Bool × Bool) : PyData := .tuple [.int (bi p.1), .int (bi p.2)]
def rowD (r : Row) : PyData := .tuple (r.map pairD)
theorem pair_flat (p : Bool × Bool) : flatT (pairD p) = true := by simp [pairD, flatT, flatTA]
theorem pairs_flat (r : Row) : flatTA (r.map pairD) = true := flatTA_of fun d hd => by
  obtain ⟨p, _, rfl⟩ := List.mem_map.mp hd
  exact pair_flat p
theorem row_flat (r : Row) : flatT (rowD r) = true := by
  simp only [rowD, flatT]
  exact pairs_flat r
theorem bi_inj {a b : Bool} : bi a = bi b ↔ a = b := by cases a <;> cases b <;> decide
theorem bi_one (a : Bool) : decide (bi a = 1) = a := by cases a <;> rfl
theorem bi_xor (a b : Bool) : Builtin.bitXor (bi a) (bi b) = bi (a ^^ b) := by cases a <;> cases b <;> decide +kernel
theorem bi_sum (a b : Bool) : (bi a + bi b) % 2 = bi (a ^^ b) := by cases a <;> cases b <;> decide +kernel
theorem pair_at {H : Hp} {b : Addr} {p : Bool × Bool} (h : H b = some (.tup [.int (bi p.1), .int (bi p.2)])) : Dq H (.ref b) (pairD p) := .tup h (.cons (.int _) (.cons (.int _) .nil))
theorem pair_inv {H : Hp} {v : V} {p : Bool × Bool} (h : Dq H v (pairD p)) : ∃ b, v = .ref b ∧ H b = some (.tup [.int (bi p.1), .int (bi p.2)]) := by
  obtain ⟨b, xs, rfl, e, q⟩ := Dq.tup_inv (show Dq H v (.tuple [.int (bi p.1), .int (bi p.2)]) from h)
  cases q with
  | cons h1 q =>
    cases q with
    | cons h2 q =>
      cases q
      cases h1
      cases h2
      exact ⟨b, rfl, e⟩
theorem row_inv {H : Hp} {v : V} {r : Row} (h : Dq H v (rowD r)) : ∃ a xs, v = .ref a ∧ H a = some (.tup xs) ∧ DqA H xs (r.map pairD) := Dq.tup_inv h
theorem pairs_get {H : Hp} {xs : List V} {r : Row} {i : Nat} {y : V} (q : DqA H xs (r.map pairD)) (e : xs[i]? = some y) : ∃ p, r[i]? = some p ∧ ∃ b, y = .ref b ∧ H b = some (.tup [.int (bi p.1), .int (bi p.2)]) := by
  obtain ⟨d, h1, h2⟩ := q.get e
  rw [List.getElem?_map] at h1
  cases hr : r[i]? with
  | none => rw [hr] at h1; cases h1
  | some p =>
    rw [hr] at h1
    cases Option.some.inj h1
    exact ⟨p, rfl, pair_inv h2⟩
theorem pairs_len {H : Hp} {xs : List V} {r : Row} (q : DqA H xs (r.map pairD)) : xs.length = r.length := by rw [q.len, List.length_map]
theorem pairD_inj {p q : Bool × Bool} : PyData.eqv (pairD p) (pairD q) = decide (p = q) := by
  obtain ⟨a, b⟩ := p
  obtain ⟨c, d⟩ := q
  cases a <;> cases b <;> cases c <;> cases d <;> decide +kernel
theorem rows_eqv : ∀ a b : Row, PyData.eqv (rowD a) (rowD b) = decide (a = b)
  | [], [] => by simp [rowD, PyData.eqv, PyData.eqvAll]
  | [], _ :: _ => by simp [rowD, PyData.eqv, PyData.eqvAll]
  | _ :: _, [] => by simp [rowD, PyData.eqv, PyData.eqvAll]
  | x :: a, y :: b => by
    have ih := rows_eqv a b
    simp only [rowD, PyData.eqv] at ih
    simp only [rowD, List.map_cons, PyData.eqv, PyData.eqvAll]
    rw [ih, pairD_inj, Bool.eq_iff_iff]
    simp
theorem pairs_lay : ∀ r : Row, PyData.canLayAll0 (r.map pairD) = true ∧ PyData.depthAll (r.map pairD) ≤ 2
  | [] => by simp [PyData.canLayAll0, PyData.depthAll]
  | p :: r => by
    obtain ⟨h1, h2⟩ := pairs_lay r
    simp only [List.map_cons, PyData.canLayAll0, PyData.depthAll, pairD, PyData.canLay0, PyData.depth, h1]
    refine ⟨by simp, by omega⟩
theorem row_shaped (r : Row) : SeqAt.shaped (rowD r) = true := by
  obtain ⟨h1, h2⟩ := pairs_lay r
  unfold SeqAt.shaped
  simp only [rowD, PyData.canLay0, PyData.depth, h1, Bool.true_and, decide_eq_true_eq]
  omega
theorem pair_shaped (p : Bool × Bool) : SeqAt.shaped (pairD p) = true := by
  obtain ⟨a, b⟩ := p
  cases a <;> cases b <;> decide +kernel
/-! ### sums of rows, rows of kinds -/
def addR (a b : Row) : Row := List.zipWith (fun p q => (p.1 ^^ q.1, p.2 ^^ q.2)) a b
def zeroR (n : Nat) : Row := List.replicate (n + 1) (false, false)
def chB (a b : Int) : Bool := if 0 ≤ b then PySem.W.mcComb a b % 2 == 1 else false
def kindR (n k : Nat) : Row := (List.range (n + 1)).map fun (m : Nat) => (chB ((n : Int) - 2 - k) (((m : Nat) : Int) - 1 - k), chB ((n : Int) - 2 - k) (((m : Nat) : Int) - k))
theorem addR_len {a b : Row} (h : a.length = b.length) : (addR a b).length = b.length := by
  unfold addR
  rw [List.length_zipWith, h, Nat.min_self]
theorem zeroR_len (n : Nat) : (zeroR n).length = n + 1 := List.length_replicate
theorem kindR_len (n k : Nat) : (kindR n k).length = n + 1 := by
  unfold kindR
  rw [List.length_map, List.length_range]
theorem addR_zero : ∀ (n : Nat) (r : Row), r.length = n → addR (List.replicate n (false, false)) r = r
  | 0, [], _ => rfl
  | n + 1, p :: r, h => by
    have ih := addR_zero n r (by simpa using h)
    unfold addR at ih ⊢
    rw [List.replicate_succ, List.zipWith_cons_cons, ih]
    simp
  | 0, _ :: _, h => by simp at h
  | _ + 1, [], h => by simp at h
end Kr
namespace Kr
open PySem PySem.Spec PyProof.Rows L2
/-! ### small data: what repr can show -/
structure Sm (k w : Nat) (d : PyData) : Prop where
  sh : d.showable = true
  ls : d.leavesShort 41 = true
  dp : d.depth ≤ k
  wt : d.weight ≤ w
theorem Sm.mono {k w k' w' : Nat} {d : PyData} (h : Sm k w d) (hk : k ≤ k') (hw : w ≤ w') : Sm k' w' d := ⟨h.sh, h.ls, Nat.le_trans h.dp hk, Nat.le_trans h.wt hw⟩
theorem sm_all {k w : Nat} : ∀ {ds : List PyData}, (∀ d ∈ ds, Sm k w d) → PyData.showableAll ds = true ∧ PyData.leavesShortAll 41 ds = true ∧ PyData.depthAll ds ≤ k ∧ PyData.weightAll ds ≤ (w + 1) * ds.length
  | [], _ => ⟨by simp [PyData.showableAll], by simp [PyData.leavesShortAll], by simp [PyData.depthAll], by simp [PyData.weightAll]⟩
  | d :: ds, h => by
    obtain ⟨h1, h2, h3, h4⟩ := sm_all fun x hx => h x (List.mem_cons_of_mem _ hx)
    have hd := h d List.mem_cons_self
    refine ⟨by simp [PyData.showableAll, hd.sh, h1], by simp [PyData.leavesShortAll, hd.ls, h2], ?_, ?_⟩
    · simp only [PyData.depthAll]
      have := hd.dp
      omega
    · simp only [PyData.weightAll, List.length_cons, Nat.mul_add]
      have := hd.wt
      omega
theorem Sm.lst {k w m : Nat} {ds : List PyData} (h : ∀ d ∈ ds, Sm k w d) (hm : ds.length ≤ m) : Sm (k + 1) ((w + 1) * m) (.list ds) := by
  obtain ⟨h1, h2, h3, h4⟩ := sm_all h
  refine ⟨by simpa [PyData.showable] using h1, by simpa [PyData.leavesShort] using h2, by simp only [PyData.depth]; omega, ?_⟩
  simp only [PyData.weight]
  exact Nat.le_trans h4 (Nat.mul_le_mul_left _ hm)
theorem Sm.tup {k w m : Nat} {ds : List PyData} (h : ∀ d ∈ ds, Sm k w d) (hm : ds.length ≤ m) : Sm (k + 1) ((w + 1) * m) (.tuple ds) := by
  obtain ⟨h1, h2, h3, h4⟩ := sm_all h
  refine ⟨by simpa [PyData.showable] using h1, by simpa [PyData.leavesShort] using h2, by simp only [PyData.depth]; omega, ?_⟩
  simp only [PyData.weight]
  exact Nat.le_trans h4 (Nat.mul_le_mul_left _ hm)
theorem Sm.int {i : Int} (h : i.natAbs < 10 ^ 40) : Sm 1 140 (.int i) := by
  have hl : (PyData.shown (.int i)).length ≤ 41 := by
    have e := int_text_length_le10 (k := 40) (by decide) h
    show (Str.ofString (toString i)).length ≤ 41
    rw [PySem.ofString_length]
    exact e
  have hg : i.natAbs.log2 < 134 := by
    by_cases h0 : i.natAbs = 0
    · rw [h0]
      decide
    · rw [Nat.log2_lt h0]
      exact Nat.lt_of_lt_of_le h (by decide)
  refine ⟨?_, by simpa [PyData.leavesShort] using hl, by simp [PyData.depth], ?_⟩
  · simp only [PyData.showable, decide_eq_true_eq]
    omega
  · simp only [PyData.weight]
    split <;> omega
theorem Sm.non : Sm 1 140 .none := ⟨rfl, rfl, by simp [PyData.depth], by simp [PyData.weight]⟩
theorem Sm.bl (b : Bool) : Sm 1 140 (.bool b) := ⟨rfl, rfl, by simp [PyData.depth], by simp [PyData.weight]⟩
theorem Sm.dic : Sm 1 140 (.dict []) := ⟨by simp [PyData.showable, PyData.showableKv], by simp [PyData.leavesShort, PyData.leavesShortKv], by simp [PyData.depth, PyData.depthKv], by simp [PyData.weight, PyData.weightKv]⟩
theorem Sm.str {x : Str} (h : (x.cps.toList.all fun c => decide (c < 16 ^ 8)) = true) (hs : x.length ≤ 4) : Sm 1 140 (.str x) :=
  ⟨by simp [PyData.showable], by simpa [PyData.leavesShort] using h, by simp [PyData.depth], Nat.le_trans (show x.cps.size ≤ 4 from hs) (by decide)⟩
/-- the text is short enough -/
theorem Sm.fits {k w : Nat} {d : PyData} (h : Sm k w d) (hw : w ≤ 380000) : d.shown.length ≤ sizeLine := by
  have h1 := PyData.shown_le 41 (by decide) d h.ls
  have h2 := h.wt
  rw [sizeLine_eq]
  omega
/-- repr of small data -/
theorem repr_sm {v : V} {d : PyData} {H : Hp} {Q : VK} {k w : Nat} (hd : Dq H v d) (h : Sm k w d) (hk : k ≤ 40) (hw : w ≤ 380000) (q : Q (.str d.shown) H) : rRepr [v] H Q :=
  ⟨v, d, rfl, hd, h.sh, Nat.le_trans h.dp hk, h.fits hw, q⟩
/-- t + u, tuples of any lengths: some object that holds both -/
theorem catA_k {K : PySem.W.Frag} {a b : Addr} {xs ys : List V} {Q : VK} {H : Hp} (ha : H a = some (.tup xs)) (hb : H b = some (.tup ys)) (hl : xs.length + ys.length ≤ 100000) (k : ∀ y H5, Same H H5 → H5 y = some (.tup (xs ++ ys)) → Q (.ref y) H5) : rCatA K (.ref a) (.ref b) H Q := by
  refine ⟨a, b, xs, ys, rfl, rfl, SqT.of ha, SqT.of hb, Nat.le_trans hl (by decide), fun e => k _ _ (Same.refl _) (by rw [e]; exact hb), fun _ e => k _ _ (Same.refl _) (by rw [e, List.append_nil]; exact ha), fun _ _ p np => k _ _ (fun c o h => ?_) upd_same⟩
  rw [upd_ne (ne_of_none h np)]
  exact h
/-- t[i:j] of a tuple: some object that holds it -/
theorem sliceA_k {K : PySem.W.Frag} {a : Addr} {xs : List V} {lo hi : Option Int} {Q : VK} {H : Hp} (ha : H a = some (.tup xs)) (k : ∀ y H5, Same H H5 → H5 y = some (.tup (cutV xs lo hi)) → Q (.ref y) H5) : rSlA K (.ref a) lo hi H Q := by
  refine ⟨a, xs, rfl, SqT.of ha, fun ⟨e1, e2⟩ => k _ _ (Same.refl _) ?_, fun _ p np => k _ _ (fun c o h => ?_) upd_same⟩
  · unfold cutV
    rw [e1, e2, List.drop_zero, Nat.sub_zero, List.take_length]
    exact ha
  · rw [upd_ne (ne_of_none h np)]
    exact h
theorem cut_to {xs : List V} {i : Nat} (h : i ≤ xs.length) : cutV xs none (some (i : Int)) = xs.take i := by
  unfold cutV
  rw [HT.sIx_none, HT.sIx_nat, List.drop_zero, Nat.sub_zero, Nat.min_eq_left h]
theorem cut_from {xs : List V} {i : Nat} (h : i ≤ xs.length) : cutV xs (some (i : Int)) none = xs.drop i := by
  unfold cutV
  rw [HT.sIx_none, HT.sIx_nat, Nat.min_eq_left h]
  exact List.take_of_length_le (by rw [List.length_drop]; exact Nat.le_refl _)
end Kr
namespace Kr
open PySem PySem.Spec PyProof.Rows L2
/-! ### beside the deck -/
theorem Ext.mut {p l f : Addr} {H H' : Hp} {o : HO} (e : Ext p l H H') (h : H f = none) : Ext p l H (upd H' f o) := fun b x hb => by
  obtain ⟨_, _, h5⟩ := hid_some hb
  obtain ⟨h1, h2, h3⟩ := hid_some (e b x hb)
  rw [hid_ne h1 h2, upd_ne (ne_of_none h5 h)]
  exact h3
theorem Deck.mut {H : Hp} {p l f : Addr} {o : HO} (d : Deck H p l) (h1 : f ≠ p) (h2 : f ≠ l) : Deck (upd H f o) p l := by
  obtain ⟨ds, st, a, b, c⟩ := d.ex
  exact ⟨ds, st, by rw [upd_ne h1.symm]; exact a, by rw [upd_ne h2.symm]; exact b, c⟩
theorem Ext.free {p l f : Addr} {H H' : Hp} (e : Ext p l H H') (h : H' f = none) (h1 : f ≠ p) (h2 : f ≠ l) : H f = none := by
  cases q : H f with
  | none => rfl
  | some o =>
    have := (hid_some (e f o (by rw [hid_ne h1 h2]; exact q))).2.2
    rw [h] at this
    cases this
theorem Ext.at_ {p l f : Addr} {H H' : Hp} {o : HO} (e : Ext p l H H') (h1 : f ≠ p) (h2 : f ≠ l) (q : H f = some o) : H' f = some o := (hid_some (e f o (by rw [hid_ne h1 h2]; exact q))).2.2
/-- tuples stand apart from the deck -/
theorem TS.hide {p l : Addr} {H : Hp} (D : Deck H p l) : TS H (hid p l H) := fun b xs h => by
  obtain ⟨ds, st, h1, h2, _⟩ := D.ex
  rw [hid_ne (ne_of h h1 (by intro z; cases z)) (ne_of h h2 (by intro z; cases z))]
  exact h
theorem TS.deck {p l : Addr} {H H' : Hp} (D : Deck H p l) (E : Ext p l H H') : TS H H' := (TS.hide D).trans ((TS.of E).trans (TS.of (hid_same p l H')))
/-- a list of a new address stands apart -/
structure Apart (p l f : Addr) : Prop where
  p : f ≠ p
  l : f ≠ l
theorem Deck.apart {H : Hp} {p l q : Addr} (d : Deck H p l) (h : H q = none) : Apart p l q := ⟨(d.new h).1, (d.new h).2⟩
theorem Apart.of {H : Hp} {p l f : Addr} (d : Deck H p l) (h : hid p l H f ≠ none) : Apart p l f := by
  cases q : hid p l H f with
  | none => exact absurd q h
  | some o => exact ⟨(hid_some q).1, (hid_some q).2.1⟩
end Kr
namespace Kr
open PySem PySem.Spec PyProof.Rows L2
theorem szm {n : Nat} (h : n ≤ 100000) : n < sizeLine := Nat.lt_of_le_of_lt h (by decide)
theorem walk_rg {n : Nat} : Walk (Itr 0 n) n (fun _ => True) (fun i H x H' => H' = H ∧ x = .int (i : Nat)) := walk_range.mono (fun _ h => h) fun i H x H' _ _ ⟨a, b⟩ => ⟨a, by rw [b]; show V.int (0 + (i : Int)) = _; rw [Int.zero_add]⟩
/-- a comprehension without tests whose items are new data, one for each turn -/
theorem lc_itF {J : It} {n : Nat} {G : Hp → Prop} {Y : Nat → Hp → V → Hp → Prop} (w : Walk J n G Y) {g : TG} {tt : TT} {te : TE} {vs : List Nat} {σ : L2.St} {H1 : Hp} {D : Addr} {Qd : Hp → Prop} (f : Nat → PyData) (nD : H1 D = none) (hn : n ≤ 100000) (hf : ∀ i, i < n → flatT (f i) = true) (hG : ∀ H, Same H1 H → G H)
    (hs : ∀ i x H H' (C : VK) (Cn : Hp → Prop), i < n → Same H1 H → Y i H x H' → (∀ y H4, Same H H4 → Dq H4 y (f i) → C y H4) → g x (wipe σ vs) H' fun σ2 H2 => wipe σ2 vs = wipe σ vs ∧ tt σ2 H2 fun b H3 => if b = true then te σ2 H3 C else Cn H3)
    (hd : ∀ H acc, Same H1 H → H D = some (.lst acc) → DqA H acc ((List.range n).map f) → Qd H) :
    ∃ W : Nat → Nat → Hp → Prop, (∃ m, W 0 m (upd H1 D (.lst []))) ∧ ∀ i m H, W i m H →
      (J.stop i H ∧ Qd H) ∨ (J.go i H ∧ ∃ Nx : Hp → Prop, (∀ H', Nx H' → ∃ m', m' < m ∧ W (i + 1) m' H') ∧ ∀ x H', J.yld i H x H' → g x (wipe σ vs) H' fun σ2 H2 => wipe σ2 vs = wipe σ vs ∧ tt σ2 H2 fun b H3 =>
        if b = true then te σ2 H3 fun y H4 => ∃ acc, H4 D = some (.lst acc) ∧ acc.length < sizeLine ∧ Nx (upd H4 D (.lst (acc ++ [y]))) else Nx H3) := by
  refine lc_it w (fun i H => ∃ acc, H D = some (.lst acc) ∧ Same H1 H ∧ DqA H acc ((List.range i).map f)) ⟨[], upd_same, fun b o e => by rw [upd_ne (ne_of_none e nD)]; exact e, .nil⟩ (fun i H _ ⟨_, _, s, _⟩ => hG H s) (fun i x H H' hi ⟨acc, hD, s, q⟩ y => ?_) fun H ⟨acc, hD, s, q⟩ => hd H acc s hD q
  refine hs i x H H' _ _ hi s y fun z H4 s4 d4 => ⟨acc, s4 _ _ hD, szm (by have := q.len; rw [List.length_map, List.length_range] at this; omega), acc ++ [z], upd_same, fun b o e => ?_, ?_⟩
  · rw [upd_ne (ne_of_none e nD)]
    exact s4 _ _ (s _ _ e)
  · have t : TS H4 (upd H4 D (.lst (acc ++ [z]))) := TS.lst (s4 _ _ hD)
    rw [List.range_succ, List.map_append]
    refine dqa_snoc (DqA.upT t ?_ (q.up s4)) (Dq.upT t (hf i hi) d4)
    exact flatTA_of fun d hd => by
      obtain ⟨j, hj, rfl⟩ := List.mem_map.mp hd
      exact hf j (by have := List.mem_range.mp hj; omega)
end Kr
namespace Kr
open PySem PySem.Spec PyProof.Rows L2
/-- the inner walk of a comprehension with two -/
def Inner (D : Addr) (J1 : It) (g1 : TG) (tt1 : TT) (te : TE) (vs1 : List Nat) (σ2 : L2.St) (H4 : Hp) (Nx : Hp → Prop) : Prop :=
  ∃ W1 : Nat → Nat → Hp → Prop, (∃ m, W1 0 m H4) ∧ ∀ j k H, W1 j k H →
      (J1.stop j H ∧ Nx H) ∨ (J1.go j H ∧ ∃ Nx1 : Hp → Prop, (∀ H', Nx1 H' → ∃ k', k' < k ∧ W1 (j + 1) k' H') ∧ ∀ x H', J1.yld j H x H' → g1 x (wipe σ2 vs1) H' fun σ3 H5 => wipe σ3 vs1 = wipe σ2 vs1 ∧ tt1 σ3 H5 fun b H6 =>
        if b = true then te σ3 H6 fun y H7 => ∃ acc, H7 D = some (.lst acc) ∧ acc.length < sizeLine ∧ Nx1 (upd H7 D (.lst (acc ++ [y]))) else Nx1 H6)
theorem inner_it {J1 : It} {n1 : Nat} {G1 : Hp → Prop} {Y1 : Nat → Hp → V → Hp → Prop} (w : Walk J1 n1 G1 Y1) {D : Addr} {g1 : TG} {tt1 : TT} {te : TE} {vs1 : List Nat} {σ2 : L2.St} {H4 : Hp} {Nx : Hp → Prop} (Pv : Nat → Hp → Prop) (h0 : Pv 0 H4) (hG : ∀ j H, j ≤ n1 → Pv j H → G1 H)
    (hs : ∀ j x H H', j < n1 → Pv j H → Y1 j H x H' → g1 x (wipe σ2 vs1) H' fun σ3 H5 => wipe σ3 vs1 = wipe σ2 vs1 ∧ tt1 σ3 H5 fun b H6 => if b = true then te σ3 H6 fun y H7 => ∃ acc, H7 D = some (.lst acc) ∧ acc.length < sizeLine ∧ Pv (j + 1) (upd H7 D (.lst (acc ++ [y]))) else Pv (j + 1) H6)
    (hd : ∀ H, Pv n1 H → Nx H) : Inner D J1 g1 tt1 te vs1 σ2 H4 Nx := by
  refine ⟨fun j k H => k = n1 - j ∧ j ≤ n1 ∧ Pv j H, ⟨n1, by simp, Nat.zero_le _, h0⟩, ?_⟩
  rintro j k H ⟨rfl, hj, p⟩
  have q := hG j H hj p
  by_cases hlt : j < n1
  · exact .inr ⟨w.goes j H hlt q, Pv (j + 1), fun H' p' => ⟨n1 - (j + 1), by omega, rfl, hlt, p'⟩, fun x H' y => hs j x H H' hlt p (w.yields j H x H' hlt q y)⟩
  · obtain rfl : j = n1 := by omega
    exact .inl ⟨w.stops H q, hd H p⟩
theorem lc2_it {J : It} {n : Nat} {G : Hp → Prop} {Y : Nat → Hp → V → Hp → Prop} (w : Walk J n G Y) {D : Addr} {g g1 : TG} {tt tt1 : TT} {wi1 : TI} {te : TE} {vs vs1 : List Nat} {σ : L2.St} {H1 : Hp} {Qd : Hp → Prop} (Pv : Nat → Hp → Prop) (h0 : Pv 0 (upd H1 D (.lst []))) (hG : ∀ i H, i ≤ n → Pv i H → G H)
    (hs : ∀ i x H H', i < n → Pv i H → Y i H x H' → g x (wipe σ vs) H' fun σ2 H2 => wipe σ2 vs = wipe σ vs ∧ tt σ2 H2 fun b H3 => if b = true then wi1 σ2 H3 fun J1 H4 => Inner D J1 g1 tt1 te vs1 σ2 H4 (Pv (i + 1)) else Pv (i + 1) H3) (hd : ∀ H, Pv n H → Qd H) :
    ∃ W : Nat → Nat → Hp → Prop, (∃ m, W 0 m (upd H1 D (.lst []))) ∧ ∀ i m H, W i m H →
      (J.stop i H ∧ Qd H) ∨ (J.go i H ∧ ∃ Nx : Hp → Prop, (∀ H', Nx H' → ∃ m', m' < m ∧ W (i + 1) m' H') ∧ ∀ x H', J.yld i H x H' → g x (wipe σ vs) H' fun σ2 H2 => wipe σ2 vs = wipe σ vs ∧ tt σ2 H2 fun b H3 =>
        if b = true then wi1 σ2 H3 fun J1 H4 => Inner D J1 g1 tt1 te vs1 σ2 H4 Nx else Nx H3) := by
  refine ⟨fun i m H => m = n - i ∧ i ≤ n ∧ Pv i H, ⟨n, by simp, Nat.zero_le _, h0⟩, ?_⟩
  rintro i m H ⟨rfl, hi, p⟩
  have q := hG i H hi p
  by_cases hlt : i < n
  · exact .inr ⟨w.goes i H hlt q, Pv (i + 1), fun H' p' => ⟨n - (i + 1), by omega, rfl, hlt, p'⟩, fun x H' y => hs i x H H' hlt p (w.yields i H x H' hlt q y)⟩
  · obtain rfl : i = n := by omega
    exact .inl ⟨w.stops H q, hd H p⟩
/-- data of a list of lists of numbers -/
def lotD (l : List Nat) : PyData := .tuple (l.map fun (x : Nat) => .int (x : Int))
def lv (l : List Nat) : List V := l.map fun (x : Nat) => V.int (x : Int)
theorem lv_dq {H : Hp} (l : List Nat) : DqA H (lv l) (l.map fun (x : Nat) => PyData.int (x : Int)) := by
  induction l with
  | nil => exact .nil
  | cons x l ih => exact .cons (.int _) ih
theorem lot_at {H : Hp} {a : Addr} {l : List Nat} (h : H a = some (.tup (lv l))) : Dq H (.ref a) (lotD l) := .tup h (lv_dq l)
theorem lot_inv {H : Hp} {v : V} {l : List Nat} (h : Dq H v (lotD l)) : ∃ a, v = .ref a ∧ H a = some (.tup (lv l)) := by
  obtain ⟨a, xs, rfl, e, q⟩ := Dq.tup_inv h
  have : ∀ (xs : List V) (l : List Nat), DqA H xs (l.map fun (x : Nat) => PyData.int (x : Int)) → xs = lv l := by
    intro xs l
    induction l generalizing xs with
    | nil => intro q; cases q; rfl
    | cons x l ih =>
      intro q
      cases q with
      | cons h1 h2 =>
        cases h1
        rw [ih _ h2]
        rfl
  rw [this xs l q] at e
  exact ⟨a, rfl, e⟩
theorem lot_flat (l : List Nat) : flatT (lotD l) = true := by
  simp only [lotD, flatT]
  exact flatTA_of fun d hd => by
    obtain ⟨x, _, rfl⟩ := List.mem_map.mp hd
    rfl
theorem lots_flat (L : List (List Nat)) : flatTA (L.map lotD) = true := flatTA_of fun d hd => by
  obtain ⟨l, _, rfl⟩ := List.mem_map.mp hd
  exact lot_flat l
theorem lots_get {H : Hp} {xs : List V} {L : List (List Nat)} {i : Nat} {y : V} (q : DqA H xs (L.map lotD)) (e : xs[i]? = some y) : ∃ l, L[i]? = some l ∧ ∃ a, y = .ref a ∧ H a = some (.tup (lv l)) := by
  obtain ⟨d, h1, h2⟩ := q.get e
  rw [List.getElem?_map] at h1
  cases hr : L[i]? with
  | none => rw [hr] at h1; cases h1
  | some l =>
    rw [hr] at h1
    cases Option.some.inj h1
    exact ⟨l, rfl, lot_inv h2⟩
end Kr
namespace Kr
/-! ### how many ways -/
def ch : Nat → Nat → Nat
  | _, 0 => 1
  | 0, _ + 1 => 0
  | n + 1, k + 1 => ch n k + ch n (k + 1)
theorem ch_tab : ∀ n : Nat, n < 26 → ∀ k : Nat, k < 27 → PySem.W.mcComb (n : Int) (k : Int) = (ch n k : Int) := by decide +kernel
theorem ch_zero : ∀ n k : Nat, n < k → ch n k = 0
  | 0, 0, h => absurd h (Nat.lt_irrefl _)
  | 0, k + 1, _ => by simp [ch]
  | n + 1, 0, h => by omega
  | n + 1, k + 1, h => by
    rw [ch, ch_zero n k (by omega), ch_zero n (k + 1) (by omega)]
theorem ch_self : ∀ n : Nat, ch n n = 1
  | 0 => by simp [ch]
  | n + 1 => by rw [ch, ch_self n, ch_zero n (n + 1) (by omega)]
theorem ch_pos : ∀ n k : Nat, k ≤ n → 0 < ch n k
  | n, 0, _ => by cases n <;> simp [ch]
  | 0, k + 1, h => by omega
  | n + 1, k + 1, h => by
    rw [ch]
    have := ch_pos n k (by omega)
    omega
/-- those of fewer places -/
def below (n s : Nat) : Nat := ((List.range s).map fun k => ch n k).sum
theorem below_succ (n s : Nat) : below n (s + 1) = below n s + ch n s := by
  unfold below
  rw [List.range_succ, List.map_append, List.sum_append]
  simp
theorem below_all (n : Nat) (hn : n < 26) : below n (n + 1) = 2 ^ n := by
  have : ∀ n : Nat, n < 26 → below n (n + 1) = 2 ^ n := by decide +kernel
  exact this n hn
theorem below_le {n s t : Nat} (h : s ≤ t) : below n s ≤ below n t := by
  induction t with
  | zero => rw [show s = 0 by omega]; exact Nat.le_refl _
  | succ t ih =>
    by_cases hs : s = t + 1
    · rw [hs]; exact Nat.le_refl _
    · rw [below_succ]
      have := ih (by omega)
      omega
/-! ### lots in their order -/
/-- the lot among those of k places from p on, m places being left -/
def un : Nat → Nat → Nat → Nat → List Nat
  | _, 0, _, _ => []
  | _, _ + 1, 0, _ => []
  | p, m + 1, k + 1, a => if a < ch m k then p :: un (p + 1) m k a else un (p + 1) m (k + 1) (a - ch m k)
/-- how many stand ahead -/
def rk : Nat → Nat → List Nat → Nat
  | _, _, [] => 0
  | _, 0, _ :: _ => 0
  | p, m + 1, x :: xs => if x = p then rk (p + 1) m xs else ch m xs.length + rk (p + 1) m (x :: xs)
/-- an ascending list of numbers from p to p + m - 1 -/
def Asc (p m : Nat) (l : List Nat) : Prop := l.Pairwise (· < ·) ∧ ∀ x ∈ l, p ≤ x ∧ x < p + m
theorem Asc.len : ∀ {p m : Nat} {l : List Nat}, Asc p m l → l.length ≤ m
  | _, _, [], _ => Nat.zero_le _
  | p, 0, x :: l, h => by
    have := h.2 x List.mem_cons_self
    omega
  | p, m + 1, x :: l, h => by
    obtain ⟨h1, h2⟩ := List.pairwise_cons.mp h.1
    have hx := h.2 x List.mem_cons_self
    have : Asc (p + 1) m l := ⟨h2, fun y hy => by
      have := h1 y hy
      have := h.2 y (List.mem_cons_of_mem _ hy)
      omega⟩
    have := this.len
    rw [List.length_cons]
    omega
theorem Asc.tail {p m x : Nat} {l : List Nat} (h : Asc p (m + 1) (x :: l)) (hx : x = p) : Asc (p + 1) m l := by
  obtain ⟨h1, h2⟩ := List.pairwise_cons.mp h.1
  refine ⟨h2, fun y hy => ?_⟩
  have := h1 y hy
  have := h.2 y (List.mem_cons_of_mem _ hy)
  omega
theorem Asc.skip {p m x : Nat} {l : List Nat} (h : Asc p (m + 1) (x :: l)) (hx : ¬ x = p) : Asc (p + 1) m (x :: l) := by
  refine ⟨h.1, fun y hy => ?_⟩
  obtain ⟨h1, _⟩ := List.pairwise_cons.mp h.1
  have hx0 := h.2 x List.mem_cons_self
  have hy0 := h.2 y hy
  rcases List.mem_cons.mp hy with e | hm
  · omega
  · have := h1 y hm
    omega
theorem rk_un : ∀ (m p : Nat) (l : List Nat), Asc p m l → un p m l.length (rk p m l) = l ∧ rk p m l < ch m l.length
  | 0, p, l, h => by
    have := h.len
    have : l = [] := List.length_eq_zero_iff.mp (by omega)
    subst this
    exact ⟨rfl, by simp [rk, ch]⟩
  | m + 1, p, [], _ => ⟨rfl, by simp [rk, ch]⟩
  | m + 1, p, x :: l, h => by
    simp only [List.length_cons, un, rk, ch]
    by_cases hx : x = p
    · obtain ⟨h1, h2⟩ := rk_un m (p + 1) l (h.tail hx)
      rw [if_pos hx, if_pos h2, h1, hx]
      exact ⟨rfl, by omega⟩
    · obtain ⟨h1, h2⟩ := rk_un m (p + 1) (x :: l) (h.skip hx)
      rw [if_neg hx, if_neg (by omega), Nat.add_sub_cancel_left]
      rw [List.length_cons] at h1 h2
      exact ⟨h1, by omega⟩
theorem un_rk : ∀ (m p k a : Nat), a < ch m k → Asc p m (un p m k a) ∧ (un p m k a).length = k ∧ rk p m (un p m k a) = a
  | 0, p, 0, a, h => ⟨⟨.nil, fun x hx => nomatch hx⟩, rfl, by simp [ch] at h; simp [un, rk, h]⟩
  | 0, p, k + 1, a, h => by simp [ch] at h
  | m + 1, p, 0, a, h => ⟨⟨.nil, fun x hx => nomatch hx⟩, rfl, by simp [ch] at h; simp [un, rk, h]⟩
  | m + 1, p, k + 1, a, h => by
    simp only [un]
    by_cases ha : a < ch m k
    · obtain ⟨⟨h1, h2⟩, h3, h4⟩ := un_rk m (p + 1) k a ha
      rw [if_pos ha]
      refine ⟨⟨List.pairwise_cons.mpr ⟨fun y hy => by have := h2 y hy; omega, h1⟩, fun y hy => ?_⟩, by rw [List.length_cons, h3], by simp [rk, h4]⟩
      rcases List.mem_cons.mp hy with e | hm
      · omega
      · have := h2 y hm
        omega
    · rw [ch] at h
      obtain ⟨⟨h1, h2⟩, h3, h4⟩ := un_rk m (p + 1) (k + 1) (a - ch m k) (by omega)
      rw [if_neg ha]
      refine ⟨⟨h1, fun y hy => by have := h2 y hy; omega⟩, h3, ?_⟩
      cases e : un (p + 1) m (k + 1) (a - ch m k) with
      | nil => rw [e] at h3; cases h3
      | cons x l =>
        rw [e] at h2 h3 h4
        have hx := h2 x List.mem_cons_self
        simp only [rk]
        rw [if_neg (by omega), h4, show l.length = k by simpa using h3]
        omega
/-! ### the number of a lot -/
def num (n : Nat) (l : List Nat) : Nat := below n l.length + rk 0 n l
/-- the size of the lot with a number, and what is left -/
def sizeAt (n : Nat) : Nat → Nat → Nat → Option (Nat × Nat)
  | 0, _, _ => none
  | f + 1, s, a => if a < ch n s then some (s, a) else sizeAt n f (s + 1) (a - ch n s)
def lotAt (n a : Nat) : Option (List Nat) := (sizeAt n (n + 1) 0 a).map fun (s, r) => un 0 n s r
theorem sizeAt_ok (n : Nat) : ∀ (f s a t r : Nat), t < s + f → s ≤ t → below n s + a = below n t + r → r < ch n t → sizeAt n f s a = some (t, r)
  | 0, s, a, t, r, h, h1, _, _ => by omega
  | f + 1, s, a, t, r, h, h1, h2, h3 => by
    simp only [sizeAt]
    by_cases hs : s = t
    · subst hs
      rw [if_pos (by omega)]
      have : a = r := by omega
      rw [this]
    · have h4 := below_le (n := n) (show s + 1 ≤ t by omega)
      rw [below_succ] at h4
      rw [if_neg (by omega)]
      exact sizeAt_ok n f (s + 1) (a - ch n s) t r (by omega) (by omega) (by rw [below_succ]; omega) h3
theorem sizeAt_ex (n : Nat) : ∀ (f s a : Nat), below n s + a < below n (s + f) → ∃ t r, sizeAt n f s a = some (t, r) ∧ s ≤ t ∧ t < s + f ∧ below n s + a = below n t + r ∧ r < ch n t
  | 0, s, a, h => by
    rw [Nat.add_zero] at h
    omega
  | f + 1, s, a, h => by
    simp only [sizeAt]
    by_cases ha : a < ch n s
    · rw [if_pos ha]
      exact ⟨s, a, rfl, Nat.le_refl _, by omega, rfl, ha⟩
    · rw [if_neg ha]
      obtain ⟨t, r, h1, h2, h3, h4, h5⟩ := sizeAt_ex n f (s + 1) (a - ch n s) (by rw [below_succ, show s + 1 + f = s + (f + 1) by omega]; omega)
      rw [below_succ] at h4
      exact ⟨t, r, h1, by omega, by omega, by omega, h5⟩
theorem sizeAt_none (n : Nat) : ∀ (f s a : Nat), below n (s + f) ≤ below n s + a → sizeAt n f s a = none
  | 0, s, a, _ => rfl
  | f + 1, s, a, h => by
    have h4 := below_le (n := n) (show s + 1 ≤ s + (f + 1) by omega)
    rw [below_succ] at h4
    simp only [sizeAt]
    rw [if_neg (by omega)]
    exact sizeAt_none n f (s + 1) (a - ch n s) (by rw [below_succ, show s + 1 + f = s + (f + 1) by omega]; omega)
theorem lotAt_num {n : Nat} {l : List Nat} (h : Asc 0 n l) : lotAt n (num n l) = some l := by
  obtain ⟨h1, h2⟩ := rk_un n 0 l h
  have hl := h.len
  unfold lotAt
  rw [sizeAt_ok n (n + 1) 0 (num n l) l.length (rk 0 n l) (by omega) (by omega) (by show 0 + _ = _; rw [Nat.zero_add]; rfl) h2]
  simp only [Option.map_some]
  rw [h1]
theorem lotAt_some {n a : Nat} (hn : n < 26) (ha : a < 2 ^ n) : ∃ l, lotAt n a = some l ∧ Asc 0 n l ∧ num n l = a := by
  obtain ⟨t, r, h1, h2, h3, h4, h5⟩ := sizeAt_ex n (n + 1) 0 a (by rw [Nat.zero_add, below_all n hn]; show 0 + a < _; omega)
  obtain ⟨g1, g2, g3⟩ := un_rk n 0 t r h5
  refine ⟨un 0 n t r, by unfold lotAt; rw [h1]; rfl, g1, ?_⟩
  unfold num
  rw [g2, g3]
  have : below n 0 = 0 := rfl
  omega
theorem lotAt_none {n a : Nat} (hn : n < 26) (ha : 2 ^ n ≤ a) : lotAt n a = none := by
  unfold lotAt
  rw [sizeAt_none n (n + 1) 0 a (by rw [Nat.zero_add, below_all n hn]; show _ ≤ 0 + a; omega)]
  rfl
/-! ### the same, by spots -/
/-- what lot_number adds for the places from s on -/
def numGo (n : Nat) : Nat → List Nat → Nat
  | _, [] => 0
  | p, x :: xs => ((List.range (x - p)).map fun j => ch (n - 1 - (p + j)) xs.length).sum + numGo n (x + 1) xs
theorem rk_go : ∀ (m p : Nat) (l : List Nat), Asc p m l → rk p m l = numGo (p + m) p l
  | m, p, [], _ => by cases m <;> rfl
  | 0, p, x :: l, h => by
    have := h.2 x List.mem_cons_self
    omega
  | m + 1, p, x :: l, h => by
    simp only [rk]
    by_cases hx : x = p
    · rw [if_pos hx, rk_go m (p + 1) l (h.tail hx)]
      simp only [numGo]
      rw [hx, Nat.sub_self, show p + (m + 1) = p + 1 + m by omega]
      simp
    · have hx0 := h.2 x List.mem_cons_self
      rw [if_neg hx, rk_go m (p + 1) (x :: l) (h.skip hx)]
      simp only [numGo]
      rw [show x - p = (x - (p + 1)) + 1 by omega, List.range_succ_eq_map, List.map_cons, List.map_map, List.sum_cons, show p + (m + 1) = p + 1 + m by omega]
      have e1 : ch (p + 1 + m - 1 - (p + 0)) l.length = ch m l.length := by congr 1; omega
      have e2 : ((fun j => ch (p + 1 + m - 1 - (p + j)) l.length) ∘ Nat.succ) = fun j => ch (p + 1 + m - 1 - (p + 1 + j)) l.length := by
        funext j
        show ch (p + 1 + m - 1 - (p + (j + 1))) l.length = _
        congr 1
        omega
      rw [e1, e2]
      omega
theorem num_go {n : Nat} {l : List Nat} (h : Asc 0 n l) : num n l = below n l.length + numGo n 0 l := by
  unfold num
  rw [rk_go n 0 l h, Nat.zero_add]
/-! ### all lots of a size -/
def nx (l : List Nat) : Nat := match l.getLast? with
  | some x => x + 1
  | none => 0
def stepL (n : Nat) (L : List (List Nat)) : List (List Nat) := L.flatMap fun l => (List.range' (nx l) (n - nx l)).map fun x => l ++ [x]
def lotsL (n : Nat) : Nat → List (List Nat)
  | 0 => [[]]
  | s + 1 => stepL n (lotsL n s)
/-- the law's own: lots that can't be filled up are left out -/
def lawStep (n s t : Nat) (L : List (List Nat)) : List (List Nat) := L.flatMap fun l => (List.range' (nx l) (n - s + t + 1 - nx l)).map fun x => l ++ [x]
def lawL (n s : Nat) : Nat → List (List Nat)
  | 0 => [[]]
  | t + 1 => lawStep n s t (lawL n s t)
def allL (n : Nat) : List (List Nat) := (List.range (n + 1)).flatMap fun s => lotsL n s
theorem lots_law : ∀ n : Nat, n < 13 → ∀ s : Nat, s < n + 1 → lawL n s s = lotsL n s := by decide +kernel
theorem lots_len : ∀ n : Nat, n < 13 → ∀ s : Nat, s < 13 → (lotsL n s).length = ch n s := by decide +kernel
theorem lots_nums : ∀ n : Nat, n < 7 → (allL n).map (num n) = List.range (2 ^ n) := by decide +kernel
end Kr
namespace Kr
open PySem PySem.Spec PyProof.Rows L2
theorem ch_small : ∀ n : Nat, n < 13 → ∀ s : Nat, s < 14 → ch n s < 1000 := by decide +kernel
theorem range1_succ (s j : Nat) : List.range' s (j + 1) = List.range' s j ++ [s + j] := by
  rw [List.range'_concat]
  simp
theorem flat_take {α β : Type} {L : List α} {f : α → List β} {i : Nat} {x : α} (h : L[i]? = some x) : (L.take (i + 1)).flatMap f = (L.take i).flatMap f ++ f x := by
  rw [List.take_add_one, h, List.flatMap_append]
  simp
theorem flat_le {α β : Type} (L : List α) (f : α → List β) (i : Nat) : ((L.take i).flatMap f).length ≤ (L.flatMap f).length := by
  conv => rhs; rw [← List.take_append_drop i L]
  rw [List.flatMap_append, List.length_append]
  omega
def exts (n : Nat) (l : List Nat) : List (List Nat) := (List.range' (nx l) (n - nx l)).map fun x => l ++ [x]
theorem step_exts (n : Nat) (L : List (List Nat)) : stepL n L = L.flatMap (exts n) := rfl
theorem nx_nil : nx [] = 0 := rfl
theorem nx_snoc (l : List Nat) (x : Nat) : nx (l ++ [x]) = x + 1 := by simp [nx]
theorem lv_snoc (l : List Nat) (x : Nat) : lv (l ++ [x]) = lv l ++ [V.int (x : Int)] := by simp [lv]
theorem lv_len (l : List Nat) : (lv l).length = l.length := by simp [lv]
theorem lots_in (n : Nat) : ∀ s, ∀ l ∈ lotsL n s, l.length = s ∧ ∀ x ∈ l, x < n
  | 0, l, h => by
    rw [List.mem_singleton.mp h]
    exact ⟨rfl, fun x hx => nomatch hx⟩
  | s + 1, l, h => by
    obtain ⟨k, hk, hl⟩ := List.mem_flatMap.mp h
    obtain ⟨x, hx, rfl⟩ := List.mem_map.mp hl
    obtain ⟨h1, h2⟩ := lots_in n s k hk
    have := List.mem_range'_1.mp hx
    refine ⟨by rw [List.length_append, h1]; rfl, fun y hy => ?_⟩
    rcases List.mem_append.mp hy with hy | hy
    · exact h2 y hy
    · rw [List.mem_singleton.mp hy]; omega
abbrev tNextL (K : PySem.W.Frag) (i : Nat) : TE := tIf (fun σ H Q => tVar i σ H fun x H' => ∃ k, TruV K x H' k ∧ Q k H') (tOp (rI0 fun i j => .int (i + j)) (tOp (rIxT K) (tVar i) (tUn (rU fun i => .int (-i)) (tC (.int 1)))) (tC (.int 1))) (tC (.int 0))
/-- what stands ahead of the extensions of a lot: lot[-1] + 1 if lot else 0 -/
theorem next_val {K : PySem.W.Frag} {σ : L2.St} {i : Nat} {a : Addr} {l : List Nat} {H : Hp} {Q : VK} (hv : σ[i]? = some (some (.ref a))) (ha : H a = some (.tup (lv l))) (q : Q (.int (nx l : Nat)) H) :
    tNextL K i σ H Q := by
  refine ⟨.ref a, hv, _, .inr (.inl ⟨_, SqT.of ha, rfl⟩), ?_⟩
  by_cases hl : l = []
  · subst hl
    exact iteF q
  · obtain ⟨k, x, rfl⟩ : ∃ k x, l = k ++ [x] := ⟨l.dropLast, l.getLast hl, (List.dropLast_concat_getLast hl).symm⟩
    rw [nx_snoc] at q
    have e : (!(lv (k ++ [x])).isEmpty) = true := by simp [lv]
    rw [e]
    refine iteT ⟨.ref a, hv, 1, rfl, a, _, -1, .int (x : Int), rfl, rfl, SqT.of ha, by rw [lv_snoc]; exact atI_last _ _, x, 1, rfl, rfl, ?_⟩
    have e2 : ((x : Int) + 1) = ((x + 1 : Nat) : Int) := by omega
    dsimp only
    rw [e2]
    exact q
def spLots : Sp := fun vs H Q _ => ∃ n s : Nat, vs = [.int (n : Int), .int (s : Int)] ∧ n ≤ 12 ∧ s ≤ 12 ∧ ∀ H' v, Same H H' → Dq H' v (.tuple ((lotsL n s).map lotD)) → Q v H'
end Kr
namespace Kr
open PySem PySem.Spec PyProof.Rows L2
def entD (e : List Int) : PyData := .tuple (e.map .int)
def tabD (T : List (List Int)) : PyData := .tuple (T.map entD)
/-- the entry of a lot l where the riders' ways are ws -/
def byE (l : List Nat) (ws : List Int) : List Int := (List.range ws.length).map fun x => if x ∈ l then -1 else ws.getD x 0
def ups (n : Nat) : List Int := (List.range n).map fun k => ((k : Nat) : Int)
def stillT (n : Nat) : List (List Int) := (allL n).map fun l => byE l (ups n)
def swapW (n a b : Nat) : List Int := ((ups n).set a (b : Int)).set b (a : Int)
def deedT (n : Nat) (q : List Nat) (a b : Nat) : List (List Int) := (allL n).map fun l => byE l (if q.all (fun x => decide (x ∈ l)) = true then swapW n a b else ups n)
theorem ent_flat (e : List Int) : flatT (entD e) = true := by
  simp only [entD, flatT]
  exact flatTA_of fun d hd => by
    obtain ⟨x, _, rfl⟩ := List.mem_map.mp hd
    rfl
theorem ents_flat (T : List (List Int)) : flatTA (T.map entD) = true := flatTA_of fun d hd => by
  obtain ⟨l, _, rfl⟩ := List.mem_map.mp hd
  exact ent_flat l
theorem ent_at {H : Hp} {a : Addr} {e : List Int} (h : H a = some (.tup (e.map V.int))) : Dq H (.ref a) (entD e) := .tup h (DqA.ints e)
theorem dqa_int {H : Hp} : ∀ {xs : List V} {ns : List Int}, DqA H xs (ns.map .int) → xs = ns.map V.int
  | _, [], .nil => rfl
  | _, n :: ns, .cons (.int _) t => by rw [dqa_int t]; rfl
theorem inV_lot (x : Nat) (l : List Nat) : inV (.int (x : Int)) (lv l) = decide (x ∈ l) := by
  unfold inV lv
  rw [Bool.eq_iff_iff, List.any_eq_true, decide_eq_true_iff]
  constructor
  · rintro ⟨v, hv, e⟩
    obtain ⟨y, hy, rfl⟩ := List.mem_map.mp hv
    have : (y : Int) = (x : Int) := by simpa [eqV] using e
    have : y = x := by omega
    rw [← this]
    exact hy
  · intro h
    exact ⟨_, List.mem_map.mpr ⟨x, h, rfl⟩, by simp [eqV]⟩
theorem lv_fl (l : List Nat) : (lv l).all flatV = true := by
  unfold lv
  rw [List.all_map]
  exact List.all_eq_true.mpr fun _ _ => rfl
/-- a statement that no run reaches -/
theorem ps_never {X : Cx} {st : Stmt} : PS X st (fun _ _ _ => False) := ⟨fun _ _ _ _ _ _ h => False.elim h⟩
def spAll6 : Sp := fun vs H Q _ => ∃ n : Nat, vs = [.int (n : Int)] ∧ n ≤ 6 ∧ ∀ H' v, Same H H' → Dq H' v (.tuple ((allL n).map lotD)) → Q v H'
def spEntBy : Sp := fun vs H Q _ => ∃ (a b : Addr) (l : List Nat) (ws : List Int), vs = [.ref a, .ref b] ∧ H a = some (.tup (lv l)) ∧ H b = some (.lst (ws.map V.int)) ∧ ws.length ≤ 100 ∧ ∀ H' t, Same H H' → H' t = some (.tup ((byE l ws).map V.int)) → Q (.ref t) H'
def spStill : Sp := fun vs H Q _ => ∃ n : Nat, vs = [.int (n : Int)] ∧ n ≤ 6 ∧ ∀ H' v, Same H H' → Dq H' v (tabD (stillT n)) → Q v H'
theorem rg_ups (n : Nat) : rgV 0 (n : Nat) = (ups n).map V.int := by
  unfold rgV ups
  rw [List.map_map, show ((n : Int) - 0).toNat = n by omega]
  exact List.map_congr_left fun i _ => by simp
theorem all_few : ∀ n : Nat, n < 7 → (allL n).length ≤ 64 := by decide +kernel
theorem all_len : ∀ n : Nat, n < 7 → (allL n).length = 2 ^ n := by decide +kernel
theorem map_getD {α β : Type} (g : α → β) (d : α) (L : List α) : (List.range L.length).map (fun i => g (L.getD i d)) = L.map g := by
  refine List.ext_getElem? fun i => ?_
  rw [List.getElem?_map, List.getElem?_map]
  by_cases h : i < L.length
  · rw [List.getElem?_range h, List.getElem?_eq_getElem h]
    show some (g (L.getD i d)) = some (g L[i])
    rw [List.getD_eq_getElem?_getD, List.getElem?_eq_getElem h]
    rfl
  · rw [List.getElem?_eq_none (by rw [List.length_range]; omega), List.getElem?_eq_none (by omega)]
    rfl
theorem getD_of {α : Type} {L : List α} {i : Nat} {x d : α} (h : L[i]? = some x) : L.getD i d = x := by
  rw [List.getD_eq_getElem?_getD, h]
  rfl
section
variable {P : Program} {w : World} {K : PySem.W.Frag} {mg : Str → Option Value} {base : Heap}
def spWays : Sp := fun vs H Q _ => ∃ (n : Nat) (b : Addr) (ws : List Int), vs = [.int (n : Int), .ref b] ∧ n ≤ 6 ∧ H b = some (.lst (ws.map V.int)) ∧ ws.length ≤ 100 ∧ ∀ H' v, Same H H' → Dq H' v (tabD ((allL n).map fun l => byE l ws)) → Q v H'
end
def spDeedT : Sp := fun vs H Q _ => ∃ (n : Nat) (d q : Addr) (as : List Nat) (a b : Nat), vs = [.int (n : Int), .ref d] ∧ n ≤ 6 ∧ H d = some (.tup [.ref q, .int (a : Int), .int (b : Int)]) ∧ H q = some (.tup (lv as)) ∧ as.length ≤ 24 ∧ a < n ∧ b < n ∧
  ∀ H' v, Same H H' → Dq H' v (tabD (deedT n as a b)) → Q v H'
def spExch : Sp := fun vs H Q _ => ∃ (n : Int) (a : Addr) (xs : List V) (v : V), vs = [.int n, .ref a] ∧ H a = some (.tup (v :: xs)) ∧ Q v H
theorem dqa_bools {H : Hp} : ∀ {xs : List V} {bs : List Bool}, DqA H xs (bs.map .bool) → xs = bs.map V.bl
  | _, [], .nil => rfl
  | _, n :: ns, .cons (.bl _) t => by rw [dqa_bools t]; rfl
theorem ixN_nat {n i : Nat} (h : i < n) : ixN n (i : Int) = some i := by
  unfold ixN
  rw [if_pos (by omega), if_pos (by omega), Int.toNat_natCast]
theorem take_snoc {α β : Type} {L : List α} {f : α → β} {i : Nat} {x : α} (h : L[i]? = some x) : (L.take (i + 1)).map f = (L.take i).map f ++ [f x] := by
  rw [List.take_add_one, h, List.map_append]
  rfl
def goalE (n : Nat) (e : List Int) : List Nat := (List.range n).filter fun x => !decide ((x : Int) ∈ e)
theorem every_few : ∀ n : Nat, n < 7 → ∀ i : Nat, i < 8 → ((List.range i).flatMap (lotsL n)).length ≤ 64 := by decide +kernel
def spGoal : Sp := fun vs H Q _ => ∃ (n : Nat) (a : Addr) (e : List Int), vs = [.int (n : Int), .ref a] ∧ n ≤ 100 ∧ H a = some (.tup (e.map V.int)) ∧ ∀ H' t, Same H H' → H' t = some (.tup (lv (goalE n e))) → Q (.ref t) H'
def spEvery : Sp := fun vs H Q _ => ∃ n : Nat, vs = [.int (n : Int)] ∧ n ≤ 6 ∧ ∀ H' v, Same H H' → Dq H' v (.list ((allL n).map lotD)) → Q v H'
theorem inV_int (x : Int) (l : List Int) : inV (.int x) (l.map V.int) = decide (x ∈ l) := by
  unfold inV
  rw [Bool.eq_iff_iff, List.any_eq_true, decide_eq_true_iff]
  constructor
  · rintro ⟨v, hv, e⟩
    obtain ⟨y, hy, rfl⟩ := List.mem_map.mp hv
    have : y = x := by simpa [eqV] using e
    rw [← this]
    exact hy
  · intro h
    exact ⟨_, List.mem_map.mpr ⟨x, h, rfl⟩, by simp [eqV]⟩
theorem int_fl (l : List Int) : (l.map V.int).all flatV = true := by
  rw [List.all_map]
  exact List.all_eq_true.mpr fun _ _ => rfl
theorem dep_ints1 : ∀ ds : List Int, PyData.depthAll (ds.map PyData.int) ≤ 1
  | [] => by simp [PyData.depthAll]
  | d :: ds => by
    have := dep_ints1 ds
    simp [PyData.depthAll, PyData.depth]
    omega
theorem lay_ints1 : ∀ ds : List Int, PyData.canLayAll0 (ds.map PyData.int) = true
  | [] => by simp [PyData.canLayAll0]
  | d :: ds => by simp [PyData.canLayAll0, PyData.canLay0, lay_ints1 ds]
theorem tup_shaped (ds : List Int) : SeqAt.shaped (.tuple (ds.map PyData.int)) = true := by
  unfold SeqAt.shaped
  have := dep_ints1 ds
  simp [PyData.canLay0, lay_ints1, PyData.depth]
  omega
theorem lot_shaped (l : List Nat) : SeqAt.shaped (lotD l) = true := by
  have e : l.map (fun (x : Nat) => PyData.int (x : Int)) = (l.map fun (x : Nat) => (x : Int)).map PyData.int := by rw [List.map_map]; rfl
  unfold lotD
  rw [e]
  exact tup_shaped _
theorem lot_nil_eqv (l : List Nat) : PyData.eqv (lotD l) (lotD []) = decide (l = []) := by
  cases l <;> simp [lotD, PyData.eqv, PyData.eqvAll]
section
variable {P : Program} {w : World} {K : PySem.W.Frag} {mg : Str → Option Value} {base : Heap}
/-- lot[-1] + 1 if lot != () else 0 -/
theorem next_ne {σ : L2.St} {i : Nat} {a : Addr} {l : List Nat} {G : Hp} {Q : VK} (hv : σ[i]? = some (some (.ref a))) (ha : G a = some (.tup (lv l))) (q : ∀ G', Same G G' → Q (.int (nx l : Nat)) G') :
    tIf (tTest (tOp (rNeD K) (tVar i) (tTup tNil))) (tOp (rI0 fun i j => .int (i + j)) (tOp (rIxT K) (tVar i) (tUn (rU fun i => .int (-i)) (tC (.int 1)))) (tC (.int 1))) (tC (.int 0)) σ G Q := by
  refine ⟨.ref a, hv, by show 0 ≤ sizeLine; decide, fun e ne => ?_⟩
  have s1 := same_new (o := .tup []) ne
  refine ⟨lotD l, lotD [], (lot_at (s1 _ _ ha)).dp (lot_flat l), (lot_at (l := []) upd_same).dp (lot_flat []), lot_shaped l, lot_shaped [], _, rfl, ?_⟩
  rw [lot_nil_eqv]
  by_cases hl : l = []
  · rw [decide_eq_true hl]
    subst hl
    exact iteF (q _ s1)
  · rw [decide_eq_false hl]
    obtain ⟨k, x, rfl⟩ : ∃ k x, l = k ++ [x] := ⟨l.dropLast, l.getLast hl, (List.dropLast_concat_getLast hl).symm⟩
    have h2 := q _ s1
    rw [nx_snoc] at h2
    refine iteT ⟨.ref a, hv, 1, rfl, a, _, -1, .int (x : Int), rfl, rfl, SqT.of (s1 _ _ ha), by rw [lv_snoc]; exact atI_last _ _, x, 1, rfl, rfl, ?_⟩
    have e2 : ((x : Int) + 1) = ((x + 1 : Nat) : Int) := by omega
    dsimp only
    rw [e2]
    exact h2
end
def setGo : Nat → List Int → List Int → List Int
  | _, [], acc => acc
  | y, x :: r, acc => setGo (y + 1) r (if 0 ≤ x then acc.set x.toNat (y : Int) else acc)
def lawE (n : Nat) (lies : List Int) : List Int := setGo 0 lies (List.replicate n (-1))
theorem setGo_len : ∀ (y : Nat) (r acc : List Int), (setGo y r acc).length = acc.length
  | _, [], _ => rfl
  | y, x :: r, acc => by
    unfold setGo
    rw [setGo_len]
    split
    · rw [List.length_set]
    · rfl
def spLEnt : Sp := fun vs H Q _ => ∃ (n : Nat) (a : Addr) (ls : List Int), vs = [.int (n : Int), .ref a] ∧ 3 ≤ n ∧ n ≤ 6 ∧ H a = some (.lst (ls.map V.int)) ∧ ls.length ≤ 100 ∧ (∀ x ∈ ls, x < n) ∧ ∀ H' t, Same H H' → H' t = some (.tup ((lawE n ls).map V.int)) → Q (.ref t) H'
abbrev Mv := List Nat × Nat × Nat
def stL (n : Nat) (l : List Nat) : List Int := (List.range n).map fun x => if x ∈ l then -1 else ((x : Nat) : Int)
def mvL (ls : List Int) (m : Mv) : List Int := if m.1.all (fun x => !decide (0 ≤ ls.getD x 0)) = true then (ls.set m.2.1 (ls.getD m.2.2 0)).set m.2.2 (ls.getD m.2.1 0) else ls
def madeE (n : Nat) (ms : List Mv) (l : List Nat) : List Int := lawE n (ms.foldl mvL (stL n l))
def madeT (n : Nat) (ms : List Mv) : List (List Int) := (allL n).map (madeE n ms)
def DeedAt (H : Hp) (v : V) (m : Mv) : Prop := ∃ d q, v = .ref d ∧ H d = some (.tup [.ref q, .int (m.2.1 : Nat), .int (m.2.2 : Nat)]) ∧ H q = some (.tup (lv m.1))
def spMade : Sp := fun vs H Q _ => ∃ (n : Nat) (mo : Addr) (xs : List V) (ms : List Mv), vs = [.int (n : Int), .ref mo] ∧ 3 ≤ n ∧ n ≤ 6 ∧ H mo = some (.lst xs) ∧ xs.length = ms.length ∧ (∀ (j : Nat) (v : V) (m : Mv), xs[j]? = some v → ms[j]? = some m → DeedAt H v m) ∧ (∀ m ∈ ms, (m.2.1 < n ∧ m.2.2 < n) ∧ m.1.length ≤ 100 ∧ ∀ x ∈ m.1, x < n) ∧
  ∀ H' v, Same H H' → Dq H' v (tabD (madeT n ms)) → Q v H'
theorem getD_lt {n : Nat} {ls : List Int} (hn : 0 < n) (h : ∀ x ∈ ls, x < n) (i : Nat) : ls.getD i 0 < n := by
  rw [List.getD_eq_getElem?_getD]
  cases e : ls[i]? with
  | none => show (0 : Int) < n; omega
  | some y => exact h y (List.mem_of_getElem? e)
theorem set_lt {n : Nat} {ls : List Int} {i : Nat} {z : Int} (hz : z < n) (h : ∀ x ∈ ls, x < n) : ∀ x ∈ ls.set i z, x < n := fun x hx => by
  rcases List.mem_or_eq_of_mem_set hx with h1 | h1
  · exact h x h1
  · rw [h1]; exact hz
theorem getD_get {ls : List Int} {i : Nat} (h : i < ls.length) : ls[i]? = some (ls.getD i 0) := by
  rw [List.getD_eq_getElem?_getD, List.getElem?_eq_getElem h]
  rfl
/-- a deed at n places -/
structure Deed (n : Nat) (m : Mv) : Prop where
  asc : Asc 0 n m.1
  ab : m.2.1 < m.2.2
  bn : m.2.2 < n
  na : m.2.1 ∉ m.1
  nb : m.2.2 ∉ m.1
/-- sorted pieces of a drawn order -/
theorem drawn_piece {n : Nat} {ys ps zs : List Int} (hp : ys.Perm (ups n)) (hs : ps.Sublist ys) (hz : zs.Perm ps) (ho : zs.Pairwise (· ≤ ·)) : ∃ ds : List Nat, zs = ds.map (fun (x : Nat) => (x : Int)) ∧ Asc 0 n ds := by
  have hm : ∀ z ∈ zs, 0 ≤ z ∧ z < n := fun z h => by
    have h1 := hp.subset (hs.subset (hz.subset h))
    unfold ups at h1
    obtain ⟨k, hk, rfl⟩ := List.mem_map.mp h1
    have := List.mem_range.mp hk
    omega
  have hnd : zs.Nodup := by
    have h0 : (ups n).Nodup := List.Pairwise.map _ (fun a b (h : a < b) => by show ((a : Nat) : Int) ≠ b; omega) List.pairwise_lt_range
    exact hz.symm.nodup ((hp.symm.nodup h0).sublist hs)
  refine ⟨zs.map Int.toNat, ?_, ?_, fun x hx => ?_⟩
  · rw [List.map_map]
    refine (List.map_id zs).symm.trans (List.map_congr_left fun z h => ?_)
    have := hm z h
    show z = ((z.toNat : Nat) : Int)
    omega
  · rw [List.pairwise_map]
    refine List.Pairwise.imp_of_mem (fun {a b} ha hb h => ?_) (ho.and hnd)
    have h1 := hm a ha
    have h2 := hm b hb
    have h3 : a ≤ b ∧ a ≠ b := h
    omega
  · obtain ⟨z, h, rfl⟩ := List.mem_map.mp hx
    have := hm z h
    exact ⟨Nat.zero_le _, by omega⟩
/-- a lot as a key -/
def lotK (l : List Nat) : List Key := l.map fun (x : Nat) => (Sum.inl (x : Int) : Key)
theorem lotK_v (l : List Nat) : (lotK l).map kV = lv l := by
  unfold lotK lv
  rw [List.map_map]
  rfl
def spNumbers : Sp := fun vs H Q _ => ∃ n : Nat, vs = [.int (n : Int)] ∧ n ≤ 6 ∧ ∀ H' p kvs, Same H H' → H' p = some (.dT kvs) → (∀ l ∈ allL n, valV kvs (lotK l) = some (.int (num n l : Nat))) → Q (.ref p) H'
def bothE (n : Nat) (U : List (List Int)) (e : List Int) : List Int := e.map fun x => if x = -1 then -1 else (U.getD (num n (goalE n e)) []).getD x.toNat 0
def bothT (n : Nat) (T U : List (List Int)) : List (List Int) := T.map (bothE n U)
/-- an entry: its goal is a lot, its places are places -/
def EntOk (n : Nat) (e : List Int) : Prop := goalE n e ∈ allL n ∧ e.length ≤ 100 ∧ ∀ x ∈ e, x = -1 ∨ (0 ≤ x ∧ x < n)
def spBoth : Sp := fun vs H Q _ => ∃ (n : Nat) (v u : V) (T U : List (List Int)), vs = [.int (n : Int), v, u] ∧ n ≤ 6 ∧ Dq H v (tabD T) ∧ Dq H u (tabD U) ∧ T.length ≤ 1000 ∧ (∀ e ∈ T, EntOk n e) ∧ U.length = 2 ^ n ∧ (∀ e ∈ U, e.length = n) ∧
  ∀ H' r, Same H H' → Dq H' r (tabD (bothT n T U)) → Q r H'
theorem all_num {n : Nat} (hn : n ≤ 6) {l : List Nat} (h : l ∈ allL n) : num n l < 2 ^ n := by
  have h1 : num n l ∈ (allL n).map (num n) := List.mem_map.mpr ⟨l, h, rfl⟩
  rw [lots_nums n (by omega)] at h1
  exact List.mem_range.mp h1
theorem ent_inv {H : Hp} {v : V} {e : List Int} (h : Dq H v (entD e)) : ∃ a, v = .ref a ∧ H a = some (.tup (e.map V.int)) := by
  obtain ⟨a, xs, rfl, ha, q⟩ := Dq.tup_inv h
  exact ⟨a, rfl, by rw [ha, dqa_int q]⟩
theorem ents_get {H : Hp} {xs : List V} {T : List (List Int)} {i : Nat} {y : V} (q : DqA H xs (T.map entD)) (h : xs[i]? = some y) : ∃ e, T[i]? = some e ∧ ∃ a, y = .ref a ∧ H a = some (.tup (e.map V.int)) := by
  obtain ⟨d, h1, h2⟩ := q.get h
  rw [List.getElem?_map] at h1
  cases hr : T[i]? with
  | none => rw [hr] at h1; cases h1
  | some e =>
    rw [hr] at h1
    cases Option.some.inj h1
    exact ⟨e, rfl, ent_inv h2⟩
section
variable {P : Program} {w : World} {K : PySem.W.Frag} {mg : Str → Option Value} {base : Heap}
theorem all_num_at {n : Nat} (hn : n ≤ 6) {i : Nat} {l : List Nat} (h : (allL n)[i]? = some l) : num n l = i ∧ i < 2 ^ n := by
  have e : ((allL n).map (num n))[i]? = some (num n l) := by rw [List.getElem?_map, h]; rfl
  rw [lots_nums n (by omega)] at e
  obtain ⟨h1, h2⟩ := List.getElem?_eq_some_iff.mp e
  rw [List.getElem_range] at h2
  rw [List.length_range] at h1
  exact ⟨h2.symm, h1⟩
theorem lotK_inj {l l' : List Nat} (h : lotK l = lotK l') : l = l' := by
  have := congrArg (List.map kV) h
  rw [lotK_v, lotK_v] at this
  unfold lv at this
  exact (List.map_inj_right (fun a b e => by
    have : (a : Int) = (b : Int) := V.int.inj e
    omega)).mp this
def aimsT (n : Nat) (T : List (List Int)) : List Int := T.map fun e => ((num n (goalE n e) : Nat) : Int)
def spAims : Sp := fun vs H Q _ => ∃ (n : Nat) (v : V) (T : List (List Int)), vs = [.int (n : Int), v] ∧ n ≤ 6 ∧ Dq H v (tabD T) ∧ T.length ≤ 1000 ∧ (∀ e ∈ T, goalE n e ∈ allL n) ∧
  ∀ H' p, Same H H' → H p = none → H' p = some (.lst ((aimsT n T).map V.int)) → Q (.ref p) H'
end
/-- an entry of the lot l at n places -/
structure EntV (n : Nat) (l : List Nat) (e : List Int) : Prop where
  len : e.length = n
  at_ : ∀ i, i < n → if i ∈ l then e.getD i 0 = -1 else 0 ≤ e.getD i 0 ∧ e.getD i 0 < n
  nd : (e.filter fun x => !decide (x = -1)).Nodup
def spIsEnt : Sp := fun vs H Q _ => ∃ (n : Nat) (la a : Addr) (l : List Nat) (e : List Int), vs = [.int (n : Int), .ref la, .ref a] ∧ n ≤ 6 ∧ H la = some (.tup (lv l)) ∧ H a = some (.tup (e.map V.int)) ∧ EntV n l e ∧ ∀ H', Same H H' → Q (.bl true) H'
def spTabErr : Sp := fun vs H Q _ => ∃ (n : Nat) (v : V) (T : List (List Int)), vs = [.int (n : Int), v] ∧ n ≤ 6 ∧ Dq H v (tabD T) ∧ T.length = 2 ^ n ∧ (∀ (i : Nat) (l : List Nat) (e : List Int), (allL n)[i]? = some l → T[i]? = some e → EntV n l e) ∧ (T.map (goalE n)).Nodup ∧ ∀ H', Same H H' → Q .non H'
/-- an ascending lot stands among all lots -/
theorem asc_all {n : Nat} (hn : n ≤ 6) {l : List Nat} (h : Asc 0 n l) (hasc : ∀ l ∈ allL n, Asc 0 n l) : l ∈ allL n := by
  have h1 : num n l < 2 ^ n := by
    rcases Nat.lt_or_ge (num n l) (2 ^ n) with c | c
    · exact c
    · have e := lotAt_none (by omega) c
      rw [lotAt_num h] at e
      cases e
  have h2 : num n l ∈ (allL n).map (num n) := by
    rw [lots_nums n (by omega)]
    exact List.mem_range.mpr h1
  obtain ⟨l', hl', e⟩ := List.mem_map.mp h2
  have e1 := lotAt_num (hasc l' hl')
  rw [e, lotAt_num h] at e1
  rw [Option.some.inj e1]
  exact hl'
theorem all_asc : ∀ n : Nat, n < 7 → ∀ l ∈ allL n, (l.Pairwise (· < ·) ∧ l.length ≤ 6) ∧ ∀ x ∈ l, x < n := by decide +kernel
theorem all_ascL {n : Nat} (hn : n ≤ 6) : ∀ l ∈ allL n, Asc 0 n l := fun l hl => ⟨(all_asc n (by omega) l hl).1.1, fun x hx => ⟨Nat.zero_le _, by have := (all_asc n (by omega) l hl).2 x hx; omega⟩⟩
def rLenK (K : PySem.W.Frag) : List V → Hp → VK → Prop := fun xs H Q => ∃ (p : Addr) (ys : List V), xs = [V.ref p] ∧ (SqL K H p ys ∨ SqT K H p ys) ∧ Q (V.int (ys.length : Nat)) H
theorem call_lenK {X : Cx} : CallR X (.builtin "len") (rLenK X.K) := call_len_seq
theorem own_filt : ∀ n : Nat, n < 7 → ∀ s : Nat, s < n + 1 → (allL n).filter (fun l => decide (l.length = s)) = lotsL n s := by decide +kernel
theorem lot_filt : ∀ n : Nat, n < 7 → ∀ l ∈ allL n, (List.range n).filter (fun x => decide (x ∈ l)) = l ∧ ((List.range n).filter (fun x => !decide (x ∈ l))).length + l.length = n := by decide +kernel
theorem own_all : ∀ n : Nat, n < 7 → ∀ s : Nat, s < n + 1 → ∀ l ∈ lotsL n s, l ∈ allL n := fun n _ s hs l h => List.mem_flatMap.mpr ⟨s, List.mem_range.mpr hs, h⟩
/-- entries for lots -/
structure Ents (n : Nat) (ls : List (List Nat)) (es : List (List Int)) : Prop where
  len : es.length = ls.length
  at_ : ∀ (t : Nat) (l : List Nat) (e : List Int), ls[t]? = some l → es[t]? = some e → EntV n l e
theorem Ents.nil {n : Nat} : Ents n [] [] := ⟨rfl, fun t l e h _ => by simp at h⟩
theorem Ents.snoc {n : Nat} {ls : List (List Nat)} {es : List (List Int)} {l : List Nat} {e : List Int} (h : Ents n ls es) (g : EntV n l e) : Ents n (ls ++ [l]) (es ++ [e]) := by
  refine ⟨by rw [List.length_append, List.length_append, h.len]; rfl, fun t l' e' h1 h2 => ?_⟩
  rcases Nat.lt_trichotomy t ls.length with c | c | c
  · rw [List.getElem?_append_left c] at h1
    rw [List.getElem?_append_left (by rw [h.len]; exact c)] at h2
    exact h.at_ t l' e' h1 h2
  · subst c
    rw [List.getElem?_append_right (Nat.le_refl _), Nat.sub_self] at h1
    rw [← h.len, List.getElem?_append_right (Nat.le_refl _), Nat.sub_self] at h2
    cases h1
    cases h2
    exact g
  · rw [List.getElem?_eq_none (by rw [List.length_append]; show _ + 1 ≤ t; omega)] at h1
    cases h1
/-- a table -/
structure TabOk (n : Nat) (T : List (List Int)) : Prop where
  ents : Ents n (allL n) T
  goals : (T.map (goalE n)).Perm (allL n)
theorem dqa_perm {α : Type} {H : Hp} {f : α → PyData} {xs ys : List V} (p : ys.Perm xs) : ∀ {L : List α}, DqA H xs (L.map f) → ∃ M : List α, M.Perm L ∧ DqA H ys (M.map f) := by
  induction p with
  | nil =>
    intro L q
    exact ⟨L, .refl _, q⟩
  | cons x p ih =>
    intro L q
    cases L with
    | nil => cases q
    | cons a L =>
      cases q with
      | cons h t =>
        obtain ⟨M, p2, q2⟩ := ih t
        exact ⟨a :: M, p2.cons a, .cons h q2⟩
  | swap x y l =>
    intro L q
    match L, q with
    | a :: b :: L, .cons h1 (.cons h2 t) => exact ⟨b :: a :: L, .swap _ _ _, .cons h2 (.cons h1 t)⟩
  | trans p1 p2 ih1 ih2 =>
    intro L q
    obtain ⟨M, m1, q1⟩ := ih2 q
    obtain ⟨N, m2, q2⟩ := ih1 q1
    exact ⟨N, m2.trans m1, q2⟩
theorem ints_perm {ys : List V} {zs : List Int} (p : ys.Perm (zs.map V.int)) : ∃ ws : List Int, ys = ws.map V.int ∧ ws.Perm zs := by
  obtain ⟨M, p2, q2⟩ := dqa_perm (H := fun _ => none) (f := PyData.int) p (DqA.ints zs)
  exact ⟨M, dqa_int q2, p2⟩
/-- what is left of the riders -/
def cnt (l : List Nat) (n i : Nat) : Nat := ((List.range n).drop i).countP fun t => !decide (t ∈ l)
theorem cnt_step {l : List Nat} {n i : Nat} (h : i < n) : cnt l n i = cnt l n (i + 1) + (if i ∈ l then 0 else 1) := by
  unfold cnt
  rw [List.drop_eq_getElem_cons (by rw [List.length_range]; exact h), List.countP_cons, List.getElem_range]
  by_cases c : i ∈ l <;> simp [c]
theorem cnt_end (l : List Nat) (n : Nat) : cnt l n n = 0 := by
  unfold cnt
  rw [List.drop_of_length_le (by rw [List.length_range]; exact Nat.le_refl _)]
  rfl
/-- the entry that comes of riders at l, free places in a drawn order -/
theorem ent_made {n : Nat} (hn : n ≤ 6) {l g : List Nat} {e zs : List Int} (hl : l ∈ allL n) (hg : g ∈ allL n) (len : e.length = n) (h1 : ∀ t, t < n → t ∈ l → e.getD t 0 = -1) (h2 : ∀ t, t < n → t ∉ l → e.getD t 0 ∈ zs)
    (h3 : e.filter (fun x => !decide (x = -1)) = zs.reverse) (hz : zs.Perm (((List.range n).filter fun y => !decide (y ∈ g)).map fun (y : Nat) => (y : Int))) : EntV n l e ∧ goalE n e = g := by
  have hm : ∀ z, z ∈ zs ↔ ∃ y : Nat, y < n ∧ y ∉ g ∧ (y : Int) = z := fun z => by
    rw [hz.mem_iff, List.mem_map]
    constructor
    · rintro ⟨y, hy, rfl⟩
      rw [List.mem_filter, List.mem_range] at hy
      exact ⟨y, hy.1, by simpa using hy.2, rfl⟩
    · rintro ⟨y, a, b, rfl⟩
      exact ⟨y, List.mem_filter.mpr ⟨List.mem_range.mpr a, by simpa using b⟩, rfl⟩
  refine ⟨⟨len, fun t ht => ?_, ?_⟩, ?_⟩
  · split
    · rename_i c
      exact h1 t ht c
    · rename_i c
      obtain ⟨y, a, _, e1⟩ := (hm _).mp (h2 t ht c)
      omega
  · rw [h3]
    have nd : (((List.range n).filter fun y => !decide (y ∈ g)).map fun (y : Nat) => (y : Int)).Nodup := List.Pairwise.map _ (fun a b (h : a ≠ b) z => h (by omega)) (List.Pairwise.filter _ List.nodup_range)
    exact List.pairwise_reverse.mpr ((hz.symm.nodup nd).imp fun h => h.symm)
  · rw [← (lot_filt n (by omega) g hg).1]
    unfold goalE
    refine List.filter_congr fun x hx => ?_
    have hx := List.mem_range.mp hx
    have e1 : (x : Int) ∈ e ↔ (x : Int) ∈ zs := by
      rw [← List.mem_reverse (as := zs), ← h3, List.mem_filter]
      constructor
      · exact fun h => ⟨h, by
          have : ¬ (x : Int) = -1 := by omega
          simp [this]⟩
      · exact fun h => h.1
    have e2 : (x : Int) ∈ zs ↔ x ∉ g := by
      rw [hm]
      constructor
      · rintro ⟨y, _, b, c⟩
        have : y = x := by omega
        exact this ▸ b
      · exact fun h => ⟨x, hx, h, rfl⟩
    rw [← decide_not, decide_eq_decide, e1, e2, Classical.not_not]
end Kr
namespace Kr
open PySem PySem.Spec PyProof.Rows L2
theorem new_dq {p l q : Addr} {H : Hp} {o : HO} (D : Deck H p l) (h : H q = none) : Ext p l H (upd H q o) ∧ Deck (upd H q o) p l ∧ hid p l (upd H q o) q = some o := by
  obtain ⟨h1, h2⟩ := D.new h
  exact ⟨Ext.rfl.new h, D.mut h1 h2, hid_upd h1 h2⟩
theorem seqIx {r : Int} {n : Nat} (h0 : 0 ≤ r) (h1 : r < n) : seqIndex? r n = some r.toNat := (ixN_seq (by unfold ixN; rw [if_pos h0, if_pos h1])).1
theorem erasev_perm (zs : List V) {k : Nat} (h : k < zs.length) : (zs[k] :: zs.eraseIdx k).Perm zs := by
  rw [List.eraseIdx_eq_take_drop_succ]
  have e : zs = zs.take k ++ zs[k] :: zs.drop (k + 1) := by
    rw [← List.drop_eq_getElem_cons h, List.take_append_drop]
  exact List.perm_middle.symm.trans (.of_eq e.symm)
/-- items in a drawn order -/
def spMixV : Sp := fun vs H Q _ => ∃ (p l a : Addr) (xs : List V), vs = [.ref p, .ref a] ∧ Deck H p l ∧ hid p l H a = some (.lst xs) ∧ xs.length ≤ 1000 ∧
  ∀ (H' : Hp) (f : Addr) (ys : List V), Deck H' p l → Ext p l H H' → H f = none → hid p l H' f = some (.lst ys) → ys.Perm xs → Q (.ref f) H'
def spDeed : Sp := fun vs H Q _ => ∃ (p l : Addr) (n : Nat), vs = [.ref p, .int (n : Int)] ∧ Deck H p l ∧ 3 ≤ n ∧ n ≤ 6 ∧ ∀ H' v m, Deck H' p l → Ext p l H H' → DeedAt H' v m → Deed n m → Q v H'
def spDrawn : Sp := fun vs H Q _ => ∃ (p l : Addr) (n : Nat), vs = [.ref p, .int (n : Int)] ∧ Deck H p l ∧ 3 ≤ n ∧ n ≤ 6 ∧ ∀ H' v T, Deck H' p l → Ext p l H H' → Dq H' v (tabD T) → TabOk n T → Q v H'
end Kr
namespace Kr
open PySem PySem.Spec PyProof.Rows L2
/-! ### defs that may be called by names in the contrary order; defs that are called where no repr is under way -/
structure OkN (P : Program) (w : World) (K : PySem.W.Frag) (mg : Str → Option Value) (base : Heap) (k : Nat) (x : Str) (ps ks : List Str) (sp : Sp) : Prop where
  ex : ∃ f fd, FnOk P w K mg base CX0 k f fd ps sp ∧ PySem.W.keepIn K (.ref f) = true ∧ mg x = some (.ref f) ∧ Binds K fd ps [] ∧ KBn K fd ps 0 ks (fun _ ws => ws.reverse) (fun _ zs => zs.reverse)
structure DfN (K : PySem.W.Frag) (mg : Str → Option Value) (x : Str) (st : Stmt) (ps ks : List Str) : Prop where
  ex : ∃ f fd, Fun K x x st f fd ∧ Binds K fd ps [] ∧ mg x = some (.ref f) ∧ KBn K fd ps 0 ks (fun _ ws => ws.reverse) (fun _ zs => zs.reverse)
structure OkG (P : Program) (w : World) (K : PySem.W.Frag) (mg : Str → Option Value) (base : Heap) (k : Nat) (x : Str) (ps : List Str) (sp : Sp) : Prop where
  ex : ∃ f fd, FnG P w K mg base CX0 k f fd ps sp ∧ PySem.W.keepIn K (.ref f) = true ∧ mg x = some (.ref f) ∧ Binds K fd ps []
section
variable {P : Program} {w : World} {K : PySem.W.Frag} {mg : Str → Option Value} {base : Heap}
theorem OkN.ok {x : Str} {ps ks : List Str} {k : Nat} {sp : Sp} (D : OkN P w K mg base k x ps ks sp) : Ok P w K mg base k x ps sp := let ⟨f, fd, a, b, c, d, _⟩ := D.ex; ⟨f, fd, a, b, c, d⟩
theorem OkN.mono {x : Str} {ps ks : List Str} {j k : Nat} {sp : Sp} (D : OkN P w K mg base j x ps ks sp) (h : j ≤ k) : OkN P w K mg base k x ps ks sp := let ⟨f, fd, a, r⟩ := D.ex; ⟨f, fd, a.mono h, r⟩
theorem DfN.df {x : Str} {st : Stmt} {ps ks : List Str} (D : DfN K mg x st ps ks) : Df K mg x st ps := let ⟨f, fd, a, b, c, _⟩ := D.ex; ⟨f, fd, a, b, c⟩
/-- a promise of the def by place holds by names -/
theorem DfN.okN {x : Str} {st : Stmt} {ps ks : List Str} {k : Nat} {sp : Sp} (D : DfN K mg x st ps ks) (h : ∀ f fd, Fun K x x st f fd → FnOk P w K mg base CX0 k f fd ps sp) : OkN P w K mg base k x ps ks sp := by
  obtain ⟨f, fd, F, b, g, n⟩ := D.ex
  exact ⟨f, fd, h f fd F, F.kp, g, b, n⟩
theorem Df.okG {x : Str} {st : Stmt} {ps : List Str} {k : Nat} {sp : Sp} (D : Df K mg x st ps) (h : ∀ f fd, Fun K x x st f fd → FnG P w K mg base CX0 k f fd ps sp) : OkG P w K mg base k x ps sp := by
  obtain ⟨f, fd, F, b, g⟩ := D.ex
  exact ⟨f, fd, h f fd F, F.kp, g, b⟩
theorem OkG.mono {x : Str} {ps : List Str} {j k : Nat} {sp : Sp} (D : OkG P w K mg base j x ps sp) (h : j ≤ k) : OkG P w K mg base k x ps sp := by
  obtain ⟨f, fd, F, r⟩ := D.ex
  exact ⟨f, fd, F.mono h, r⟩
end
section
variable {X : Cx} {k : Nat} {x : Str} {ps ks : List Str} {sp : Sp} {p pos : Pos} {e : Expr} {es : List Expr} {t : TA} {kws : List Keyword} {tk : TA}
theorem pe_fnN (D : OkN X.prog X.w X.K X.mg X.base k x ps ks sp) (hr : Room k X.A) (hg : Gl X x) (hkw : PK X kws tk)
    (hall : (backToKw pos (keywordEach kws X.env)).all (·.1.isSome) = true := by rfl) (hks : (backToKw pos (keywordEach kws X.env)).filterMap (·.1) = ks := by rfl) (hdb : (x == ("__debug__" : Str)) = false := by decide)
    (hpl : ((backTo pos (starEach [] X.env)).any (·.1) || (backToKw pos (keywordEach kws X.env)).any (·.1.isNone)) = false := by rfl) :
    PE X (.Call (.Name x p) [] kws pos) (tCallN ks.length sp (fun _ zs => zs.reverse) E0 tk) := by
  obtain ⟨f, fd, F, kp, g, b, n⟩ := D.ex
  exact pe_callN F hr hg g kp n pass0 hkw hall hks hdb hpl
theorem pe_fnG (D : OkG X.prog X.w X.K X.mg X.base k x ps sp) (gd : X.A.guards = some []) (hr : Room k X.A) (hg : Gl X x) (ha : PA X (e :: es) t)
    (hdb : (x == ("__debug__" : Str)) = false := by decide) (he : starEach (e :: es) X.env = (false, eval e X.env) :: starEach es X.env := by rfl) (hpl : (backTo pos (starEach es X.env)).any (·.1) = false := by rfl) :
    PE X (.Call (.Name x p) (e :: es) [] pos) (tCall sp [] E0 t) := by
  obtain ⟨f, fd, F, kp, g, b⟩ := D.ex
  exact pe_callG F gd hr hg g kp b .nil pass0 ha hdb he hpl
end
/-! ### what is shown is small -/
theorem Sm.lit {i : Int} (h : i.natAbs < 32) : Sm 1 5 (.int i) := by
  have a := Sm.int (i := i) (by omega)
  refine ⟨a.sh, a.ls, a.dp, ?_⟩
  simp only [PyData.weight]
  split
  · omega
  · rename_i h0
    have h1 : i.natAbs ≠ 0 := fun z => h0 (by simp; omega)
    have : i.natAbs.log2 < 5 := (Nat.log2_lt h1).mpr h
    omega
theorem Sm.strm {x : Str} {m : Nat} (h : (x.cps.toList.all fun c => decide (c < 16 ^ 8)) = true) (hs : x.length ≤ m) : Sm 1 m (.str x) :=
  ⟨by simp [PyData.showable], by simpa [PyData.leavesShort] using h, by simp [PyData.depth], hs⟩
theorem Sm.two {k w : Nat} {a b : PyData} (ha : Sm k w a) (hb : Sm k w b) : Sm (k + 1) ((w + 1) * 2) (.list [a, b]) := Sm.lst (fun d hd => by
  simp only [List.mem_cons, List.not_mem_nil, or_false] at hd
  rcases hd with rfl | rfl
  · exact ha
  · exact hb) (Nat.le_refl _)
/-- repr(e) != repr(e'), as a test -/
theorem ne_repr {te te2 : TE} {σ : L2.St} {H : Hp} {Q : Bool → Hp → Prop} (h : te σ H fun v H1 => rRepr [v] H1 fun x H2 => te2 σ H2 fun v2 H3 => rRepr [v2] H3 fun y H4 => rNe x y H4 fun z H5 => ∃ k, z = .bl k ∧ Q k H5) :
    tTest (tOp rNe (tCB rRepr (tCons te tNil)) (tCB rRepr (tCons te2 tNil))) σ H Q := h
/-- repr(e) != x, x a text in a slot -/
theorem ne_reprV {te te2 : TE} {σ : L2.St} {H : Hp} {Q : Bool → Hp → Prop} (h : te σ H fun v H1 => rRepr [v] H1 fun x H2 => te2 σ H2 fun y H4 => rNe x y H4 fun z H5 => ∃ k, z = .bl k ∧ Q k H5) :
    tTest (tOp rNe (tCB rRepr (tCons te tNil)) te2) σ H Q := h
theorem ret_eq_repr {te te2 : TE} {σ : L2.St} {H : Hp} {D : Ends} (h : te σ H fun v H1 => rRepr [v] H1 fun x H2 => te2 σ H2 fun v2 H3 => rRepr [v2] H3 fun y H4 => rEq x y H4 fun z H5 => D.rt z H5) : tRet (tOp rEq (tCB rRepr (tCons te tNil)) (tCB rRepr (tCons te2 tNil))) D σ H := h
theorem ret_eq_reprV {te te2 : TE} {σ : L2.St} {H : Hp} {D : Ends} (h : te σ H fun v H1 => rRepr [v] H1 fun x H2 => te2 σ H2 fun y H4 => rEq x y H4 fun z H5 => D.rt z H5) : tRet (tOp rEq (tCB rRepr (tCons te tNil)) te2) D σ H := h
/-- repr of small data, the text under a name -/
theorem repr_x {v : V} {d : PyData} {H : Hp} {Q : VK} {k w : Nat} (hd : Dq H v d) (h : Sm k w d) (hk : k ≤ 40) (hw : w ≤ 380000) (q : ∀ x, x = d.shown → Q (.str x) H) : rRepr [v] H Q := repr_sm hd h hk hw (q _ rfl)
theorem repr_ne {v : V} {d : PyData} {H : Hp} {x : Str} {Q : Bool → Hp → Prop} {k w : Nat} (hx : x = d.shown) (hd : Dq H v d) (h : Sm k w d) (hk : k ≤ 40) (hw : w ≤ 380000) (q : Q false H) :
    rRepr [v] H fun y H4 => rNe (.str x) y H4 fun z H5 => ∃ k, z = .bl k ∧ Q k H5 := by
  refine repr_x hd h hk hw fun y hy => ?_
  rw [← hy] at hx
  subst hx
  refine ⟨rfl, _, rfl, ?_⟩
  rw [decide_eq_true rfl]
  exact q
theorem repr_eq {v : V} {d : PyData} {H : Hp} {x : Str} {Q : VK} {k w : Nat} (hx : x = d.shown) (hd : Dq H v d) (h : Sm k w d) (hk : k ≤ 40) (hw : w ≤ 380000) (q : Q (.bl true) H) :
    rRepr [v] H fun y H4 => rEq (.str x) y H4 fun z H5 => Q z H5 := by
  refine repr_x hd h hk hw fun y hy => ?_
  rw [← hy] at hx
  subst hx
  refine ⟨rfl, ?_⟩
  rw [decide_eq_true rfl]
  exact q
theorem txt_eq {x y : Str} {d : PyData} {H : Hp} {Q : VK} (hx : x = d.shown) (hy : y = d.shown) (q : Q (.bl true) H) : rEq (.str x) (.str y) H Q := by
  rw [← hy] at hx
  subst hx
  refine ⟨rfl, ?_⟩
  rw [decide_eq_true rfl]
  exact q
theorem Sm.three {k w : Nat} {a b c : PyData} (ha : Sm k w a) (hb : Sm k w b) (hc : Sm k w c) : Sm (k + 1) ((w + 1) * 3) (.list [a, b, c]) := Sm.lst (fun d hd => by
  simp only [List.mem_cons, List.not_mem_nil, or_false] at hd
  rcases hd with rfl | rfl | rfl
  · exact ha
  · exact hb
  · exact hc) (Nat.le_refl _)
/-- two texts of the same data -/
theorem txt_ne {x y : Str} {d : PyData} {H : Hp} {Q : Bool → Hp → Prop} (hx : x = d.shown) (hy : y = d.shown) (q : Q false H) : rNe (.str x) (.str y) H fun z H5 => ∃ k, z = .bl k ∧ Q k H5 := by
  rw [← hy] at hx
  subst hx
  refine ⟨rfl, _, rfl, ?_⟩
  rw [decide_eq_true rfl]
  exact q
end Kr
namespace Kr
open PySem PySem.Spec PyProof.Rows L2 PySem.SeqAt PySem.MeetsSeq
/-! ### x == i, x any data, i a number -/
theorem dict_eq_declines_int (l : Addr) (es : Array DictEntry) (ep : Nat) (dd : Option Addr) (sl : Array (Option Value)) (b : Int) (u : Tok) :
    Meets (Builtin.«dict.__eq__» ⟨[.ref l, .int b u], []⟩) (fun _ R s => s.heap.get? l = some { cls := .type "dict", dict := dd, data := .dict es ep, slots := sl } ∧ R (.ok (.ret .notImplemented)) s) :=
  .of_wp fun prog w A R s h => by obtain ⟨hp, g, d, tk, os⟩ := s; obtain ⟨hl, h⟩ := h; have f1 := F.sub_int_dict; wp_walk using wpAny_loadPart' hl; exact ⟨_, rfl, h⟩
theorem int_eq_declines_dict (b : Int) (u : Tok) (l : Addr) (c : Value) (es : Array DictEntry) (ep : Nat) (dd : Option Addr) (sl : Array (Option Value)) :
    Meets (Builtin.«int.__eq__» ⟨[.int b u, .ref l], []⟩) (fun _ R s => s.heap.get? l = some { cls := c, dict := dd, data := .dict es ep, slots := sl } ∧ R (.ok (.ret .notImplemented)) s) :=
  .of_wp fun prog w A R s h => by obtain ⟨hp, g, d, tk, os⟩ := s; obtain ⟨hl, h⟩ := h; wp_walk using wpAny_loadPart' hl, wpAny_load hl; exact ⟨_, rfl, h⟩
theorem rc_dict_int {A : Around} {s : Shared} {l : Addr} {es : Array DictEntry} {ep : Nat} {dd : Option Addr} {sl : Array (Option Value)} (b : Int) (u : Tok) (ho : s.heap.get? l = some { cls := .type "dict", dict := dd, data := .dict es ep, slots := sl }) (hu : A.units < cLine) : RcAt A s (.ref l) (.int b u) false := fun prog w E Q h => by
  exact rc_eq_decline_or (k := false) ⟨_, ho, rfl⟩ (typeIs_int s b u) (by decide) F.sub_int_dict F.slot_dict_eq F.slot_int_eq_refl
    (fun _ hq => call_meets F.slot_dict_eq ⟨_, ho, rfl⟩ F.entry_dict_eq (F.args_dict_eq_2 _ _) (dict_eq_declines_int l es ep dd sl b u) ⟨ho, hq⟩)
    (fun _ hq => call_meets F.slot_int_eq_refl (typeIs_int s b u) F.entry_int_eq (F.args_int_eq_2 _ _) (int_eq_declines_dict b u l (.type "dict") es ep dd sl) ⟨ho, hq⟩)
    (fun _ hq => wpAny_of_eq (rfl : isSame (.ref l) (.int b u) = pure false) hq) (.inr hu) h
def rEq1 : R2 := fun x y H Q => ∃ (d : PyData) (i : Int), Dq H x d ∧ y = .int i ∧ Q (.bl (PyData.eqv d (.int i))) H
theorem op_eq1 {X : Cx} (hu : X.A.units + 64 < cLine) : OpR X (compareOp .Eq) rEq1 := by
  intro pins s σ H x y v u Q I rx ry h
  obtain ⟨d, i, hd, rfl, q⟩ := h
  obtain ⟨t, rfl⟩ := ry
  have hu : X.A.units < cLine := by omega
  cases hd with
  | non =>
    cases rx
    exact RcAt.none_int i t X.prog X.w X.xe _ ⟨.bl _, H, I, rfl, q⟩
  | bl b =>
    cases rx
    exact RcAt.bool_int b i t X.prog X.w X.xe _ ⟨.bl _, H, I, rfl, q⟩
  | int j =>
    obtain ⟨t', rfl⟩ := rx
    exact RcAt.int_int j t' i t X.prog X.w X.xe _ ⟨.bl _, H, I, rfl, q⟩
  | str z =>
    obtain ⟨t', rfl⟩ := rx
    exact RcAt.str_int z t' i t X.prog X.w X.xe _ ⟨.bl _, H, I, rfl, q⟩
  | lst e _ =>
    cases rx
    obtain ⟨its, _, p1, _⟩ := I.list (SqL.of (K := X.K) e)
    exact RcAt.list_int i t p1.isList hu X.prog X.w X.xe _ ⟨.bl _, H, I, rfl, q⟩
  | tup e _ =>
    cases rx
    obtain ⟨its, _, p1, _⟩ := I.tuple (SqT.of (K := X.K) e)
    exact RcAt.tuple_int i t p1 hu X.prog X.w X.xe _ ⟨.bl _, H, I, rfl, q⟩
  | @dic a e =>
    cases rx
    obtain ⟨_, hsys, vs, rel, ⟨cls, dd, data, sl⟩, es, ep, ho, hx, hd, _⟩ := I.hok a _ e
    obtain rfl : cls = .type "dict" := hx.1
    simp only at hd
    subst hd
    exact rc_dict_int i t ho hu X.prog X.w X.xe _ ⟨.bl _, H, I, rfl, q⟩
/-- a tuple beside () -/
def rEqT0 (K : PySem.W.Frag) : R2 := fun x y H Q => ∃ l b xs, x = .ref l ∧ y = .ref b ∧ SqT K H l xs ∧ SqT K H b [] ∧ Q (.bl xs.isEmpty) H
theorem all0 (n : Nat) (e : Nat → Bool) : ((List.range (min n 0)).all e && n == 0) = decide (n = 0) := by
  rw [Nat.min_zero]
  cases n <;> rfl
theorem isE {xs : List V} {its : List Value} (r : Vals xs its) : decide (its.toArray.size = 0) = xs.isEmpty := by
  cases r with
  | nil => rfl
  | cons _ _ => rfl
theorem op_eqT0 {X : Cx} (hu : X.A.units + 64 < cLine) : OpR X (compareOp .Eq) (rEqT0 X.K) := by
  intro pins s σ H x y v u Q I rx ry h
  obtain ⟨l, b, xs, rfl, rfl, hl, hb, q⟩ := h
  obtain rfl : v = Value.ref l := rx
  obtain rfl : u = Value.ref b := ry
  obtain ⟨its, r1, p1, _⟩ := I.tuple hl
  obtain ⟨it2, r2, p2, _⟩ := I.tuple hb
  cases r2
  refine SeqAt.RcAt.tuples (e := fun _ => true) p1 p2 (by omega) (fun j _ h2 => absurd h2 (by simp)) X.prog X.w X.xe _ ⟨.bl xs.isEmpty, H, I, ?_, q⟩
  show Value.bool _ = Value.bool _
  rw [← isE r1]
  exact congrArg Value.bool (all0 _ _)
end Kr
namespace Kr
open PySem PySem.Spec PyProof.Rows L2
/-! ### the heap without some lists and dicts that change -/
def hidS (S : List Addr) (H : Hp) : Hp := fun b => if b ∈ S then none else H b
theorem hidS_ne {S : List Addr} {b : Addr} {H : Hp} (h : b ∉ S) : hidS S H b = H b := by
  unfold hidS
  rw [if_neg h]
theorem hidS_some {S : List Addr} {b : Addr} {H : Hp} {o : HO} (h : hidS S H b = some o) : b ∉ S ∧ H b = some o := by
  unfold hidS at h
  by_cases e : b ∈ S
  · rw [if_pos e] at h
    cases h
  · rw [if_neg e] at h
    exact ⟨e, h⟩
theorem hidS_same (S : List Addr) (H : Hp) : Same (hidS S H) H := fun _ _ h => (hidS_some h).2
theorem hidS_up {S : List Addr} {H H' : Hp} (s : Same H H') : Same (hidS S H) (hidS S H') := fun b o h => by
  obtain ⟨h1, h2⟩ := hidS_some h
  rw [hidS_ne h1]
  exact s _ _ h2
theorem hidS_ext {S : List Addr} {p l : Addr} {H H' : Hp} (hp : p ∈ S) (hl : l ∈ S) (e : Ext p l H H') : Same (hidS S H) (hidS S H') := fun b o h => by
  obtain ⟨h1, h2⟩ := hidS_some h
  rw [hidS_ne h1]
  exact e.at_ (fun z => h1 (z ▸ hp)) (fun z => h1 (z ▸ hl)) h2
/-- these are there, and are no tuples -/
structure Offs (S : List Addr) (H : Hp) : Prop where
  at_ : ∀ b ∈ S, ∃ o, H b = some o ∧ ∀ xs, o ≠ .tup xs
theorem Offs.up {S : List Addr} {H H' : Hp} (h : Offs S H) (s : Same H H') : Offs S H' := ⟨fun b hb => let ⟨o, a, c⟩ := h.at_ b hb; ⟨o, s _ _ a, c⟩⟩
theorem Offs.tup {S : List Addr} {H : Hp} {y : Addr} {xs : List V} (h : Offs S H) (e : H y = some (.tup xs)) : hidS S H y = some (.tup xs) := by
  rw [hidS_ne fun hb => ?_]
  · exact e
  · obtain ⟨o, a, c⟩ := h.at_ y hb
    rw [e] at a
    exact c _ (Option.some.inj a).symm
theorem Offs.new {S : List Addr} {H : Hp} {q : Addr} (h : Offs S H) (e : H q = none) : q ∉ S := fun hb => by
  obtain ⟨o, a, _⟩ := h.at_ q hb
  rw [e] at a
  cases a
theorem Offs.put {S : List Addr} {H : Hp} {q : Addr} {o : HO} (h : Offs S H) (e : H q = none) : hidS S (upd H q o) q = some o := by
  rw [hidS_ne (h.new e), upd_same]
theorem Offs.deck {S : List Addr} {p l : Addr} {H H' : Hp} (h : Offs S H) (e : Ext p l H H') (D : Deck H' p l) : Offs S H' := ⟨fun b hb => by
  obtain ⟨ds, st, a, c, _⟩ := D.ex
  by_cases z1 : b = p
  · exact ⟨_, by rw [z1]; exact a, by intro xs z; cases z⟩
  · by_cases z2 : b = l
    · exact ⟨_, by rw [z2]; exact c, by intro xs z; cases z⟩
    · obtain ⟨o, f, g⟩ := h.at_ b hb
      exact ⟨o, e.at_ z1 z2 f, g⟩⟩
theorem Deck.offs {p l : Addr} {H : Hp} (D : Deck H p l) : Offs [p, l] H := ⟨fun b hb => by
  obtain ⟨ds, st, a, c, _⟩ := D.ex
  simp only [List.mem_cons, List.not_mem_nil, or_false] at hb
  rcases hb with rfl | rfl
  · exact ⟨_, a, by intro xs z; cases z⟩
  · exact ⟨_, c, by intro xs z; cases z⟩⟩
/-! ### rows of small data -/
structure SmA (k w : Nat) (ds : List PyData) : Prop where
  sh : PyData.showableAll ds = true
  ls : PyData.leavesShortAll 41 ds = true
  dp : PyData.depthAll ds ≤ k
  wt : PyData.weightAll ds ≤ w
theorem SmA.mono {k w k' w' : Nat} {ds : List PyData} (h : SmA k w ds) (hk : k ≤ k') (hw : w ≤ w') : SmA k' w' ds := ⟨h.sh, h.ls, Nat.le_trans h.dp hk, Nat.le_trans h.wt hw⟩
theorem SmA.tup {k w : Nat} {ds : List PyData} (h : SmA k w ds) : Sm (k + 1) w (.tuple ds) := ⟨by simpa [PyData.showable] using h.sh, by simpa [PyData.leavesShort] using h.ls, by have := h.dp; simp only [PyData.depth]; omega, by have := h.wt; simpa only [PyData.weight] using this⟩
theorem SmA.lst {k w : Nat} {ds : List PyData} (h : SmA k w ds) : Sm (k + 1) w (.list ds) := ⟨by simpa [PyData.showable] using h.sh, by simpa [PyData.leavesShort] using h.ls, by have := h.dp; simp only [PyData.depth]; omega, by have := h.wt; simpa only [PyData.weight] using this⟩
theorem Sm.tup_row {k w : Nat} {ds : List PyData} (h : Sm (k + 1) w (.tuple ds)) : SmA k w ds := ⟨by simpa [PyData.showable] using h.sh, by simpa [PyData.leavesShort] using h.ls, by have := h.dp; simp only [PyData.depth] at this; omega, by have := h.wt; simpa only [PyData.weight] using this⟩
theorem SmA.nil : SmA 0 0 [] := ⟨by simp [PyData.showableAll], by simp [PyData.leavesShortAll], by simp [PyData.depthAll], by simp [PyData.weightAll]⟩
theorem SmA.cons {k w w' : Nat} {d : PyData} {ds : List PyData} (a : Sm k w d) (b : SmA k w' ds) : SmA k (w + 1 + w') (d :: ds) :=
  ⟨by simp [PyData.showableAll, a.sh, b.sh], by simp [PyData.leavesShortAll, a.ls, b.ls], by have := a.dp; have := b.dp; simp only [PyData.depthAll]; omega, by have := a.wt; have := b.wt; simp only [PyData.weightAll]; omega⟩
theorem SmA.inv {k w : Nat} {d : PyData} {ds : List PyData} (h : SmA k w (d :: ds)) : ∃ w1 w2, Sm k w1 d ∧ SmA k w2 ds ∧ w1 + 1 + w2 = w := by
  obtain ⟨h1, h2, h3, h4⟩ := h
  simp only [PyData.showableAll, PyData.leavesShortAll, Bool.and_eq_true, PyData.depthAll, PyData.weightAll] at h1 h2 h3 h4
  exact ⟨w - 1 - d.weight.min 0 - PyData.weightAll ds, PyData.weightAll ds, ⟨h1.1, h2.1, by omega, by simp; omega⟩, ⟨h1.2, h2.2, by omega, Nat.le_refl _⟩, by simp; omega⟩
theorem SmA.one {k w : Nat} {d : PyData} (a : Sm k w d) : SmA k (w + 1) [d] := by
  have := SmA.cons a (SmA.nil.mono (Nat.zero_le k) (Nat.le_refl 0))
  exact this
theorem SmA.app {k : Nat} : ∀ {a b : List PyData} {w w' : Nat}, SmA k w a → SmA k w' b → SmA k (w + w') (a ++ b)
  | [], _, _, _, _, hb => hb.mono (Nat.le_refl _) (Nat.le_add_left _ _)
  | d :: a, b, w, w', ha, hb => by
    obtain ⟨w1, w2, h1, h2, e⟩ := ha.inv
    exact (SmA.cons h1 (SmA.app h2 hb)).mono (Nat.le_refl _) (by omega)
theorem SmA.take {k : Nat} : ∀ {a : List PyData} {w : Nat} (i : Nat), SmA k w a → SmA k w (a.take i)
  | [], _, i, h => by rw [List.take_nil]; exact h
  | d :: a, w, 0, h => SmA.nil.mono (Nat.zero_le _) (Nat.zero_le _)
  | d :: a, w, i + 1, h => by
    obtain ⟨w1, w2, h1, h2, e⟩ := h.inv
    exact (SmA.cons h1 (h2.take i)).mono (Nat.le_refl _) (by omega)
theorem SmA.drop {k : Nat} : ∀ {a : List PyData} {w : Nat} (i : Nat), SmA k w a → SmA k w (a.drop i)
  | [], _, i, h => by rw [List.drop_nil]; exact h
  | d :: a, w, 0, h => h
  | d :: a, w, i + 1, h => by
    obtain ⟨w1, w2, h1, h2, e⟩ := h.inv
    exact (h2.drop i).mono (Nat.le_refl _) (by omega)
theorem SmA.mem {k : Nat} : ∀ {a : List PyData} {w : Nat} {d : PyData}, SmA k w a → d ∈ a → Sm k w d
  | d :: a, w, x, h, hx => by
    obtain ⟨w1, w2, h1, h2, e⟩ := h.inv
    rcases List.mem_cons.mp hx with rfl | hx
    · exact h1.mono (Nat.le_refl _) (by omega)
    · exact (h2.mem hx).mono (Nat.le_refl _) (by omega)
/-- items exchanged for truths -/
theorem SmA.boo {k : Nat} (f : PyData → PyData) (hf : ∀ d, f d = d ∨ ∃ b, f d = .bool b) : ∀ {a : List PyData} {w : Nat}, SmA k w a → 1 ≤ k → SmA k w (a.map f)
  | [], _, h, _ => h
  | d :: a, w, h, hk => by
    obtain ⟨w1, w2, h1, h2, e⟩ := h.inv
    refine (SmA.cons (w := w1) ?_ (h2.boo f hf hk)).mono (Nat.le_refl _) (by omega)
    rcases hf d with z | ⟨b, z⟩
    · rw [z]
      exact h1
    · rw [z]
      exact ⟨rfl, rfl, by simp [PyData.depth], by simp [PyData.weight]⟩
end Kr
namespace Kr
open PySem PySem.Spec PyProof.Rows L2
def tyN : PyData → String
  | .none => "NoneType"
  | .bool _ => "bool"
  | .int _ => "int"
  | .str _ => "str"
  | .list _ => "list"
  | .tuple _ => "tuple"
  | .dict _ => "dict"
theorem Dq.ty {K : PySem.W.Frag} {H : Hp} {v : V} {d : PyData} (h : Dq H v d) : TyX K H v (.type (tyN d)) := by
  cases h with
  | non => exact .base .non
  | bl b => exact .base (.bl b)
  | int i => exact .base (.int i)
  | str x => exact .base (.str x)
  | lst e q => exact .base (.lst e)
  | tup e q => exact .base (.tup e)
  | dic e => exact .base (.dK e)
def isI : PyData → Bool
  | .int _ => true
  | .bool _ => true
  | _ => false
def isBo : PyData → Bool
  | .bool _ => true
  | _ => false
def isTu : PyData → Bool
  | .tuple _ => true
  | _ => false
theorem kit_int {K : PySem.W.Frag} : ∀ d : PyData, PySem.W.kitOne K (.type (tyN d)) (.type "int") = some (isI d)
  | .none => kit_ty (show kitB "NoneType" "int" = some false by decide +kernel)
  | .bool _ => kit_ty (show kitB "bool" "int" = some true by decide +kernel)
  | .int _ => kit_ty (show kitB "int" "int" = some true by decide +kernel)
  | .str _ => kit_ty (show kitB "str" "int" = some false by decide +kernel)
  | .list _ => kit_ty (show kitB "list" "int" = some false by decide +kernel)
  | .tuple _ => kit_ty (show kitB "tuple" "int" = some false by decide +kernel)
  | .dict _ => kit_ty (show kitB "dict" "int" = some false by decide +kernel)
theorem kit_bool {K : PySem.W.Frag} : ∀ d : PyData, PySem.W.kitOne K (.type (tyN d)) (.type "bool") = some (isBo d)
  | .none => kit_ty (show kitB "NoneType" "bool" = some false by decide +kernel)
  | .bool _ => kit_ty (show kitB "bool" "bool" = some true by decide +kernel)
  | .int _ => kit_ty (show kitB "int" "bool" = some false by decide +kernel)
  | .str _ => kit_ty (show kitB "str" "bool" = some false by decide +kernel)
  | .list _ => kit_ty (show kitB "list" "bool" = some false by decide +kernel)
  | .tuple _ => kit_ty (show kitB "tuple" "bool" = some false by decide +kernel)
  | .dict _ => kit_ty (show kitB "dict" "bool" = some false by decide +kernel)
theorem kit_tuple {K : PySem.W.Frag} : ∀ d : PyData, PySem.W.kitOne K (.type (tyN d)) (.type "tuple") = some (isTu d)
  | .none => kit_ty (show kitB "NoneType" "tuple" = some false by decide +kernel)
  | .bool _ => kit_ty (show kitB "bool" "tuple" = some false by decide +kernel)
  | .int _ => kit_ty (show kitB "int" "tuple" = some false by decide +kernel)
  | .str _ => kit_ty (show kitB "str" "tuple" = some false by decide +kernel)
  | .list _ => kit_ty (show kitB "list" "tuple" = some false by decide +kernel)
  | .tuple _ => kit_ty (show kitB "tuple" "tuple" = some true by decide +kernel)
  | .dict _ => kit_ty (show kitB "dict" "tuple" = some false by decide +kernel)
/-- an integer, no bool, within bounds -/
def isB (d : PyData) (lo hi : Int) : Bool := match d with
  | .int i => decide (lo ≤ i) && decide (i ≤ hi)
  | _ => false
/-- a tuple of so many items -/
def isT (d : PyData) (n : Int) : Bool := match d with
  | .tuple xs => decide ((xs.length : Int) = n)
  | _ => false
def spB : Sp := fun vs H Q _ => ∃ (v : V) (d : PyData) (lo hi : Int), vs = [v, .int lo, .int hi] ∧ Dq H v d ∧ Q (.bl (isB d lo hi)) H
def spT : Sp := fun vs H Q _ => ∃ (v : V) (d : PyData) (n : Int), vs = [v, .int n] ∧ Dq H v d ∧ Q (.bl (isT d n)) H
end Kr
namespace Kr
open PySem PySem.Spec PyProof.Rows L2
/-! ### entries as maps -/
/-- an entry of the lot l: places of keys have none, riders go to unlike places -/
structure EntF (n : Nat) (l : List Nat) (e : List Int) : Prop where
  len : e.length = n
  key : ∀ x, x < n → x ∈ l → e.getD x 0 = -1
  rid : ∀ x, x < n → x ∉ l → 0 ≤ e.getD x 0 ∧ e.getD x 0 < n
  inj : ∀ x y, x < n → y < n → x ∉ l → y ∉ l → e.getD x 0 = e.getD y 0 → x = y
theorem EntF.v {n : Nat} {l : List Nat} {e : List Int} (h : EntF n l e) : EntV n l e := by
  refine ⟨h.len, fun i hi => ?_, ?_⟩
  · split
    · rename_i c; exact h.key i hi c
    · rename_i c; exact h.rid i hi c
  · show (e.filter fun x => !decide (x = -1)).Pairwise (· ≠ ·)
    rw [List.pairwise_filter, List.pairwise_iff_getElem]
    intro i j hi hj hij p1 p2 z
    have g : ∀ i, (h : i < e.length) → e[i] = e.getD i 0 := fun i h => by rw [List.getD_eq_getElem?_getD, List.getElem?_eq_getElem h]; rfl
    rw [g i hi] at p1 z
    rw [g j hj] at p2 z
    rw [h.len] at hi hj
    have k1 : i ∉ l := fun c => by rw [h.key i hi c] at p1; exact absurd p1 (by decide)
    have k2 : j ∉ l := fun c => by rw [h.key j hj c] at p2; exact absurd p2 (by decide)
    have := h.inj i j hi hj k1 k2 z
    omega
theorem EntV.f {n : Nat} {l : List Nat} {e : List Int} (h : EntV n l e) : EntF n l e := by
  refine ⟨h.len, fun x hx c => ?_, fun x hx c => ?_, fun x y hx hy cx cy z => ?_⟩
  · have := h.at_ x hx; rwa [if_pos c] at this
  · have := h.at_ x hx; rwa [if_neg c] at this
  · have nd : (e.filter fun x => !decide (x = -1)).Pairwise (· ≠ ·) := h.nd
    rw [List.pairwise_filter, List.pairwise_iff_getElem] at nd
    have g : ∀ i, (h : i < e.length) → e[i] = e.getD i 0 := fun i h => by rw [List.getD_eq_getElem?_getD, List.getElem?_eq_getElem h]; rfl
    have pz : ∀ x, x < n → x ∉ l → (!decide (e.getD x 0 = -1)) = true := fun x hx c => by
      have := h.at_ x hx
      rw [if_neg c] at this
      simp only [Bool.not_eq_true', decide_eq_false_iff_not]
      omega
    have hl := h.len
    rcases Nat.lt_trichotomy x y with c | c | c
    · have := nd x y (by omega) (by omega) c
      rw [g x (by omega), g y (by omega)] at this
      exact absurd z (this (pz x hx cx) (pz y hy cy))
    · exact c
    · have := nd y x (by omega) (by omega) c
      rw [g x (by omega), g y (by omega)] at this
      exact absurd z.symm (this (pz y hy cy) (pz x hx cx))
theorem mem_e {e : List Int} {n : Nat} (h : e.length = n) {z : Int} : z ∈ e ↔ ∃ x, x < n ∧ e.getD x 0 = z := by
  subst h
  constructor
  · intro hz
    obtain ⟨x, hx, ez⟩ := List.getElem_of_mem hz
    exact ⟨x, hx, by rw [List.getD_eq_getElem?_getD, List.getElem?_eq_getElem hx]; exact ez⟩
  · rintro ⟨x, hx, ez⟩
    rw [List.getD_eq_getElem?_getD, List.getElem?_eq_getElem hx] at ez
    exact ez ▸ List.getElem_mem hx
theorem mem_goal {n : Nat} {e : List Int} {y : Nat} : y ∈ goalE n e ↔ y < n ∧ (y : Int) ∉ e := by
  unfold goalE
  rw [List.mem_filter, List.mem_range]
  simp
theorem goal_asc (n : Nat) (e : List Int) : Asc 0 n (goalE n e) := by
  refine ⟨List.Pairwise.filter _ List.pairwise_lt_range, fun x hx => ?_⟩
  have := (mem_goal.mp hx).1
  omega
theorem goal_all {n : Nat} (hn : n ≤ 6) (e : List Int) : goalE n e ∈ allL n := asc_all hn (goal_asc n e) (all_ascL hn)
/-- ascending lots with the same places are one -/
theorem asc_ext {n : Nat} {a b : List Nat} (ha : Asc 0 n a) (hb : Asc 0 n b) (h : ∀ x, x ∈ a ↔ x ∈ b) : a = b := by
  have p : a.Perm b := (List.perm_ext_iff_of_nodup (ha.1.imp fun h => Nat.ne_of_lt h) (hb.1.imp fun h => Nat.ne_of_lt h)).mpr h
  exact p.eq_of_pairwise (fun x y _ _ h1 h2 => absurd h2 (Nat.not_lt_of_lt h1)) ha.1 hb.1
theorem EntF.off {n : Nat} {l : List Nat} {e : List Int} (h : EntF n l e) {x : Nat} (hx : x < n) (c : x ∉ l) : (e.getD x 0).toNat < n ∧ (e.getD x 0).toNat ∉ goalE n e := by
  obtain ⟨h1, h2⟩ := h.rid x hx c
  refine ⟨by omega, fun z => (mem_goal.mp z).2 ((mem_e h.len).mpr ⟨x, hx, by omega⟩)⟩
theorem EntF.from {n : Nat} {l : List Nat} {e : List Int} (h : EntF n l e) {y : Nat} (hy : y < n) (c : y ∉ goalE n e) : ∃ x, x < n ∧ x ∉ l ∧ e.getD x 0 = y := by
  have : (y : Int) ∈ e := Classical.byContradiction fun z => c (mem_goal.mpr ⟨hy, z⟩)
  obtain ⟨x, hx, ex⟩ := (mem_e h.len).mp this
  refine ⟨x, hx, fun k => ?_, ex⟩
  have := h.key x hx k
  omega
theorem EntF.neg {n : Nat} {l : List Nat} {e : List Int} (h : EntF n l e) {x : Nat} (hx : x < n) : e.getD x 0 = -1 ↔ x ∈ l := by
  constructor
  · intro z
    refine Classical.byContradiction fun c => ?_
    have := (h.rid x hx c).1
    omega
  · exact h.key x hx
/-- one entry behind another -/
def cmpE (e u : List Int) : List Int := e.map fun x => if x = -1 then -1 else u.getD x.toNat 0
theorem map_getD_lt {α β : Type} {f : α → β} {L : List α} {i : Nat} {d : α} {d' : β} (h : i < L.length) : (L.map f).getD i d' = f (L.getD i d) := by
  rw [List.getD_eq_getElem?_getD, List.getElem?_map, List.getElem?_eq_getElem h, List.getD_eq_getElem?_getD, List.getElem?_eq_getElem h]
  rfl
theorem cmp_at {e u : List Int} {x : Nat} (h : x < e.length) : (cmpE e u).getD x 0 = if e.getD x 0 = -1 then -1 else u.getD (e.getD x 0).toNat 0 := map_getD_lt h
theorem EntF.cmp {n : Nat} {l : List Nat} {e u : List Int} (h : EntF n l e) (g : EntF n (goalE n e) u) : EntF n l (cmpE e u) ∧ goalE n (cmpE e u) = goalE n u := by
  have hl : (cmpE e u).length = n := by unfold cmpE; rw [List.length_map]; exact h.len
  have at_ : ∀ x, x < n → x ∉ l → (cmpE e u).getD x 0 = u.getD (e.getD x 0).toNat 0 := fun x hx c => by
    rw [cmp_at (by rw [h.len]; exact hx), if_neg (fun z => c ((h.neg hx).mp z))]
  have hf : EntF n l (cmpE e u) := by
    refine ⟨hl, fun x hx c => ?_, fun x hx c => ?_, fun x y hx hy cx cy z => ?_⟩
    · rw [cmp_at (by rw [h.len]; exact hx), if_pos ((h.neg hx).mpr c)]
    · rw [at_ x hx c]
      obtain ⟨p1, p2⟩ := h.off hx c
      exact g.rid _ p1 p2
    · rw [at_ x hx cx, at_ y hy cy] at z
      obtain ⟨p1, p2⟩ := h.off hx cx
      obtain ⟨p3, p4⟩ := h.off hy cy
      have e1 := g.inj _ _ p1 p3 p2 p4 z
      have r1 := h.rid x hx cx
      have r2 := h.rid y hy cy
      exact h.inj x y hx hy cx cy (by omega)
  refine ⟨hf, asc_ext (goal_asc _ _) (goal_asc _ _) fun y => ?_⟩
  rw [mem_goal, mem_goal, mem_e hl, mem_e g.len]
  refine and_congr_right fun hy => not_congr ⟨?_, ?_⟩
  · rintro ⟨x, hx, ex⟩
    by_cases c : x ∈ l
    · rw [hf.key x hx c] at ex
      omega
    · rw [at_ x hx c] at ex
      exact ⟨_, (h.off hx c).1, ex⟩
  · rintro ⟨x, hx, ex⟩
    have c : x ∉ goalE n e := fun c => by
      rw [g.key x hx c] at ex
      omega
    obtain ⟨x', hx', c', ex'⟩ := h.from hx c
    refine ⟨x', hx', ?_⟩
    rw [at_ x' hx' c', ex', Int.toNat_natCast]
    exact ex
theorem list_ext {n : Nat} {a b : List Int} (ha : a.length = n) (hb : b.length = n) (h : ∀ x, x < n → a.getD x 0 = b.getD x 0) : a = b := by
  refine List.ext_getElem (by omega) fun i h1 h2 => ?_
  have := h i (by omega)
  rw [List.getD_eq_getElem?_getD, List.getD_eq_getElem?_getD, List.getElem?_eq_getElem h1, List.getElem?_eq_getElem h2] at this
  exact this
theorem cmp_assoc {n : Nat} {l : List Nat} {e u w : List Int} (h : EntF n l e) (g : EntF n (goalE n e) u) : cmpE (cmpE e u) w = cmpE e (cmpE u w) := by
  have hl : (cmpE e u).length = n := (h.cmp g).1.len
  refine list_ext (n := n) (by unfold cmpE; rw [List.length_map, List.length_map, h.len]) (by unfold cmpE; rw [List.length_map, h.len]) fun x hx => ?_
  rw [cmp_at (by omega), cmp_at (by rw [h.len]; exact hx), cmp_at (by rw [h.len]; exact hx)]
  by_cases c : x ∈ l
  · rw [(h.neg hx).mpr c]
    rfl
  · have ne : ¬ e.getD x 0 = -1 := fun z => c ((h.neg hx).mp z)
    obtain ⟨p1, p2⟩ := h.off hx c
    rw [if_neg ne, if_neg ne, cmp_at (by rw [g.len]; exact p1)]
/-! ### tables as maps -/
def en (n : Nat) (T : List (List Int)) (l : List Nat) : List Int := T.getD (num n l) []
theorem bothE_cmp (n : Nat) (U : List (List Int)) (e : List Int) : bothE n U e = cmpE e (en n U (goalE n e)) := rfl
theorem all_at {n : Nat} (hn : n ≤ 6) {l : List Nat} (h : l ∈ allL n) : (allL n)[num n l]? = some l := by
  obtain ⟨i, hi, e⟩ := List.getElem_of_mem h
  have e1 : (allL n)[i]? = some l := by rw [List.getElem?_eq_getElem hi, e]
  rw [(all_num_at hn e1).1]
  exact e1
theorem en_map {n : Nat} (hn : n ≤ 6) {f : List Nat → List Int} {l : List Nat} (h : l ∈ allL n) : en n ((allL n).map f) l = f l := by
  unfold en
  rw [List.getD_eq_getElem?_getD, List.getElem?_map, all_at hn h]
  rfl
theorem TabOk.len {n : Nat} (hn : n ≤ 6) {T : List (List Int)} (h : TabOk n T) : T.length = 2 ^ n := h.ents.len.trans (all_len n (by omega))
theorem TabOk.get {n : Nat} (hn : n ≤ 6) {T : List (List Int)} (h : TabOk n T) {l : List Nat} (hl : l ∈ allL n) : T[num n l]? = some (en n T l) := by
  have h1 : num n l < T.length := by rw [h.len hn]; exact all_num hn hl
  unfold en
  rw [List.getD_eq_getElem?_getD, List.getElem?_eq_getElem h1]
  rfl
theorem TabOk.ent {n : Nat} (hn : n ≤ 6) {T : List (List Int)} (h : TabOk n T) {l : List Nat} (hl : l ∈ allL n) : EntF n l (en n T l) := (h.ents.at_ _ _ _ (all_at hn hl) (h.get hn hl)).f
theorem TabOk.map {n : Nat} (hn : n ≤ 6) {T : List (List Int)} (h : TabOk n T) : T = (allL n).map (en n T) := by
  refine List.ext_getElem? fun i => ?_
  rw [List.getElem?_map]
  cases e : (allL n)[i]? with
  | none =>
    show T[i]? = none
    rw [List.getElem?_eq_none_iff] at e ⊢
    rw [h.ents.len]
    exact e
  | some l =>
    rw [← (all_num_at hn e).1]
    exact h.get hn (List.mem_of_getElem? e)
theorem TabOk.of_map {n : Nat} (hn : n ≤ 6) {f : List Nat → List Int} (h : ∀ l ∈ allL n, EntF n l (f l)) (g : ((allL n).map fun l => goalE n (f l)).Perm (allL n)) : TabOk n ((allL n).map f) := by
  refine ⟨⟨List.length_map _, fun t l e h1 h2 => ?_⟩, by rw [List.map_map]; exact g⟩
  rw [List.getElem?_map, h1] at h2
  cases Option.some.inj h2
  exact (h l (List.mem_of_getElem? h1)).v
theorem TabOk.goalp {n : Nat} (hn : n ≤ 6) {T : List (List Int)} (h : TabOk n T) : ((allL n).map fun l => goalE n (en n T l)).Perm (allL n) := by
  have := h.goals
  rw [h.map hn, List.map_map] at this
  exact this
theorem both_map {n : Nat} (hn : n ≤ 6) {T U : List (List Int)} (h : TabOk n T) : bothT n T U = (allL n).map fun l => cmpE (en n T l) (en n U (goalE n (en n T l))) := by
  unfold bothT
  conv => lhs; rw [h.map hn]
  rw [List.map_map]
  rfl
theorem en_both {n : Nat} (hn : n ≤ 6) {T U : List (List Int)} (h : TabOk n T) {l : List Nat} (hl : l ∈ allL n) : en n (bothT n T U) l = cmpE (en n T l) (en n U (goalE n (en n T l))) := by
  rw [both_map hn h, en_map hn hl]
theorem TabOk.both {n : Nat} (hn : n ≤ 6) {T U : List (List Int)} (h : TabOk n T) (g : TabOk n U) : TabOk n (bothT n T U) := by
  rw [both_map hn h]
  refine TabOk.of_map hn (fun l hl => ((h.ent hn hl).cmp (g.ent hn (goal_all hn _))).1) ?_
  have e : ((allL n).map fun l => goalE n (cmpE (en n T l) (en n U (goalE n (en n T l))))) = ((allL n).map fun l => goalE n (en n T l)).map fun g => goalE n (en n U g) := by
    rw [List.map_map]
    exact List.map_congr_left fun l hl => ((h.ent hn hl).cmp (g.ent hn (goal_all hn _))).2
  rw [e]
  exact ((h.goalp hn).map _).trans (g.goalp hn)
theorem both_assoc {n : Nat} (hn : n ≤ 6) {T U W : List (List Int)} (h : TabOk n T) (g : TabOk n U) (k : TabOk n W) : bothT n (bothT n T U) W = bothT n T (bothT n U W) := by
  rw [both_map hn (h.both hn g), both_map (U := bothT n U W) hn h]
  refine List.map_congr_left fun l hl => ?_
  have hg := goal_all hn (en n T l)
  rw [en_both hn h hl, en_both hn g hg, ((h.ent hn hl).cmp (g.ent hn hg)).2]
  exact cmp_assoc (h.ent hn hl) (g.ent hn hg)
end Kr
namespace Kr
open PySem PySem.Spec PyProof.Rows L2
theorem ups_len (n : Nat) : (ups n).length = n := by unfold ups; rw [List.length_map, List.length_range]
theorem ups_at {n x : Nat} (h : x < n) : (ups n).getD x 0 = (x : Int) := by
  unfold ups
  rw [List.getD_eq_getElem?_getD, List.getElem?_map, List.getElem?_range h]
  rfl
theorem byE_len (l : List Nat) (w : List Int) : (byE l w).length = w.length := by unfold byE; rw [List.length_map, List.length_range]
theorem byE_at {l : List Nat} {w : List Int} {x : Nat} (h : x < w.length) : (byE l w).getD x 0 = if x ∈ l then -1 else w.getD x 0 := by
  unfold byE
  rw [List.getD_eq_getElem?_getD, List.getElem?_map, List.getElem?_range h]
  rfl
/-! ### ways that are their own contrary -/
structure Way (n : Nat) (w : List Int) (f : Nat → Nat) : Prop where
  len : w.length = n
  at_ : ∀ x, x < n → w.getD x 0 = (f x : Int)
  lt : ∀ x, x < n → f x < n
  inv : ∀ x, x < n → f (f x) = x
theorem way_ups (n : Nat) : Way n (ups n) id := ⟨ups_len n, fun x h => ups_at h, fun _ h => h, fun _ _ => rfl⟩
def sw (a b x : Nat) : Nat := if x = b then a else if x = a then b else x
theorem way_swap {n a b : Nat} (ha : a < n) (hb : b < n) (hab : a ≠ b) : Way n (swapW n a b) (sw a b) := by
  refine ⟨by unfold swapW; rw [List.length_set, List.length_set, ups_len], fun x h => ?_, fun x h => ?_, fun x h => ?_⟩
  · unfold swapW sw
    rw [List.getD_eq_getElem?_getD, List.getElem?_set, List.length_set, ups_len, List.getElem?_set, ups_len]
    by_cases c1 : x = b
    · subst c1
      rw [if_pos rfl, if_pos h, if_pos rfl]
      rfl
    · rw [if_neg (fun z => c1 z.symm), if_neg c1]
      by_cases c2 : x = a
      · subst c2
        rw [if_pos rfl, if_pos h, if_pos rfl]
        rfl
      · rw [if_neg (fun z => c2 z.symm), if_neg c2, ← List.getD_eq_getElem?_getD, ups_at h]
  · unfold sw
    split
    · exact ha
    · split
      · exact hb
      · exact h
  · unfold sw
    by_cases c1 : x = b
    · rw [if_pos c1, if_neg hab, if_pos rfl, c1]
    · rw [if_neg c1]
      by_cases c2 : x = a
      · rw [if_pos c2, if_pos rfl, c2]
      · rw [if_neg c2, if_neg c1, if_neg c2]
theorem Way.ent {n : Nat} {w : List Int} {f : Nat → Nat} (W : Way n w f) (l : List Nat) : EntF n l (byE l w) := by
  have at_ : ∀ x, x < n → x ∉ l → (byE l w).getD x 0 = (f x : Int) := fun x h c => by rw [byE_at (by rw [W.len]; exact h), if_neg c, W.at_ x h]
  refine ⟨(byE_len l w).trans W.len, fun x h c => by rw [byE_at (by rw [W.len]; exact h), if_pos c], fun x h c => ?_, fun x y hx hy cx cy z => ?_⟩
  · rw [at_ x h c]
    have := W.lt x h
    omega
  · rw [at_ x hx cx, at_ y hy cy] at z
    have e : f x = f y := by omega
    rw [← W.inv x hx, e, W.inv y hy]
theorem Way.goal {n : Nat} {w : List Int} {f : Nat → Nat} (W : Way n w f) (l : List Nat) {y : Nat} : y ∈ goalE n (byE l w) ↔ y < n ∧ f y ∈ l := by
  rw [mem_goal, mem_e ((byE_len l w).trans W.len)]
  refine and_congr_right fun hy => ?_
  constructor
  · intro h
    refine Classical.byContradiction fun c => h ⟨f y, W.lt y hy, ?_⟩
    rw [byE_at (by rw [W.len]; exact W.lt y hy), if_neg c, W.at_ _ (W.lt y hy), W.inv y hy]
  · rintro h ⟨x, hx, ex⟩
    rw [byE_at (by rw [W.len]; exact hx)] at ex
    split at ex
    · omega
    · rename_i c
      rw [W.at_ x hx] at ex
      have : f x = y := by omega
      rw [← this, W.inv x hx] at h
      exact c h
theorem goal_ups {n : Nat} {l : List Nat} (h : Asc 0 n l) : goalE n (byE l (ups n)) = l := by
  refine asc_ext (goal_asc _ _) h fun y => ?_
  rw [(way_ups n).goal]
  exact ⟨fun z => z.2, fun z => ⟨by have := (h.2 y z).2; omega, z⟩⟩
theorem cmp_ups {n : Nat} {l : List Nat} {e : List Int} (h : EntF n l e) : cmpE e (byE (goalE n e) (ups n)) = e := by
  refine list_ext (n := n) (by unfold cmpE; rw [List.length_map, h.len]) h.len fun x hx => ?_
  rw [cmp_at (by rw [h.len]; exact hx)]
  by_cases c : x ∈ l
  · rw [(h.neg hx).mpr c]
    rfl
  · obtain ⟨p1, p2⟩ := h.off hx c
    have r := h.rid x hx c
    rw [if_neg (by omega), byE_at (by rw [ups_len]; exact p1), if_neg p2, ups_at p1]
    omega
theorem ups_cmp {n : Nat} {l : List Nat} {e : List Int} (hl : EntF n l e) : cmpE (byE l (ups n)) e = e := by
  refine list_ext (n := n) (by unfold cmpE; rw [List.length_map, byE_len, ups_len]) hl.len fun x hx => ?_
  rw [cmp_at (by rw [byE_len, ups_len]; exact hx), byE_at (by rw [ups_len]; exact hx)]
  by_cases c : x ∈ l
  · rw [if_pos c, if_pos rfl, hl.key x hx c]
  · rw [if_neg c, ups_at hx, if_neg (by omega), Int.toNat_natCast]
/-! ### the calm table -/
theorem still_ok {n : Nat} (hn : n ≤ 6) : TabOk n (stillT n) := by
  refine TabOk.of_map hn (fun l _ => (way_ups n).ent l) ?_
  refine List.Perm.of_eq ?_
  refine (List.map_congr_left fun l hl => ?_).trans (List.map_id _)
  exact goal_ups (all_ascL hn l hl)
theorem en_still {n : Nat} (hn : n ≤ 6) {l : List Nat} (h : l ∈ allL n) : en n (stillT n) l = byE l (ups n) := en_map hn h
theorem both_still {n : Nat} (hn : n ≤ 6) {T : List (List Int)} (h : TabOk n T) : bothT n T (stillT n) = T := by
  rw [both_map hn h]
  conv => rhs; rw [h.map hn]
  refine List.map_congr_left fun l hl => ?_
  rw [en_still hn (goal_all hn _)]
  exact cmp_ups (h.ent hn hl)
theorem still_both {n : Nat} (hn : n ≤ 6) {T : List (List Int)} (h : TabOk n T) : bothT n (stillT n) T = T := by
  rw [both_map hn (still_ok hn)]
  conv => rhs; rw [h.map hn]
  refine List.map_congr_left fun l hl => ?_
  rw [en_still hn hl, goal_ups (all_ascL hn l hl)]
  exact ups_cmp (h.ent hn hl)
/-! ### tables of deeds -/
def isAll (q l : List Nat) : Bool := q.all fun x => decide (x ∈ l)
def dE (n : Nat) (m : Mv) (l : List Nat) : List Int := byE l (if isAll m.1 l = true then swapW n m.2.1 m.2.2 else ups n)
theorem deed_map (n : Nat) (m : Mv) : deedT n m.1 m.2.1 m.2.2 = (allL n).map (dE n m) := rfl
def dF (m : Mv) (l : List Nat) (x : Nat) : Nat := if isAll m.1 l = true then sw m.2.1 m.2.2 x else x
theorem isAll_iff {q l : List Nat} : isAll q l = true ↔ ∀ x ∈ q, x ∈ l := by
  unfold isAll
  rw [List.all_eq_true]
  simp
section
variable {n : Nat} {m : Mv}
theorem Deed.way (d : Deed n m) (l : List Nat) : Way n (if isAll m.1 l = true then swapW n m.2.1 m.2.2 else ups n) (dF m l) := by
  have h1 := d.ab
  have h2 := d.bn
  unfold dF
  by_cases c : isAll m.1 l = true
  · simp only [c, if_true]
    exact way_swap (by omega) h2 (by omega)
  · simp only [c, if_false]
    exact way_ups n
theorem Deed.ent (d : Deed n m) (l : List Nat) : EntF n l (dE n m l) := (d.way l).ent l
theorem Deed.same (d : Deed n m) {l : List Nat} (hl : Asc 0 n l) : isAll m.1 (goalE n (dE n m l)) = isAll m.1 l := by
  have sub : ∀ x ∈ m.1, dF m l x = x := fun x hx => by
    unfold dF sw
    split
    · rw [if_neg (show ¬ x = m.2.2 from fun z => d.nb (z ▸ hx)), if_neg (show ¬ x = m.2.1 from fun z => d.na (z ▸ hx))]
    · rfl
  rw [Bool.eq_iff_iff, isAll_iff, isAll_iff]
  refine forall_congr' fun x => forall_congr' fun hx => ?_
  show x ∈ goalE n (byE l _) ↔ _
  rw [(d.way l).goal, sub x hx]
  have := d.asc.2 x hx
  exact ⟨fun z => z.2, fun z => ⟨by omega, z⟩⟩
theorem Deed.back (d : Deed n m) {l : List Nat} (hl : Asc 0 n l) : goalE n (dE n m (goalE n (dE n m l))) = l ∧ cmpE (dE n m l) (dE n m (goalE n (dE n m l))) = byE l (ups n) := by
  have es := d.same hl
  have ef : dF m (goalE n (dE n m l)) = dF m l := by funext x; unfold dF; rw [es]
  have W := d.way l
  have W2 := d.way (goalE n (dE n m l))
  rw [ef] at W2
  refine ⟨asc_ext (goal_asc _ _) hl fun y => ?_, ?_⟩
  · show y ∈ goalE n (byE _ _) ↔ _
    rw [W2.goal]
    show y < n ∧ dF m l y ∈ goalE n (byE _ _) ↔ _
    rw [W.goal]
    constructor
    · rintro ⟨h1, h2, h3⟩
      rwa [W.inv y h1] at h3
    · intro h
      have h1 : y < n := by have := (hl.2 y h).2; omega
      exact ⟨h1, W.lt y h1, by rw [W.inv y h1]; exact h⟩
  · refine list_ext (n := n) (by unfold cmpE; rw [List.length_map]; exact (d.ent l).len) (by rw [byE_len, ups_len]) fun x hx => ?_
    rw [cmp_at (by rw [(d.ent l).len]; exact hx), byE_at (by rw [ups_len]; exact hx)]
    by_cases c : x ∈ l
    · rw [if_pos c, (d.ent l).key x hx c]
      rfl
    · have e1 : (dE n m l).getD x 0 = (dF m l x : Int) := by
        unfold dE
        rw [byE_at (by rw [W.len]; exact hx), if_neg c, W.at_ x hx]
      obtain ⟨p1, p2⟩ := (d.ent l).off hx c
      rw [e1, Int.toNat_natCast] at p1 p2
      rw [e1, if_neg (by omega), if_neg c, ups_at hx, Int.toNat_natCast]
      show (byE _ _).getD _ 0 = _
      rw [byE_at (by rw [W2.len]; exact p1), if_neg p2, W2.at_ _ p1, W.inv x hx]
theorem perm_inv {α : Type} [DecidableEq α] {L : List α} {g : α → α} (nd : L.Nodup) (cl : ∀ x ∈ L, g x ∈ L) (iv : ∀ x ∈ L, g (g x) = x) : (L.map g).Perm L := by
  have nd2 : (L.map g).Nodup := by
    show (L.map g).Pairwise (· ≠ ·)
    rw [List.pairwise_map]
    refine List.Pairwise.imp_of_mem (fun {a b} ha hb h z => h ?_) nd
    rw [← iv a ha, ← iv b hb, z]
  refine (List.perm_ext_iff_of_nodup nd2 nd).mpr fun a => ⟨fun h => ?_, fun h => ?_⟩
  · obtain ⟨x, hx, rfl⟩ := List.mem_map.mp h
    exact cl x hx
  · exact List.mem_map.mpr ⟨g a, cl a h, iv a h⟩
theorem all_nodup {n : Nat} (hn : n ≤ 6) : (allL n).Nodup := by
  have h : ((allL n).map (num n)).Pairwise (· ≠ ·) := by rw [lots_nums n (by omega)]; exact List.nodup_range
  rw [List.pairwise_map] at h
  exact h.imp fun h z => h (by rw [z])
theorem Deed.ok (d : Deed n m) (hn : n ≤ 6) : TabOk n (deedT n m.1 m.2.1 m.2.2) := by
  rw [deed_map]
  exact TabOk.of_map hn (fun l _ => d.ent l) (perm_inv (g := fun l => goalE n (dE n m l)) (all_nodup hn) (fun l _ => goal_all hn _) fun l hl => (d.back (all_ascL hn l hl)).1)
theorem Deed.twice (d : Deed n m) (hn : n ≤ 6) : bothT n (deedT n m.1 m.2.1 m.2.2) (deedT n m.1 m.2.1 m.2.2) = stillT n := by
  rw [both_map hn (d.ok hn)]
  refine List.map_congr_left fun l hl => ?_
  rw [deed_map, en_map hn hl, en_map hn (goal_all hn _)]
  exact (d.back (all_ascL hn l hl)).2
end
theorem TabOk.gl_inj' {n : Nat} {T : List (List Int)} (hn : n ≤ 6) (h : TabOk n T) {a b : List Nat} (ha : a ∈ allL n) (hb : b ∈ allL n) (e : goalE n (en n T a) = goalE n (en n T b)) : a = b := by
  have nd : ((allL n).map fun l => goalE n (en n T l)).Pairwise (· ≠ ·) := (h.goalp hn).symm.nodup (all_nodup hn)
  rw [List.pairwise_map, List.pairwise_iff_getElem] at nd
  obtain ⟨i, hi, rfl⟩ := List.getElem_of_mem ha
  obtain ⟨j, hj, rfl⟩ := List.getElem_of_mem hb
  rcases Nat.lt_trichotomy i j with c | c | c
  · exact absurd e (nd i j hi hj c)
  · subst c; rfl
  · exact absurd e.symm (nd j i hj hi c)
end Kr
namespace Kr
open PySem PySem.Spec PyProof.Rows L2
/-! ### the law's tables by deeds, deed by deed -/
theorem setGo_keep {x : Nat} : ∀ (k : Nat) (r acc : List Int), (∀ j, j < r.length → r.getD j 0 ≠ (x : Int)) → (setGo k r acc).getD x 0 = acc.getD x 0
  | _, [], _, _ => rfl
  | k, z :: r, acc, h => by
    unfold setGo
    rw [setGo_keep (k + 1) r _ fun j hj => by
      have := h (j + 1) (by rw [List.length_cons]; omega)
      simpa using this]
    have h0 := h 0 (by rw [List.length_cons]; omega)
    have h0 : z ≠ (x : Int) := by simpa using h0
    split
    · rename_i c
      rw [List.getD_eq_getElem?_getD, List.getElem?_set_ne (by omega), ← List.getD_eq_getElem?_getD]
    · rfl
theorem setGo_put {x : Nat} : ∀ (k : Nat) (r acc : List Int) (j : Nat), j < r.length → r.getD j 0 = (x : Int) → (∀ i, i < r.length → r.getD i 0 = (x : Int) → i = j) → x < acc.length → (setGo k r acc).getD x 0 = ((k + j : Nat) : Int)
  | _, [], _, j, h, _, _, _ => by simp at h
  | k, z :: r, acc, 0, h, e, u, hx => by
    unfold setGo
    have e : z = (x : Int) := by simpa using e
    rw [setGo_keep (k + 1) r _ fun i hi ei => by
      have := u (i + 1) (by rw [List.length_cons]; omega) (by simpa using ei)
      omega]
    rw [if_pos (by omega), e, Int.toNat_natCast, List.getD_eq_getElem?_getD, List.getElem?_set_self hx]
    rfl
  | k, z :: r, acc, j + 1, h, e, u, hx => by
    unfold setGo
    rw [setGo_put (k + 1) r _ j (by rw [List.length_cons] at h; omega) (by simpa using e) (fun i hi ei => by
      have := u (i + 1) (by rw [List.length_cons]; omega) (by simpa using ei)
      omega) (by split <;> first | (rw [List.length_set]; exact hx) | exact hx)]
    congr 1
    omega
/-- riders at their places: what lies at each place -/
structure Lies (n : Nat) (l : List Nat) (ls : List Int) : Prop where
  len : ls.length = n
  at_ : ∀ y, y < n → ls.getD y 0 = -1 ∨ ∃ x : Nat, x < n ∧ x ∉ l ∧ ls.getD y 0 = x
  has : ∀ x, x < n → x ∉ l → ∃ y, y < n ∧ ls.getD y 0 = (x : Int)
  one : ∀ y z, y < n → z < n → 0 ≤ ls.getD y 0 → ls.getD y 0 = ls.getD z 0 → y = z
section
variable {n : Nat} {l : List Nat} {ls : List Int}
theorem Lies.put (h : Lies n l ls) {x y : Nat} (hx : x < n) (hy : y < n) (e : ls.getD y 0 = (x : Int)) : (lawE n ls).getD x 0 = (y : Int) := by
  unfold lawE
  rw [setGo_put 0 ls _ y (by rw [h.len]; exact hy) e (fun i hi ei => h.one i y (by rw [← h.len]; exact hi) hy (by omega) (ei.trans e.symm)) (by rw [List.length_replicate]; exact hx), Nat.zero_add]
theorem Lies.keep (h : Lies n l ls) {x : Nat} (hx : x < n) (c : x ∈ l) : (lawE n ls).getD x 0 = -1 := by
  unfold lawE
  rw [setGo_keep 0 ls _ fun j hj ej => ?_]
  · rw [List.getD_eq_getElem?_getD, List.getElem?_replicate, if_pos hx]
    rfl
  · rcases h.at_ j (by rw [← h.len]; exact hj) with z | ⟨x', _, c', z⟩
    · rw [z] at ej; omega
    · rw [z] at ej
      have : x' = x := by omega
      exact c' (this ▸ c)
theorem lawE_len (n : Nat) (ls : List Int) : (lawE n ls).length = n := by unfold lawE; rw [setGo_len, List.length_replicate]
theorem Lies.ent (h : Lies n l ls) : EntF n l (lawE n ls) := by
  refine ⟨lawE_len n ls, fun x hx c => h.keep hx c, fun x hx c => ?_, fun x y hx hy cx cy z => ?_⟩
  · obtain ⟨y, hy, e⟩ := h.has x hx c
    rw [h.put hx hy e]
    omega
  · obtain ⟨u, hu, eu⟩ := h.has x hx cx
    obtain ⟨v, hv, ev⟩ := h.has y hy cy
    rw [h.put hx hu eu, h.put hy hv ev] at z
    have : u = v := by omega
    subst this
    rw [eu] at ev
    omega
theorem Lies.goal (h : Lies n l ls) {y : Nat} (hy : y < n) : y ∈ goalE n (lawE n ls) ↔ ¬ 0 ≤ ls.getD y 0 := by
  rw [mem_goal, mem_e (lawE_len n ls)]
  constructor
  · rintro ⟨_, h2⟩ c
    rcases h.at_ y hy with z | ⟨x, hx, _, z⟩
    · omega
    · exact h2 ⟨x, hx, h.put hx hy z⟩
  · refine fun c => ⟨hy, ?_⟩
    rintro ⟨x, hx, e⟩
    by_cases k : x ∈ l
    · rw [h.keep hx k] at e
      omega
    · obtain ⟨u, hu, eu⟩ := h.has x hx k
      rw [h.put hx hu eu] at e
      have : u = y := by omega
      subst this
      omega
theorem lies_start (n : Nat) (l : List Nat) : Lies n l (stL n l) := by
  have at_ : ∀ x, x < n → (stL n l).getD x 0 = if x ∈ l then -1 else (x : Int) := fun x hx => by
    unfold stL
    rw [List.getD_eq_getElem?_getD, List.getElem?_map, List.getElem?_range hx]
    rfl
  refine ⟨by unfold stL; rw [List.length_map, List.length_range], fun y hy => ?_, fun x hx c => ⟨x, hx, by rw [at_ x hx, if_neg c]⟩, fun y z hy hz p e => ?_⟩
  · rw [at_ y hy]
    by_cases c : y ∈ l
    · rw [if_pos c]; exact .inl rfl
    · rw [if_neg c]; exact .inr ⟨y, hy, c, rfl⟩
  · rw [at_ y hy] at p e
    rw [at_ z hz] at e
    split at e
    · rename_i c
      rw [if_pos c] at p
      omega
    · split at e <;> omega
/-- two places exchanged, or not -/
theorem Lies.moved (h : Lies n l ls) {m : Mv} (d : Deed n m) : Lies n l (mvL ls m) ∧ lawE n (mvL ls m) = cmpE (lawE n ls) (dE n m (goalE n (lawE n ls))) := by
  have hab := d.ab
  have hbn := d.bn
  have hcond : m.1.all (fun x => !decide (0 ≤ ls.getD x 0)) = isAll m.1 (goalE n (lawE n ls)) := by
    rw [Bool.eq_iff_iff, isAll_iff, List.all_eq_true]
    refine forall_congr' fun x => forall_congr' fun hx => ?_
    rw [h.goal (by have := (d.asc.2 x hx).2; omega)]
    simp
  have W := d.way (goalE n (lawE n ls))
  have at_ : ∀ y, y < n → (mvL ls m).getD y 0 = ls.getD (dF m (goalE n (lawE n ls)) y) 0 := fun y hy => by
    unfold mvL dF
    rw [hcond]
    split
    · unfold sw
      rw [List.getD_eq_getElem?_getD, List.getElem?_set, List.length_set, h.len, List.getElem?_set, h.len]
      by_cases c1 : y = m.2.2
      · rw [if_pos c1.symm, if_pos hbn, if_pos c1]
        rfl
      · rw [if_neg (fun z => c1 z.symm), if_neg c1]
        by_cases c2 : y = m.2.1
        · rw [if_pos c2.symm, if_pos (by omega), if_pos c2]
          rfl
        · rw [if_neg (fun z => c2 z.symm), if_neg c2, List.getD_eq_getElem?_getD]
    · rfl
  have hl : (mvL ls m).length = n := by
    unfold mvL
    split
    · rw [List.length_set, List.length_set]; exact h.len
    · exact h.len
  have hL : Lies n l (mvL ls m) := by
    refine ⟨hl, fun y hy => ?_, fun x hx c => ?_, fun y z hy hz p e => ?_⟩
    · rw [at_ y hy]
      exact h.at_ _ (W.lt y hy)
    · obtain ⟨y, hy, e⟩ := h.has x hx c
      exact ⟨_, W.lt y hy, by rw [at_ _ (W.lt y hy), W.inv y hy]; exact e⟩
    · rw [at_ y hy] at p e
      rw [at_ z hz] at e
      have := h.one _ _ (W.lt y hy) (W.lt z hz) p e
      rw [← W.inv y hy, this, W.inv z hz]
  refine ⟨hL, list_ext (n := n) (lawE_len n _) (by unfold cmpE; rw [List.length_map]; exact lawE_len n _) fun x hx => ?_⟩
  rw [cmp_at (by rw [lawE_len]; exact hx)]
  by_cases c : x ∈ l
  · rw [hL.keep hx c, h.keep hx c]
    rfl
  · obtain ⟨y, hy, e⟩ := h.has x hx c
    have e2 := h.put hx hy e
    obtain ⟨p1, p2⟩ := h.ent.off hx c
    rw [e2, Int.toNat_natCast] at p1 p2
    rw [e2, if_neg (by omega), Int.toNat_natCast, hL.put hx (W.lt y hy) (by rw [at_ _ (W.lt y hy), W.inv y hy]; exact e)]
    show _ = (byE _ _).getD _ 0
    rw [byE_at (by rw [W.len]; exact p1), if_neg p2, W.at_ _ p1]
end
theorem lies_all {n : Nat} {l : List Nat} : ∀ (ms : List Mv) (ls : List Int), Lies n l ls → (∀ m ∈ ms, Deed n m) → Lies n l (ms.foldl mvL ls)
  | [], _, h, _ => h
  | m :: ms, ls, h, d => lies_all ms _ (h.moved (d m List.mem_cons_self)).1 fun x hx => d x (List.mem_cons_of_mem _ hx)
theorem made_nil {n : Nat} (hn : n ≤ 6) : madeT n [] = stillT n := by
  refine List.map_congr_left fun l hl => ?_
  show lawE n (stL n l) = _
  have h := lies_start n l
  have at_ : ∀ x, x < n → (stL n l).getD x 0 = if x ∈ l then -1 else (x : Int) := fun x hx => by
    unfold stL
    rw [List.getD_eq_getElem?_getD, List.getElem?_map, List.getElem?_range hx]
    rfl
  refine list_ext (n := n) (lawE_len n _) (by rw [byE_len, ups_len]) fun x hx => ?_
  rw [byE_at (by rw [ups_len]; exact hx)]
  by_cases c : x ∈ l
  · rw [if_pos c, h.keep hx c]
  · rw [if_neg c, ups_at hx, h.put hx hx (by rw [at_ x hx, if_neg c])]
theorem made_ent {n : Nat} {ms : List Mv} (d : ∀ m ∈ ms, Deed n m) (l : List Nat) : EntF n l (madeE n ms l) := (lies_all ms _ (lies_start n l) d).ent
theorem made_snoc {n : Nat} (hn : n ≤ 6) {ms : List Mv} {m : Mv} (d : ∀ x ∈ ms ++ [m], Deed n x) : madeT n (ms ++ [m]) = bothT n (madeT n ms) (deedT n m.1 m.2.1 m.2.2) := by
  unfold madeT bothT
  rw [List.map_map]
  refine List.map_congr_left fun l hl => ?_
  have dm := d m (List.mem_append_right _ List.mem_cons_self)
  have h := (lies_all ms _ (lies_start n l) fun x hx => d x (List.mem_append_left _ hx)).moved dm
  show lawE n ((ms ++ [m]).foldl mvL (stL n l)) = cmpE (madeE n ms l) (en n (deedT n m.1 m.2.1 m.2.2) (goalE n (madeE n ms l)))
  rw [List.foldl_append, deed_map, en_map hn (goal_all hn _)]
  exact h.2
theorem made_ok {n : Nat} (hn : n ≤ 6) {ms : List Mv} (d : ∀ m ∈ ms, Deed n m) : TabOk n (madeT n ms) := by
  have : ∀ k, k ≤ ms.length → TabOk n (madeT n (ms.take k)) := fun k => by
    induction k with
    | zero =>
      intro _
      rw [List.take_zero, made_nil hn]
      exact still_ok hn
    | succ k ih =>
      intro hk
      have e : ms.take (k + 1) = ms.take k ++ [ms[k]] := by rw [List.take_add_one, List.getElem?_eq_getElem (by omega)]; rfl
      have d2 : ∀ x ∈ ms.take k ++ [ms[k]], Deed n x := fun x hx => d x (List.take_subset _ _ (e ▸ hx))
      rw [e, made_snoc hn d2]
      exact (ih (by omega)).both hn ((d2 _ (List.mem_append_right _ List.mem_cons_self)).ok hn)
  have := this ms.length (Nat.le_refl _)
  rwa [List.take_length] at this
theorem made_one {n : Nat} (hn : n ≤ 6) {m : Mv} (d : Deed n m) : madeT n [m] = deedT n m.1 m.2.1 m.2.2 := by
  have := made_snoc (ms := []) (m := m) hn fun x hx => by
    rw [List.nil_append, List.mem_singleton] at hx
    exact hx ▸ d
  rw [List.nil_append, made_nil hn, still_both hn (d.ok hn)] at this
  exact this
end Kr
namespace Kr
open PySem PySem.Spec PyProof.Rows L2
/-! ### what the laws show of tables -/
theorem tab_flat (T : List (List Int)) : flatT (tabD T) = true := by simp only [tabD, flatT]; exact ents_flat T
def deedD (m : Mv) : PyData := .tuple [lotD m.1, .int (m.2.1 : Nat), .int (m.2.2 : Nat)]
theorem deed_flat (m : Mv) : flatT (deedD m) = true := by simp [deedD, flatT, flatTA, lot_flat]
theorem deed_dq {H : Hp} {v : V} {m : Mv} (h : DeedAt H v m) : Dq H v (deedD m) := by
  obtain ⟨d, q, rfl, h1, h2⟩ := h
  exact .tup h1 (.cons (lot_at h2) (.cons (.int _) (.cons (.int _) .nil)))
theorem DeedAt.upT {H H' : Hp} {v : V} {m : Mv} (s : TS H H') (h : DeedAt H v m) : DeedAt H' v m := by
  obtain ⟨d, q, rfl, h1, h2⟩ := h
  exact ⟨d, q, rfl, s _ _ h1, s _ _ h2⟩
theorem sm_lot {l : List Nat} {m : Nat} (hl : l.length ≤ m) (h : ∀ x ∈ l, x < 24) : Sm 2 (6 * m) (lotD l) := by
  refine Sm.tup (k := 1) (w := 5) (fun d hd => ?_) (by rw [List.length_map]; exact hl)
  obtain ⟨x, hx, rfl⟩ := List.mem_map.mp hd
  exact .lit (by have := h x hx; omega)
theorem sm_ent {e : List Int} (hl : e.length ≤ 6) (h : ∀ x ∈ e, -1 ≤ x ∧ x < 24) : Sm 2 (6 * 6) (entD e) := by
  refine Sm.tup (k := 1) (w := 5) (fun d hd => ?_) (by rw [List.length_map]; exact hl)
  obtain ⟨x, hx, rfl⟩ := List.mem_map.mp hd
  exact .lit (by have := h x hx; omega)
theorem EntF.le {n : Nat} {l : List Nat} {e : List Int} (h : EntF n l e) : ∀ x ∈ e, x = -1 ∨ (0 ≤ x ∧ x < n) := fun z hz => by
  obtain ⟨x, hx, rfl⟩ := (mem_e h.len).mp hz
  by_cases c : x ∈ l
  · exact .inl (h.key x hx c)
  · exact .inr (h.rid x hx c)
theorem sm_entF {n : Nat} (hn : n ≤ 6) {l : List Nat} {e : List Int} (h : EntF n l e) : Sm 2 (6 * 6) (entD e) := sm_ent (by rw [h.len]; exact hn) fun x hx => by
  have := h.le x hx
  omega
theorem TabOk.mem {n : Nat} (hn : n ≤ 6) {T : List (List Int)} (h : TabOk n T) {e : List Int} (he : e ∈ T) : ∃ l ∈ allL n, EntF n l e := by
  rw [h.map hn] at he
  obtain ⟨l, hl, rfl⟩ := List.mem_map.mp he
  exact ⟨l, hl, h.ent hn hl⟩
theorem sm_tab {n : Nat} (hn : n ≤ 6) {T : List (List Int)} (h : TabOk n T) : Sm 3 ((6 * 6 + 1) * 64) (tabD T) := by
  refine Sm.tup (k := 2) (w := 6 * 6) (fun d hd => ?_) (by rw [List.length_map, h.ents.len]; exact all_few n (by omega))
  obtain ⟨e, he, rfl⟩ := List.mem_map.mp hd
  obtain ⟨l, _, f⟩ := h.mem hn he
  exact sm_entF hn f
theorem sm_deed {n : Nat} (hn : n ≤ 6) {m : Mv} (d : Deed n m) : Sm 3 ((36 + 1) * 3) (deedD m) := by
  have h1 := d.ab
  have h2 := d.bn
  refine Sm.tup (k := 2) (w := 36) (fun x hx => ?_) (Nat.le_refl _)
  simp only [List.mem_cons, List.not_mem_nil, or_false] at hx
  rcases hx with rfl | rfl | rfl
  · exact sm_lot (m := 6) (by have := d.asc.len; omega) fun x hx => by have := (d.asc.2 x hx).2; omega
  · exact (Sm.lit (by omega)).mono (by decide) (by decide)
  · exact (Sm.lit (by omega)).mono (by decide) (by decide)
theorem ents_lay : ∀ T : List (List Int), PyData.canLayAll0 (T.map entD) = true ∧ PyData.depthAll (T.map entD) ≤ 2
  | [] => by simp [PyData.canLayAll0, PyData.depthAll]
  | e :: T => by
    obtain ⟨h1, h2⟩ := ents_lay T
    have h3 := dep_ints1 e
    simp only [List.map_cons, PyData.canLayAll0, PyData.depthAll, entD, PyData.canLay0, PyData.depth, h1, lay_ints1]
    refine ⟨by simp, by omega⟩
theorem tab_shaped (T : List (List Int)) : SeqAt.shaped (tabD T) = true := by
  obtain ⟨h1, h2⟩ := ents_lay T
  unfold SeqAt.shaped
  simp only [tabD, PyData.canLay0, PyData.depth, h1, Bool.true_and, decide_eq_true_eq]
  omega
theorem TabOk.uniq {n : Nat} (hn : n ≤ 6) {T : List (List Int)} (h : TabOk n T) {i j : Nat} {e : List Int} (h1 : T[i]? = some e) (h2 : T[j]? = some e) : i = j := by
  have at_ : ∀ {i : Nat}, T[i]? = some e → ∃ l, (allL n)[i]? = some l ∧ EntF n l e := fun {i} hi => by
    have hl : i < (allL n).length := by rw [← h.ents.len]; exact (List.getElem?_eq_some_iff.mp hi).1
    exact ⟨_, List.getElem?_eq_getElem hl, (h.ents.at_ i _ _ (List.getElem?_eq_getElem hl) hi).f⟩
  obtain ⟨a, ha, fa⟩ := at_ h1
  obtain ⟨b, hb, fb⟩ := at_ h2
  have e1 : a = b := asc_ext (all_ascL hn _ (List.mem_of_getElem? ha)) (all_ascL hn _ (List.mem_of_getElem? hb)) fun x => by
    by_cases hx : x < n
    · rw [← fa.neg hx, ← fb.neg hx]
    · exact ⟨fun z => absurd ((all_ascL hn _ (List.mem_of_getElem? ha)).2 x z).2 (by omega), fun z => absurd ((all_ascL hn _ (List.mem_of_getElem? hb)).2 x z).2 (by omega)⟩
  subst e1
  rw [← (all_num_at hn ha).1, ← (all_num_at hn hb).1]
/-! ### what the program's tests ask -/
theorem TabOk.both_in {n : Nat} (hn : n ≤ 6) {T : List (List Int)} (h : TabOk n T) : T.length ≤ 1000 ∧ (∀ e ∈ T, EntOk n e) ∧ T.length = 2 ^ n ∧ ∀ e ∈ T, e.length = n := by
  refine ⟨by rw [h.ents.len]; exact Nat.le_trans (all_few n (by omega)) (by decide), fun e he => ?_, h.len hn, fun e he => ?_⟩
  · obtain ⟨l, _, f⟩ := h.mem hn he
    exact ⟨goal_all hn e, by rw [f.len]; omega, f.le⟩
  · obtain ⟨l, _, f⟩ := h.mem hn he
    exact f.len
theorem TabOk.nd {n : Nat} (hn : n ≤ 6) {T : List (List Int)} (h : TabOk n T) : (T.map (goalE n)).Nodup := h.goals.symm.nodup (all_nodup hn)
theorem all_head : ∀ n : Nat, n < 7 → (allL n)[0]? = some [] := by decide +kernel
theorem TabOk.head {n : Nat} (hn : n ≤ 6) {T : List (List Int)} (h : TabOk n T) : ∃ r, T = en n T [] :: r := by
  have e := all_head n (by omega)
  cases hA : allL n with
  | nil => rw [hA] at e; cases e
  | cons a r =>
    rw [hA] at e
    have ea : a = [] := Option.some.inj e
    subst ea
    have h2 := h.map hn
    rw [hA, List.map_cons] at h2
    exact ⟨_, h2⟩
theorem nil_all {n : Nat} (hn : n ≤ 6) : ([] : List Nat) ∈ allL n := List.mem_of_getElem? (all_head n (by omega))
theorem ints_eqv : ∀ a b : List Int, PyData.eqvAll (a.map .int) (b.map .int) = decide (a = b)
  | [], [] => by simp [PyData.eqvAll]
  | [], _ :: _ => by simp [PyData.eqvAll]
  | _ :: _, [] => by simp [PyData.eqvAll]
  | x :: a, y :: b => by
    have ih := ints_eqv a b
    simp only [List.map_cons, PyData.eqvAll]
    rw [ih, Bool.eq_iff_iff]
    simp [PyData.eqv]
theorem ent_eqv (a b : List Int) : PyData.eqv (entD a) (entD b) = decide (a = b) := by
  unfold entD
  simp only [PyData.eqv]
  exact ints_eqv a b
theorem lot_eqv (a b : List Nat) : PyData.eqv (lotD a) (lotD b) = decide (a = b) := by
  have e : ∀ l : List Nat, lotD l = entD (l.map fun (x : Nat) => (x : Int)) := fun l => by
    unfold lotD entD
    rw [List.map_map]
    rfl
  rw [e, e, ent_eqv, decide_eq_decide]
  exact List.map_inj_right (fun a b z => by omega)
theorem ent_shaped (e : List Int) : SeqAt.shaped (entD e) = true := tup_shaped e
theorem deed_head {n : Nat} {m : Mv} (d : Deed n m) : dE n m [] = byE [] (ups n) ↔ m.1 ≠ [] := by
  have h1 := d.ab
  have h2 := d.bn
  constructor
  · intro e z
    have e1 : dE n m [] = byE [] (swapW n m.2.1 m.2.2) := by
      unfold dE isAll
      rw [z]
      rfl
    rw [e1] at e
    have W := way_swap (n := n) (a := m.2.1) (b := m.2.2) (by omega) h2 (by omega)
    have e2 : (byE [] (swapW n m.2.1 m.2.2)).getD m.2.1 0 = (byE [] (ups n)).getD m.2.1 0 := by rw [e]
    rw [byE_at (by rw [W.len]; omega), byE_at (by rw [ups_len]; omega), if_neg (by simp), if_neg (by simp), W.at_ _ (by omega), ups_at (by omega)] at e2
    unfold sw at e2
    rw [if_neg (by omega), if_pos rfl] at e2
    omega
  · intro h
    unfold dE
    rw [if_neg]
    rw [isAll_iff]
    cases hm : m.1 with
    | nil => exact absurd hm h
    | cons x r => exact fun z => absurd (z x List.mem_cons_self) (by simp)
end Kr
namespace Kr
open PySem PySem.Spec PyProof.Rows L2
/-! ### conditions of while: more may be asked of what follows -/
def MonoE (t : TE) : Prop := ∀ σ H (Q Q' : VK), (∀ v H1, Q v H1 → Q' v H1) → t σ H Q → t σ H Q'
def MonoC (t : TT) : Prop := ∀ σ H (Q Q' : Bool → Hp → Prop), (∀ v H1, Q v H1 → Q' v H1) → t σ H Q → t σ H Q'
def MonoR (r : R2) : Prop := ∀ x y H (Q Q' : VK), (∀ v H1, Q v H1 → Q' v H1) → r x y H Q → r x y H Q'
theorem mono_var (i : Nat) : MonoE (tVar i) := fun _ _ _ _ h ⟨v, e, q⟩ => ⟨v, e, h _ _ q⟩
theorem mono_c (v : V) : MonoE (tC v) := fun _ _ _ _ h q => h _ _ q
theorem mono_op {r : R2} {a b : TE} (hr : MonoR r) (ha : MonoE a) (hb : MonoE b) : MonoE (tOp r a b) := fun σ _ _ _ h q => ha _ _ _ _ (fun _ _ q => hb _ _ _ _ (fun _ _ q => hr _ _ _ _ _ h q) q) q
theorem mono_rI0 (g : Int → Int → V) : MonoR (rI0 g) := fun _ _ _ _ _ h ⟨i, j, a, b, q⟩ => ⟨i, j, a, b, h _ _ q⟩
theorem mono_rI (C : Int → Int → Prop) (g : Int → Int → V) : MonoR (rI C g) := fun _ _ _ _ _ h ⟨i, j, a, b, c, q⟩ => ⟨i, j, a, b, c, h _ _ q⟩
theorem mono_ixT (K : PySem.W.Frag) : MonoR (rIxT K) := fun _ _ _ _ _ h ⟨p, xs, i, v, a, b, c, d, q⟩ => ⟨p, xs, i, v, a, b, c, d, h _ _ q⟩
theorem mono_ixL (K : PySem.W.Frag) : MonoR (rIxL K) := fun _ _ _ _ _ h ⟨p, xs, i, v, a, b, c, d, q⟩ => ⟨p, xs, i, v, a, b, c, d, h _ _ q⟩
theorem mono_din {a b : TE} (ha : MonoE a) (hb : MonoE b) : MonoE (tDIn a b) := fun σ _ _ _ h q => ha _ _ _ _ (fun _ _ q => hb _ _ _ _ (fun _ _ ⟨x, o, e, g, q⟩ => ⟨x, o, e, g, h _ _ q⟩) q) q
theorem mono_dnotin {a b : TE} (ha : MonoE a) (hb : MonoE b) : MonoE (tDNotIn a b) := fun σ _ _ _ h q => ha _ _ _ _ (fun _ _ q => hb _ _ _ _ (fun _ _ ⟨x, o, e, g, q⟩ => ⟨x, o, e, g, h _ _ q⟩) q) q
theorem mono_B {a : TE} (ha : MonoE a) : MonoC (tB a) := fun _ _ _ _ h q => ha _ _ _ _ (fun _ _ ⟨c, e, q⟩ => ⟨c, e, h _ _ q⟩) q
theorem mono_test {a : TE} (ha : MonoE a) : MonoC (tTest a) := fun _ _ _ _ h q => ha _ _ _ _ (fun _ _ ⟨c, e, q⟩ => ⟨c, e, h _ _ q⟩) q
theorem mono_and {a b : TT} (ha : MonoC a) (hb : MonoC b) : MonoC (tAnd a b) := fun _ _ _ _ h q => ha _ _ _ _ (fun c _ q => by
  cases c with
  | true => exact hb _ _ _ _ h q
  | false => exact h _ _ q) q
def MonoA (t : TA) : Prop := ∀ σ H (Q Q' : List V → Hp → Prop), (∀ v H1, Q v H1 → Q' v H1) → t σ H Q → t σ H Q'
def MonoL (r : List V → Hp → VK → Prop) : Prop := ∀ vs H (Q Q' : VK), (∀ v H1, Q v H1 → Q' v H1) → r vs H Q → r vs H Q'
theorem mono_nil : MonoA tNil := fun _ _ _ _ h q => h _ _ q
theorem mono_cons {t : TE} {u : TA} (a : MonoE t) (b : MonoA u) : MonoA (tCons t u) := fun _ _ _ _ h q => a _ _ _ _ (fun _ _ q => b _ _ _ _ (fun _ _ q => h _ _ q) q) q
theorem mono_cb {r : List V → Hp → VK → Prop} {t : TA} (hr : MonoL r) (a : MonoA t) : MonoE (tCB r t) := fun _ _ _ _ h q => a _ _ _ _ (fun _ _ q => hr _ _ _ _ h q) q
theorem mono_eq : MonoR rEq := fun _ _ _ _ _ h ⟨a, q⟩ => ⟨a, h _ _ q⟩
theorem mono_int : MonoL (fun xs H Q => (∃ i, xs = [.int i] ∧ Q (.int i) H) ∨ ∃ k, xs = [.bl k] ∧ Q (.int (if k then 1 else 0)) H) := fun _ _ _ _ h q => q.elim (fun ⟨i, e, q⟩ => .inl ⟨i, e, h _ _ q⟩) fun ⟨i, e, q⟩ => .inr ⟨i, e, h _ _ q⟩
end Kr
namespace Kr
open PySem PySem.Spec PyProof.Rows L2
/-! ### terms of programs -/
inductive Tm where
  | doo (d : Mv)
  | part (j : Nat)
  | row (ts : List Tm)
  | back (t : Tm)
  | times (t : Tm) (k : Nat)
mutual
def tmD : Tm → PyData
  | .doo d => .tuple [.str "do", deedD d]
  | .part j => .tuple [.str "part", .int (j : Int)]
  | .row ts => .tuple [.str "row", .tuple (tmDs ts)]
  | .back t => .tuple [.str "back", tmD t]
  | .times t k => .tuple [.str "times", tmD t, .int (k : Int)]
def tmDs : List Tm → List PyData
  | [] => []
  | t :: ts => tmD t :: tmDs ts
end
mutual
def dep : Tm → Nat
  | .doo _ => 1
  | .part _ => 1
  | .row ts => depL ts + 1
  | .back t => dep t + 1
  | .times t _ => dep t + 1
def depL : List Tm → Nat
  | [] => 0
  | t :: ts => max (dep t) (depL ts)
end
theorem tmDs_map : ∀ ts : List Tm, tmDs ts = ts.map tmD
  | [] => rfl
  | t :: ts => by
    simp only [tmDs, List.map_cons]
    rw [tmDs_map ts]
theorem depL_le : ∀ {ts : List Tm} {t : Tm}, t ∈ ts → dep t ≤ depL ts
  | u :: ts, t, h => by
    simp only [depL]
    rcases List.mem_cons.mp h with rfl | h
    · exact Nat.le_max_left _ _
    · exact Nat.le_trans (depL_le h) (Nat.le_max_right _ _)
/-- what a measure tells -/
structure Mea (α : Type) where
  oD : Mv → α
  oR : List α → α
  oB : α → α
  oT : α → Nat → α
section
variable {α : Type}
mutual
def worth (M : Mea α) (ws : List α) : Tm → α
  | .doo d => M.oD d
  | .part j => ws.getD j (M.oR [])
  | .row ts => M.oR (worthL M ws ts)
  | .back t => M.oB (worth M ws t)
  | .times t k => M.oT (worth M ws t) k
def worthL (M : Mea α) (ws : List α) : List Tm → List α
  | [] => []
  | t :: ts => worth M ws t :: worthL M ws ts
end
theorem worthL_map (M : Mea α) (ws : List α) : ∀ ts : List Tm, worthL M ws ts = ts.map (worth M ws)
  | [] => rfl
  | t :: ts => by
    simp only [worthL, List.map_cons]
    rw [worthL_map M ws ts]
mutual
/-- a term that may stand behind k others, of deeds that are right, its rows of at most r terms -/
def okTm (D : Mv → Prop) (r k : Nat) : Tm → Prop
  | .doo d => D d
  | .part j => j < k
  | .row ts => ts.length ≤ r ∧ okTms D r k ts
  | .back t => okTm D r k t
  | .times t n => n ≤ 10 ^ 30 ∧ okTm D r k t
def okTms (D : Mv → Prop) (r k : Nat) : List Tm → Prop
  | [] => True
  | t :: ts => okTm D r k t ∧ okTms D r k ts
end
theorem okTms_mem {D : Mv → Prop} {r k : Nat} : ∀ {ts : List Tm}, okTms D r k ts → ∀ t ∈ ts, okTm D r k t
  | [], _, _, h => nomatch h
  | u :: ts, h, t, ht => by
    simp only [okTms] at h
    rcases List.mem_cons.mp ht with rfl | ht
    · exact h.1
    · exact okTms_mem h.2 t ht
/-- a measure, its worths as values, its object -/
structure MeaR (α : Type) extends Mea α where
  rep : α → V → Hp → Prop
  flds : List (Str × V) → Prop
  ok : α → Prop
  okD : Mv → Prop
  most : Nat
  up : ∀ {a : α} {v : V} {H H' : Hp}, TS H H' → rep a v H → rep a v H'
  cD : ∀ {d : Mv}, okD d → ok (oD d)
  cR : ∀ {as : List α}, (∀ a ∈ as, ok a) → as.length ≤ most → ok (oR as)
  cB : ∀ {a : α}, ok a → ok (oB a)
  cT : ∀ {a : α} {k : Nat}, ok a → k ≤ 10 ^ 30 → ok (oT a k)
  nD : ∀ {fs}, flds fs → fs.lookup ("of_deed" : Str) = none
  nR : ∀ {fs}, flds fs → fs.lookup ("of_row" : Str) = none
  nB : ∀ {fs}, flds fs → fs.lookup ("of_back" : Str) = none
  nT : ∀ {fs}, flds fs → fs.lookup ("of_times" : Str) = none
def MeaR.obj (R : MeaR α) (C : Addr) (m : V) (H : Hp) : Prop := ∃ a dx fs, m = .ref a ∧ H a = some (.ins C dx fs) ∧ R.flds fs
theorem MeaR.objUp {R : MeaR α} {C : Addr} {m : V} {H H' : Hp} (h : R.obj C m H) (s : Same H H') : R.obj C m H' := let ⟨a, dx, fs, e, f, g⟩ := h; ⟨a, dx, fs, e, s _ _ f, g⟩
def MeaR.spD (R : MeaR α) (C : Addr) : Sp := fun vs H Q _ => ∃ (m v : V) (d : Mv), vs = [m, v] ∧ R.obj C m H ∧ Dq H v (deedD d) ∧ R.okD d ∧ ∀ H' r, Same H H' → R.rep (R.oD d) r H' → Q r H'
def MeaR.spR (R : MeaR α) (C : Addr) : Sp := fun vs H Q _ => ∃ (m : V) (a : Addr) (us : List V) (as : List α), vs = [m, .ref a] ∧ R.obj C m H ∧ H a = some (.lst us) ∧ us.length = as.length ∧ as.length ≤ R.most ∧ (∀ (i : Nat) u x, us[i]? = some u → as[i]? = some x → R.rep x u H) ∧ (∀ x ∈ as, R.ok x) ∧ ∀ H' r, Same H H' → R.rep (R.oR as) r H' → Q r H'
def MeaR.spB (R : MeaR α) (C : Addr) : Sp := fun vs H Q _ => ∃ (m v : V) (x : α), vs = [m, v] ∧ R.obj C m H ∧ R.rep x v H ∧ R.ok x ∧ ∀ H' r, Same H H' → R.rep (R.oB x) r H' → Q r H'
def MeaR.spT (R : MeaR α) (C : Addr) : Sp := fun vs H Q _ => ∃ (m v : V) (x : α) (k : Nat), vs = [m, v, .int (k : Int)] ∧ R.obj C m H ∧ R.rep x v H ∧ R.ok x ∧ k ≤ 10 ^ 30 ∧ ∀ H' r, Same H H' → R.rep (R.oT x k) r H' → Q r H'
mutual
theorem worth_ok (R : MeaR α) {ws : List α} (hw : ∀ a ∈ ws, R.ok a) : ∀ t : Tm, okTm R.okD R.most ws.length t → R.ok (worth R.toMea ws t)
  | .doo d, h => by
    simp only [okTm] at h
    simp only [worth]
    exact R.cD h
  | .part j, h => by
    simp only [okTm] at h
    simp only [worth]
    rw [List.getD_eq_getElem?_getD, List.getElem?_eq_getElem h]
    exact hw _ (List.getElem_mem h)
  | .row ts, h => by
    simp only [okTm] at h
    simp only [worth]
    refine R.cR (worthL_ok R hw ts h.2) ?_
    rw [worthL_map, List.length_map]
    exact h.1
  | .back t, h => by
    simp only [okTm] at h
    simp only [worth]
    exact R.cB (worth_ok R hw t h)
  | .times t k, h => by
    simp only [okTm] at h
    simp only [worth]
    exact R.cT (worth_ok R hw t h.2) h.1
theorem worthL_ok (R : MeaR α) {ws : List α} (hw : ∀ a ∈ ws, R.ok a) : ∀ ts : List Tm, okTms R.okD R.most ws.length ts → ∀ x ∈ worthL R.toMea ws ts, R.ok x
  | [], _, x, h => by
    simp only [worthL] at h
    exact nomatch h
  | t :: ts, h, x, hx => by
    simp only [okTms] at h
    simp only [worthL] at hx
    rcases List.mem_cons.mp hx with rfl | hx
    · exact worth_ok R hw t h.1
    · exact worthL_ok R hw ts h.2 x hx
end
end
end Kr
namespace Kr
open PySem PySem.Spec PyProof.Rows L2
mutual
theorem tm_flat : ∀ t : Tm, flatT (tmD t) = true
  | .doo d => by simp [tmD, flatT, flatTA, deed_flat]
  | .part j => by simp [tmD, flatT, flatTA]
  | .row ts => by simp [tmD, flatT, flatTA, tms_flat ts]
  | .back t => by simp [tmD, flatT, flatTA, tm_flat t]
  | .times t k => by simp [tmD, flatT, flatTA, tm_flat t]
theorem tms_flat : ∀ ts : List Tm, flatTA (tmDs ts) = true
  | [] => by simp [tmDs, flatTA]
  | t :: ts => by simp [tmDs, flatTA, tm_flat t, tms_flat ts]
end
theorem okTms_of {D : Mv → Prop} {r k : Nat} : ∀ {ts : List Tm}, (∀ t ∈ ts, okTm D r k t) → okTms D r k ts
  | [], _ => by simp [okTms]
  | t :: ts, h => by
    simp only [okTms]
    exact ⟨h t List.mem_cons_self, okTms_of fun x hx => h x (List.mem_cons_of_mem _ hx)⟩
theorem depL_of {m : Nat} : ∀ {ts : List Tm}, (∀ t ∈ ts, dep t ≤ m) → depL ts ≤ m
  | [], _ => Nat.zero_le _
  | t :: ts, h => by
    simp only [depL]
    exact Nat.max_le.mpr ⟨h t List.mem_cons_self, depL_of fun x hx => h x (List.mem_cons_of_mem _ hx)⟩
theorem joinC7 {c : TT} {σ : L2.St} {H : Hp} {Q : Bool → Hp → Prop} (R : Bool → Hp → Prop) (h : ∀ b G, R b G → Q b G) (hc : ∀ Q' : Bool → Hp → Prop, (∀ b G, R b G → Q' b G) → c σ H Q') : c σ H Q := hc Q h
end Kr
namespace Kr
open PySem PySem.Spec PyProof.Rows L2
/-! ### tables turned back -/
theorem EntF.lies {n : Nat} {l : List Nat} {e : List Int} (h : EntF n l e) : Lies n (goalE n e) e := by
  refine ⟨h.len, fun y hy => ?_, fun x hx c => ?_, fun y z hy hz p q => ?_⟩
  · by_cases c : y ∈ l
    · exact .inl (h.key y hy c)
    · obtain ⟨p1, p2⟩ := h.off hy c
      have := h.rid y hy c
      exact .inr ⟨_, p1, p2, by omega⟩
  · obtain ⟨y, hy, _, e1⟩ := h.from hx c
    exact ⟨y, hy, e1⟩
  · have cy : y ∉ l := fun c => by rw [h.key y hy c] at p; omega
    have cz : z ∉ l := fun c => by rw [q, h.key z hz c] at p; omega
    exact h.inj y z hy hz cy cz q
/-- the entry that leads back -/
theorem EntF.back {n : Nat} {l : List Nat} {e : List Int} (hl : Asc 0 n l) (h : EntF n l e) : EntF n (goalE n e) (lawE n e) ∧ goalE n (lawE n e) = l := by
  refine ⟨h.lies.ent, asc_ext (goal_asc _ _) hl fun y => ?_⟩
  by_cases hy : y < n
  · rw [h.lies.goal hy]
    constructor
    · intro c
      refine Classical.byContradiction fun k => c (h.rid y hy k).1
    · intro k
      rw [h.key y hy k]
      decide
  · exact ⟨fun c => absurd (mem_goal.mp c).1 hy, fun c => absurd (by have := (hl.2 y c).2; omega) hy⟩
theorem back_at {n : Nat} {l : List Nat} {e : List Int} (h : EntF n l e) {x : Nat} (hx : x < n) (c : x ∉ l) : (lawE n e).getD (e.getD x 0).toNat 0 = (x : Int) := by
  obtain ⟨p1, p2⟩ := h.off hx c
  have := h.rid x hx c
  exact h.lies.put p1 hx (by omega)
theorem cmp_back {n : Nat} {l : List Nat} {e : List Int} (h : EntF n l e) : cmpE e (lawE n e) = byE l (ups n) := by
  refine list_ext (n := n) (by unfold cmpE; rw [List.length_map, h.len]) (by rw [byE_len, ups_len]) fun x hx => ?_
  rw [cmp_at (by rw [h.len]; exact hx), byE_at (by rw [ups_len]; exact hx)]
  by_cases c : x ∈ l
  · rw [if_pos c, (h.neg hx).mpr c, if_pos rfl]
  · rw [if_neg c, if_neg (fun z => c ((h.neg hx).mp z)), back_at h hx c, ups_at hx]
theorem back_back {n : Nat} {l : List Nat} {e : List Int} (hl : Asc 0 n l) (h : EntF n l e) : lawE n (lawE n e) = e := by
  obtain ⟨g, eg⟩ := h.back hl
  obtain ⟨k, ek⟩ := g.back (goal_asc _ _)
  rw [eg] at k
  refine list_ext (n := n) (lawE_len _ _) h.len fun x hx => ?_
  by_cases c : x ∈ l
  · rw [k.key x hx c, h.key x hx c]
  · obtain ⟨p1, p2⟩ := h.off hx c
    have e1 := back_at g p1 p2
    rw [back_at h hx c, Int.toNat_natCast] at e1
    have := h.rid x hx c
    rw [e1]
    omega
theorem back_cmp {n : Nat} {l : List Nat} {e : List Int} (hl : Asc 0 n l) (h : EntF n l e) : cmpE (lawE n e) e = byE (goalE n e) (ups n) := by
  have := cmp_back (h.back hl).1
  rwa [back_back hl h] at this
/-- the lot that is led to g -/
def srcL (n : Nat) (T : List (List Int)) (g : List Nat) : List Nat := ((allL n).find? fun l => decide (goalE n (en n T l) = g)).getD []
def turnT (n : Nat) (T : List (List Int)) : List (List Int) := (allL n).map fun g => lawE n (en n T (srcL n T g))
section
variable {n : Nat} {T U : List (List Int)}
theorem TabOk.src (hn : n ≤ 6) (h : TabOk n T) {g : List Nat} (hg : g ∈ allL n) : srcL n T g ∈ allL n ∧ goalE n (en n T (srcL n T g)) = g := by
  have hm : g ∈ (allL n).map fun l => goalE n (en n T l) := (h.goalp hn).symm.subset hg
  obtain ⟨l, hl, e⟩ := List.mem_map.mp hm
  unfold srcL
  cases hf : (allL n).find? fun l => decide (goalE n (en n T l) = g) with
  | none =>
    have := List.find?_eq_none.mp hf l hl
    exact absurd (decide_eq_true e) this
  | some z =>
    have p := List.find?_some hf
    exact ⟨List.mem_of_find?_eq_some hf, of_decide_eq_true p⟩
theorem TabOk.src_goal (hn : n ≤ 6) (h : TabOk n T) {l : List Nat} (hl : l ∈ allL n) : srcL n T (goalE n (en n T l)) = l := by
  obtain ⟨h1, h2⟩ := h.src hn (goal_all hn (en n T l))
  exact h.gl_inj' hn h1 hl h2
theorem en_turn (hn : n ≤ 6) {g : List Nat} (hg : g ∈ allL n) : en n (turnT n T) g = lawE n (en n T (srcL n T g)) := en_map hn hg
theorem TabOk.turn_ent (hn : n ≤ 6) (h : TabOk n T) {g : List Nat} (hg : g ∈ allL n) : EntF n g (lawE n (en n T (srcL n T g))) ∧ goalE n (lawE n (en n T (srcL n T g))) = srcL n T g := by
  obtain ⟨h1, h2⟩ := h.src hn hg
  have := (h.ent hn h1).back (all_ascL hn _ h1)
  rwa [h2] at this
theorem TabOk.turn (hn : n ≤ 6) (h : TabOk n T) : TabOk n (turnT n T) := by
  refine TabOk.of_map hn (fun g hg => (h.turn_ent hn hg).1) ?_
  have e : ((allL n).map fun g => goalE n (lawE n (en n T (srcL n T g)))) = (allL n).map (srcL n T) := List.map_congr_left fun g hg => (h.turn_ent hn hg).2
  rw [e]
  have p := ((h.goalp hn).symm.map (srcL n T))
  refine p.trans (List.Perm.of_eq ?_)
  rw [List.map_map]
  exact (List.map_congr_left fun l hl => h.src_goal hn hl).trans (List.map_id _)
theorem both_turn (hn : n ≤ 6) (h : TabOk n T) : bothT n T (turnT n T) = stillT n := by
  rw [both_map hn h]
  refine List.map_congr_left fun l hl => ?_
  rw [en_turn hn (goal_all hn _), h.src_goal hn hl]
  exact cmp_back (h.ent hn hl)
theorem turn_both (hn : n ≤ 6) (h : TabOk n T) : bothT n (turnT n T) T = stillT n := by
  rw [both_map hn (h.turn hn)]
  refine List.map_congr_left fun g hg => ?_
  obtain ⟨h1, h2⟩ := h.src hn hg
  rw [en_turn hn hg, (h.turn_ent hn hg).2]
  have := back_cmp (all_ascL hn _ h1) (h.ent hn h1)
  rwa [h2] at this
theorem inv_one (hn : n ≤ 6) (h : TabOk n T) {W : List (List Int)} (hW : TabOk n W) (e : bothT n T W = stillT n) : W = turnT n T := by
  rw [← still_both hn hW, ← turn_both hn h, both_assoc hn (h.turn hn) h hW, e, both_still hn (h.turn hn)]
theorem turn_turn (hn : n ≤ 6) (h : TabOk n T) : turnT n (turnT n T) = T := (inv_one hn (h.turn hn) h (turn_both hn h)).symm
theorem turn_of_both (hn : n ≤ 6) (h : TabOk n T) (g : TabOk n U) : turnT n (bothT n T U) = bothT n (turnT n U) (turnT n T) := by
  refine (inv_one hn (h.both hn g) ((g.turn hn).both hn (h.turn hn)) ?_).symm
  rw [both_assoc hn h g ((g.turn hn).both hn (h.turn hn)), ← both_assoc hn g (g.turn hn) (h.turn hn), both_turn hn g, still_both hn (h.turn hn), both_turn hn h]
/-! ### lists that are filled place by place -/
def putAll {α : Type} (ps : List (Nat × α)) (L : List α) : List α := ps.foldl (fun L p => L.set p.1 p.2) L
theorem putAll_len {α : Type} : ∀ (ps : List (Nat × α)) (L : List α), (putAll ps L).length = L.length
  | [], _ => rfl
  | p :: ps, L => by
    unfold putAll
    rw [List.foldl_cons]
    exact (putAll_len ps _).trans List.length_set
theorem putAll_keep {α : Type} {i : Nat} : ∀ (ps : List (Nat × α)) (L : List α), (∀ p ∈ ps, p.1 ≠ i) → (putAll ps L)[i]? = L[i]?
  | [], _, _ => rfl
  | p :: ps, L, h => by
    unfold putAll
    rw [List.foldl_cons]
    refine (putAll_keep ps _ fun q hq => h q (List.mem_cons_of_mem _ hq)).trans ?_
    exact List.getElem?_set_ne (h p List.mem_cons_self)
theorem putAll_at {α : Type} {i : Nat} {v : α} : ∀ (ps : List (Nat × α)) (L : List α), (ps.map (·.1)).Nodup → (i, v) ∈ ps → i < L.length → (putAll ps L)[i]? = some v
  | p :: ps, L, nd, h, hi => by
    have nd2 : p.1 ∉ ps.map (·.1) ∧ (ps.map (·.1)).Nodup := by simpa using nd
    unfold putAll
    rw [List.foldl_cons]
    rcases List.mem_cons.mp h with c | c
    · subst c
      refine (putAll_keep ps _ fun q hq z => nd2.1 (List.mem_map.mpr ⟨q, hq, z⟩)).trans ?_
      exact List.getElem?_set_self hi
    · exact putAll_at ps _ nd2.2 c (by rw [List.length_set]; exact hi)
theorem putAll_snoc {α : Type} (ps : List (Nat × α)) (p : Nat × α) (L : List α) : putAll (ps ++ [p]) L = (putAll ps L).set p.1 p.2 := by
  unfold putAll
  rw [List.foldl_append]
  rfl
theorem putAll_mem {α : Type} {d : α} : ∀ (ps : List (Nat × α)) (L : List α), d ∈ putAll ps L → d ∈ L ∨ ∃ p ∈ ps, d = p.2
  | [], _, h => .inl h
  | p :: ps, L, h => by
    unfold putAll at h
    rw [List.foldl_cons] at h
    rcases putAll_mem ps _ h with c | ⟨q, hq, e⟩
    · rcases List.mem_or_eq_of_mem_set c with k | k
      · exact .inl k
      · exact .inr ⟨p, List.mem_cons_self, k⟩
    · exact .inr ⟨q, List.mem_cons_of_mem _ hq, e⟩
def backP (n : Nat) (e : List Int) : Nat × PyData := (num n (goalE n e), entD (lawE n e))
theorem put_flat (n k : Nat) (T : List (List Int)) : flatTA (putAll (T.map (backP n)) (List.replicate k (.tuple []))) = true := flatTA_of fun d hd => by
  rcases putAll_mem _ _ hd with c | ⟨p, hp, rfl⟩
  · rw [List.eq_of_mem_replicate c]
    rfl
  · obtain ⟨e, _, rfl⟩ := List.mem_map.mp hp
    exact ent_flat _
theorem turn_put (hn : n ≤ 6) (h : TabOk n T) : putAll (T.map (backP n)) (List.replicate (2 ^ n) (.tuple [])) = (turnT n T).map entD := by
  have hT := h.map hn
  have nd : ((T.map (backP n)).map (·.1)).Nodup := by
    rw [List.map_map]
    have e : (T.map ((fun x : Nat × PyData => x.1) ∘ backP n)) = (T.map (goalE n)).map (num n) := by rw [List.map_map]; rfl
    rw [e]
    have := (h.goals.map (num n))
    rw [lots_nums n (by omega)] at this
    exact this.symm.nodup List.nodup_range
  refine List.ext_getElem? fun i => ?_
  by_cases hi : i < 2 ^ n
  · obtain ⟨g, hg⟩ : ∃ g, (allL n)[i]? = some g := ⟨_, List.getElem?_eq_getElem (by rw [all_len n (by omega)]; exact hi)⟩
    have hga := List.mem_of_getElem? hg
    obtain ⟨h1, h2⟩ := h.src hn hga
    have hmem : (i, entD (lawE n (en n T (srcL n T g)))) ∈ T.map (backP n) := by
      refine List.mem_map.mpr ⟨en n T (srcL n T g), List.mem_of_getElem? (h.get hn h1), ?_⟩
      unfold backP
      rw [h2, (all_num_at hn hg).1]
    rw [putAll_at _ _ nd hmem (by rw [List.length_replicate]; exact hi)]
    unfold turnT
    rw [List.getElem?_map, List.getElem?_map, hg]
    rfl
  · rw [List.getElem?_eq_none (by rw [putAll_len, List.length_replicate]; omega), List.getElem?_eq_none (by rw [List.length_map, (h.turn hn).len hn]; omega)]
end
def spUndone : Sp := fun vs H Q _ => ∃ (n : Nat) (v : V) (T : List (List Int)), vs = [.int (n : Int), v] ∧ n ≤ 6 ∧ Dq H v (tabD T) ∧ TabOk n T ∧ ∀ H' r, Same H H' → Dq H' r (tabD (turnT n T)) → Q r H'
def spTurnB : Sp := fun vs H Q _ => ∃ (n : Nat) (a : Addr) (l : List Nat) (e : List Int), vs = [.ref a] ∧ n ≤ 6 ∧ H a = some (.tup (e.map V.int)) ∧ EntF n l e ∧ ∀ H' t, Same H H' → H' t = some (.tup ((lawE n e).map V.int)) → Q (.ref t) H'
end Kr
namespace Kr
open PySem PySem.Spec PyProof.Rows L2
/-! ### the rounds of a table's riders -/
abbrev Pr := Nat × Nat
def lotI (n i : Nat) : List Nat := (allL n).getD i []
/-- a lot's number, and a place without a key -/
def prs (n : Nat) : List Pr := (List.range (2 ^ n)).flatMap fun i => ((List.range n).filter fun x => !decide (x ∈ lotI n i)).map fun x => (i, x)
def stp (n : Nat) (T : List (List Int)) (p : Pr) : Pr := (num n (goalE n (T.getD p.1 [])), ((T.getD p.1 []).getD p.2 0).toNat)
def itr (S : Pr → Pr) : Nat → Pr → Pr
  | 0, p => p
  | k + 1, p => itr S k (S p)
theorem itr_add (S : Pr → Pr) : ∀ (a b : Nat) (p : Pr), itr S (a + b) p = itr S b (itr S a p)
  | 0, b, p => by rw [Nat.zero_add]; rfl
  | a + 1, b, p => by
    rw [Nat.add_right_comm]
    exact itr_add S a b (S p)
theorem itr_succ (S : Pr → Pr) (k : Nat) (p : Pr) : itr S (k + 1) p = S (itr S k p) := itr_add S k 1 p
theorem itr_fix {S : Pr → Pr} {m : Nat} {p : Pr} (h : itr S m p = p) : ∀ q, itr S (m * q) p = p
  | 0 => rfl
  | q + 1 => by rw [Nat.mul_succ, itr_add, itr_fix h q, h]
theorem mem_prs {n : Nat} {p : Pr} : p ∈ prs n ↔ p.1 < 2 ^ n ∧ p.2 < n ∧ p.2 ∉ lotI n p.1 := by
  unfold prs
  rw [List.mem_flatMap]
  constructor
  · rintro ⟨i, hi, h⟩
    obtain ⟨x, hx, rfl⟩ := List.mem_map.mp h
    obtain ⟨h1, h2⟩ := List.mem_filter.mp hx
    exact ⟨List.mem_range.mp hi, List.mem_range.mp h1, by simpa using h2⟩
  · rintro ⟨h1, h2, h3⟩
    exact ⟨p.1, List.mem_range.mpr h1, List.mem_map.mpr ⟨p.2, List.mem_filter.mpr ⟨List.mem_range.mpr h2, by simpa using h3⟩, rfl⟩⟩
theorem prs_len : ∀ n : Nat, n < 7 → (prs n).length ≤ 192 := by decide +kernel
theorem sub_len {α : Type} [DecidableEq α] : ∀ {C L : List α}, C.Nodup → (∀ x ∈ C, x ∈ L) → C.length ≤ L.length
  | [], _, _, _ => Nat.zero_le _
  | c :: C, L, nd, h => by
    obtain ⟨h1, h2⟩ := List.nodup_cons.mp nd
    have hc := h c List.mem_cons_self
    have := sub_len (L := L.erase c) h2 fun x hx => (List.mem_erase_of_ne (fun (z : x = c) => h1 (by rw [← z]; exact hx))).mpr (h x (List.mem_cons_of_mem _ hx))
    rw [List.length_erase_of_mem hc] at this
    have := List.length_pos_of_mem hc
    rw [List.length_cons]
    omega
section
variable {n : Nat} {T U : List (List Int)}
theorem lot_get (hn : n ≤ 6) {i : Nat} (hi : i < 2 ^ n) : (allL n)[i]? = some (lotI n i) := by
  have : i < (allL n).length := by rw [all_len n (by omega)]; exact hi
  unfold lotI
  rw [List.getD_eq_getElem?_getD, List.getElem?_eq_getElem this]
  rfl
theorem lot_num (hn : n ≤ 6) {i : Nat} (hi : i < 2 ^ n) : num n (lotI n i) = i := (all_num_at hn (lot_get hn hi)).1
theorem lot_mem (hn : n ≤ 6) {i : Nat} (hi : i < 2 ^ n) : lotI n i ∈ allL n := List.mem_of_getElem? (lot_get hn hi)
theorem lot_of_num (hn : n ≤ 6) {l : List Nat} (hl : l ∈ allL n) : lotI n (num n l) = l := by
  have h := all_at hn hl
  unfold lotI
  rw [List.getD_eq_getElem?_getD, h]
  rfl
theorem en_at (hn : n ≤ 6) {i : Nat} (hi : i < 2 ^ n) (T : List (List Int)) : en n T (lotI n i) = T.getD i [] := by
  unfold en
  rw [lot_num hn hi]
theorem TabOk.at_i (hn : n ≤ 6) (h : TabOk n T) {i : Nat} (hi : i < 2 ^ n) : EntF n (lotI n i) (T.getD i []) := by
  rw [← en_at hn hi]
  exact h.ent hn (lot_mem hn hi)
theorem stp_in (hn : n ≤ 6) (h : TabOk n T) {p : Pr} (hp : p ∈ prs n) : stp n T p ∈ prs n := by
  obtain ⟨h1, h2, h3⟩ := mem_prs.mp hp
  have hE := h.at_i hn h1
  have hg := goal_all hn (T.getD p.1 [])
  refine mem_prs.mpr ⟨all_num hn hg, ?_⟩
  show ((T.getD p.1 []).getD p.2 0).toNat < n ∧ ((T.getD p.1 []).getD p.2 0).toNat ∉ lotI n (num n (goalE n (T.getD p.1 [])))
  rw [lot_of_num hn hg]
  exact hE.off h2 h3
theorem stp_inj (hn : n ≤ 6) (h : TabOk n T) {p q : Pr} (hp : p ∈ prs n) (hq : q ∈ prs n) (e : stp n T p = stp n T q) : p = q := by
  obtain ⟨h1, h2, h3⟩ := mem_prs.mp hp
  obtain ⟨g1, g2, g3⟩ := mem_prs.mp hq
  have e1 : num n (goalE n (T.getD p.1 [])) = num n (goalE n (T.getD q.1 [])) := congrArg Prod.fst e
  have e2 : ((T.getD p.1 []).getD p.2 0).toNat = ((T.getD q.1 []).getD q.2 0).toNat := congrArg Prod.snd e
  have eg : goalE n (T.getD p.1 []) = goalE n (T.getD q.1 []) := by
    rw [← lot_of_num hn (goal_all hn (T.getD p.1 [])), e1, lot_of_num hn (goal_all hn _)]
  rw [← en_at hn h1, ← en_at hn g1] at eg
  have el := h.gl_inj' hn (lot_mem hn h1) (lot_mem hn g1) eg
  have ei : p.1 = q.1 := by rw [← lot_num hn h1, el, lot_num hn g1]
  have hE := h.at_i hn h1
  rw [← ei] at e2 g3
  have r1 := hE.rid p.2 h2 h3
  have r2 := hE.rid q.2 g2 g3
  have := hE.inj p.2 q.2 h2 g2 h3 g3 (by omega)
  exact Prod.ext ei this
theorem itr_in (hn : n ≤ 6) (h : TabOk n T) : ∀ (k : Nat) {p : Pr}, p ∈ prs n → itr (stp n T) k p ∈ prs n
  | 0, _, hp => hp
  | k + 1, _, hp => itr_in hn h k (stp_in hn h hp)
theorem itr_inj (hn : n ≤ 6) (h : TabOk n T) : ∀ (k : Nat) {p q : Pr}, p ∈ prs n → q ∈ prs n → itr (stp n T) k p = itr (stp n T) k q → p = q
  | 0, _, _, _, _, e => e
  | k + 1, _, _, hp, hq, e => stp_inj hn h hp hq (itr_inj hn h k (stp_in hn h hp) (stp_in hn h hq) e)
end
/-! ### rounds -/
structure Cyc (S : Pr → Pr) (C : List Pr) : Prop where
  ne : 0 < C.length
  nd : C.Nodup
  st : ∀ i p, C[i]? = some p → C[(i + 1) % C.length]? = some (S p)
theorem Cyc.at_ {S : Pr → Pr} {C : List Pr} (h : Cyc S C) : ∀ (k i : Nat) (p : Pr), C[i]? = some p → C[(i + k) % C.length]? = some (itr S k p)
  | 0, i, p, e => by
    have := (List.getElem?_eq_some_iff.mp e).1
    rw [Nat.add_zero, Nat.mod_eq_of_lt this]
    exact e
  | k + 1, i, p, e => by
    have := h.at_ k _ _ (h.st i p e)
    rw [Nat.mod_add_mod] at this
    rw [show i + (k + 1) = i + 1 + k by omega]
    exact this
theorem nd_ix {α : Type} {C : List α} (nd : C.Nodup) {i j : Nat} {x : α} (hi : C[i]? = some x) (hj : C[j]? = some x) : i = j := by
  obtain ⟨a1, a2⟩ := List.getElem?_eq_some_iff.mp hi
  obtain ⟨b1, b2⟩ := List.getElem?_eq_some_iff.mp hj
  have pw : C.Pairwise (· ≠ ·) := nd
  rw [List.pairwise_iff_getElem] at pw
  rcases Nat.lt_trichotomy i j with c | c | c
  · exact absurd (a2.trans b2.symm) (pw i j a1 b1 c)
  · exact c
  · exact absurd (b2.trans a2.symm) (pw j i b1 a1 c)
theorem Cyc.fix {S : Pr → Pr} {C : List Pr} (h : Cyc S C) {p : Pr} (hp : p ∈ C) (m : Nat) : itr S m p = p ↔ C.length ∣ m := by
  obtain ⟨i, hi⟩ := List.getElem?_of_mem hp
  have hl := (List.getElem?_eq_some_iff.mp hi).1
  have e := h.at_ m i p hi
  constructor
  · intro z
    rw [z] at e
    have e1 := nd_ix h.nd e hi
    have e2 : (i + m) % C.length = i % C.length := by rw [e1, Nat.mod_eq_of_lt hl]
    have := (Nat.sub_mod_eq_zero_of_mod_eq e2)
    rw [Nat.add_sub_cancel_left] at this
    exact Nat.dvd_of_mod_eq_zero this
  · rintro ⟨q, rfl⟩
    rw [Nat.add_mul_mod_self_left, Nat.mod_eq_of_lt hl, hi] at e
    exact (Option.some.inj e).symm
/-! ### any number of times -/
def fac : Nat → Nat
  | 0 => 1
  | n + 1 => (n + 1) * fac n
theorem fac_pos : ∀ n, 0 < fac n
  | 0 => Nat.one_pos
  | n + 1 => Nat.mul_pos (Nat.succ_pos n) (fac_pos n)
theorem dvd_fac {m : Nat} (h0 : 0 < m) : ∀ {n : Nat}, m ≤ n → m ∣ fac n
  | 0, h => absurd h0 (by omega)
  | n + 1, h => by
    unfold fac
    by_cases e : m = n + 1
    · rw [e]
      exact Nat.dvd_mul_right _ _
    · exact Nat.dvd_mul_left_of_dvd (dvd_fac h0 (by omega)) _
def bigN : Nat := fac 192
theorem bigN_pos : 0 < bigN := fac_pos _
theorem dvd_big {m : Nat} (h0 : 0 < m) (h : m ≤ 192) : m ∣ bigN := dvd_fac h0 h
def powS (S : Pr → Pr) (k : Int) (p : Pr) : Pr := itr S (k % (bigN : Int)).toNat p
theorem mod_big {m : Nat} (hm : m ∣ bigN) (s : Nat) (k : Int) : (((s : Int) + k) % (m : Int)).toNat = (s + (k % (bigN : Int)).toNat) % m := by
  have hb : (0 : Int) < bigN := by have := bigN_pos; omega
  have h0 := Int.emod_nonneg k (show (bigN : Int) ≠ 0 by omega)
  have e1 : (((k % (bigN : Int)).toNat : Nat) : Int) = k % (bigN : Int) := Int.toNat_of_nonneg h0
  have hd : (m : Int) ∣ (bigN : Int) := Int.natCast_dvd_natCast.mpr hm
  have e2 : (k % (bigN : Int)) % (m : Int) = k % (m : Int) := Int.emod_emod_of_dvd k hd
  have e3 : (((s + (k % (bigN : Int)).toNat) % m : Nat) : Int) = ((s : Int) + k) % (m : Int) := by
    rw [Int.natCast_emod, Int.natCast_add, e1, Int.add_emod, e2, ← Int.add_emod]
  rw [← e3, Int.toNat_natCast]
theorem Cyc.pow {S : Pr → Pr} {C : List Pr} (h : Cyc S C) (hl : C.length ≤ 192) {s : Nat} {p : Pr} (hp : C[s]? = some p) (k : Int) : C[(((s : Int) + k) % (C.length : Int)).toNat]? = some (powS S k p) := by
  rw [mod_big (dvd_big h.ne hl)]
  exact h.at_ _ _ _ hp
section
variable {n : Nat} {T U : List (List Int)}
/-- each rider comes back -/
theorem itr_back (hn : n ≤ 6) (h : TabOk n T) {p : Pr} (hp : p ∈ prs n) : ∃ m, 0 < m ∧ m ≤ 192 ∧ itr (stp n T) m p = p := by
  apply Classical.byContradiction
  intro hno
  have ne : ∀ i j, i < j → j < 193 → itr (stp n T) i p ≠ itr (stp n T) j p := fun i j hij hj e => by
    rw [show j = (j - i) + i by omega, itr_add] at e
    exact hno ⟨j - i, by omega, by omega, (itr_inj hn h i hp (itr_in hn h _ hp) e).symm⟩
  have nd : ((List.range 193).map fun i => itr (stp n T) i p).Nodup := by
    show List.Pairwise (· ≠ ·) _
    rw [List.pairwise_map]
    exact List.Pairwise.imp_of_mem (fun {a b} ha hb hab => ne a b hab (List.mem_range.mp hb)) List.pairwise_lt_range
  have := sub_len nd fun x hx => by
    obtain ⟨i, _, rfl⟩ := List.mem_map.mp hx
    exact itr_in hn h i hp
  rw [List.length_map, List.length_range] at this
  have := prs_len n (by omega)
  omega
theorem itr_big (hn : n ≤ 6) (h : TabOk n T) {p : Pr} (hp : p ∈ prs n) : itr (stp n T) bigN p = p := by
  obtain ⟨m, m0, m1, e⟩ := itr_back hn h hp
  obtain ⟨q, hq⟩ := dvd_big m0 m1
  rw [hq]
  exact itr_fix e q
theorem itr_mod (hn : n ≤ 6) (h : TabOk n T) {p : Pr} (hp : p ∈ prs n) (m : Nat) : itr (stp n T) (m % bigN) p = itr (stp n T) m p := by
  have e := Nat.div_add_mod m bigN
  have : itr (stp n T) m p = itr (stp n T) (bigN * (m / bigN) + m % bigN) p := by rw [e]
  rw [this, itr_add, itr_fix (itr_big hn h hp)]
theorem powS_nat (hn : n ≤ 6) (h : TabOk n T) {p : Pr} (hp : p ∈ prs n) (m : Nat) : powS (stp n T) (m : Int) p = itr (stp n T) m p := by
  unfold powS
  rw [← Int.natCast_emod, Int.toNat_natCast, itr_mod hn h hp]
theorem powS_in (hn : n ≤ 6) (h : TabOk n T) {p : Pr} (hp : p ∈ prs n) (k : Int) : powS (stp n T) k p ∈ prs n := itr_in hn h _ hp
theorem powS_add (hn : n ≤ 6) (h : TabOk n T) {p : Pr} (hp : p ∈ prs n) (k l : Int) : powS (stp n T) l (powS (stp n T) k p) = powS (stp n T) (k + l) p := by
  unfold powS
  rw [← itr_add]
  have hb : (0 : Int) < bigN := by have := bigN_pos; omega
  have h1 := Int.emod_nonneg k (show (bigN : Int) ≠ 0 by omega)
  have h2 := Int.emod_nonneg l (show (bigN : Int) ≠ 0 by omega)
  rw [← itr_mod hn h hp]
  congr 1
  have e : ((((k % (bigN : Int)).toNat + (l % (bigN : Int)).toNat) % bigN : Nat) : Int) = (k + l) % (bigN : Int) := by
    rw [Int.natCast_emod, Int.natCast_add, Int.toNat_of_nonneg h1, Int.toNat_of_nonneg h2, ← Int.add_emod]
  rw [← e, Int.toNat_natCast]
/-- a table of where its riders go -/
def tabF (n : Nat) (f : Pr → Nat) : List (List Int) := (List.range (2 ^ n)).map fun i => (List.range n).map fun x => if (i, x) ∈ prs n then (f (i, x) : Int) else -1
def powT (n : Nat) (T : List (List Int)) (k : Int) : List (List Int) := tabF n fun p => (powS (stp n T) k p).2
theorem tabF_congr {f g : Pr → Nat} (h : ∀ p ∈ prs n, f p = g p) : tabF n f = tabF n g := by
  unfold tabF
  refine List.map_congr_left fun i _ => List.map_congr_left fun x _ => ?_
  by_cases c : (i, x) ∈ prs n
  · rw [if_pos c, if_pos c, h _ c]
  · rw [if_neg c, if_neg c]
theorem tab_stp (hn : n ≤ 6) (h : TabOk n T) : T = tabF n fun p => (stp n T p).2 := by
  have hl := h.len hn
  refine List.ext_getElem? fun i => ?_
  unfold tabF
  rw [List.getElem?_map]
  by_cases hi : i < 2 ^ n
  · rw [List.getElem?_range hi]
    have hE := h.at_i hn hi
    have e1 : T[i]? = some (T.getD i []) := by rw [List.getD_eq_getElem?_getD, List.getElem?_eq_getElem (by omega)]; rfl
    rw [e1]
    refine congrArg some (list_ext hE.len (by rw [List.length_map, List.length_range]) fun x hx => ?_)
    rw [map_getD_lt (d := 0) (by rw [List.length_range]; exact hx), show (List.range n).getD x 0 = x by rw [List.getD_eq_getElem?_getD, List.getElem?_range hx]; rfl]
    by_cases c : x ∈ lotI n i
    · rw [if_neg fun z => (mem_prs.mp z).2.2 c]
      exact hE.key x hx c
    · rw [if_pos (mem_prs.mpr ⟨hi, hx, c⟩)]
      have := hE.rid x hx c
      show _ = (((T.getD i []).getD x 0).toNat : Int)
      omega
  · rw [List.getElem?_eq_none (by omega), List.getElem?_eq_none (by rw [List.length_range]; omega)]
    rfl
theorem stp_ext (hn : n ≤ 6) (h : TabOk n T) (g : TabOk n U) (e : ∀ p ∈ prs n, stp n T p = stp n U p) : T = U := by
  rw [tab_stp hn h, tab_stp hn g]
  exact tabF_congr fun p hp => by rw [e p hp]
theorem stp_still (hn : n ≤ 6) {p : Pr} (hp : p ∈ prs n) : stp n (stillT n) p = p := by
  obtain ⟨h1, h2, h3⟩ := mem_prs.mp hp
  have e : (stillT n).getD p.1 [] = byE (lotI n p.1) (ups n) := by rw [← en_at hn h1, en_still hn (lot_mem hn h1)]
  unfold stp
  rw [e, goal_ups (all_ascL hn _ (lot_mem hn h1)), lot_num hn h1, byE_at (by rw [ups_len]; exact h2), if_neg h3, ups_at h2, Int.toNat_natCast]
theorem stp_both (hn : n ≤ 6) (h : TabOk n T) (g : TabOk n U) {p : Pr} (hp : p ∈ prs n) : stp n (bothT n T U) p = stp n U (stp n T p) := by
  obtain ⟨h1, h2, h3⟩ := mem_prs.mp hp
  have hl := lot_mem hn h1
  have hE := h.at_i hn h1
  have hg := goal_all hn (T.getD p.1 [])
  have hEu := g.ent hn hg
  have e : (bothT n T U).getD p.1 [] = cmpE (T.getD p.1 []) (en n U (goalE n (T.getD p.1 []))) := by
    rw [← en_at hn h1, en_both hn h hl, en_at hn h1]
  have eu : U.getD (num n (goalE n (T.getD p.1 []))) [] = en n U (goalE n (T.getD p.1 [])) := rfl
  have r := hE.rid p.2 h2 h3
  unfold stp
  rw [e, (hE.cmp hEu).2, cmp_at (by rw [hE.len]; exact h2), if_neg (by omega)]
  show _ = (num n (goalE n (U.getD (num n (goalE n (T.getD p.1 []))) [])), ((U.getD (num n (goalE n (T.getD p.1 []))) []).getD ((T.getD p.1 []).getD p.2 0).toNat 0).toNat)
  rw [eu]
def itT (n : Nat) (T : List (List Int)) : Nat → List (List Int)
  | 0 => stillT n
  | k + 1 => bothT n (itT n T k) T
theorem itT_ok (hn : n ≤ 6) (h : TabOk n T) : ∀ k, TabOk n (itT n T k)
  | 0 => still_ok hn
  | k + 1 => (itT_ok hn h k).both hn h
theorem stp_itT (hn : n ≤ 6) (h : TabOk n T) : ∀ (k : Nat) {p : Pr}, p ∈ prs n → stp n (itT n T k) p = itr (stp n T) k p
  | 0, _, hp => stp_still hn hp
  | k + 1, _, hp => by
    rw [itr_succ, ← stp_itT hn h k hp]
    exact stp_both hn (itT_ok hn h k) h hp
theorem powT_it (hn : n ≤ 6) (h : TabOk n T) (k : Int) : powT n T k = itT n T (k % (bigN : Int)).toNat := by
  rw [tab_stp hn (itT_ok hn h _)]
  exact tabF_congr fun p hp => by rw [stp_itT hn h _ hp]; rfl
theorem powT_ok (hn : n ≤ 6) (h : TabOk n T) (k : Int) : TabOk n (powT n T k) := by rw [powT_it hn h]; exact itT_ok hn h _
theorem stp_powT (hn : n ≤ 6) (h : TabOk n T) (k : Int) {p : Pr} (hp : p ∈ prs n) : stp n (powT n T k) p = powS (stp n T) k p := by rw [powT_it hn h, stp_itT hn h _ hp]; rfl
theorem powT_add (hn : n ≤ 6) (h : TabOk n T) (k l : Int) : bothT n (powT n T k) (powT n T l) = powT n T (k + l) := by
  refine stp_ext hn ((powT_ok hn h k).both hn (powT_ok hn h l)) (powT_ok hn h _) fun p hp => ?_
  rw [stp_both hn (powT_ok hn h k) (powT_ok hn h l) hp, stp_powT hn h k hp, stp_powT hn h l (powS_in hn h hp k), stp_powT hn h _ hp, powS_add hn h hp]
theorem powT_one (hn : n ≤ 6) (h : TabOk n T) : powT n T 1 = T := by
  refine stp_ext hn (powT_ok hn h 1) h fun p hp => ?_
  rw [stp_powT hn h 1 hp, show (1 : Int) = ((1 : Nat) : Int) from rfl, powS_nat hn h hp]
  rfl
theorem powT_succ (hn : n ≤ 6) (h : TabOk n T) (k : Int) : bothT n (powT n T k) T = powT n T (k + 1) := by
  have := powT_add hn h k 1
  rw [powT_one hn h] at this
  exact this
/-! ### the order -/
structure Rounds (n : Nat) (S : Pr → Pr) (CL : List (List Pr)) : Prop where
  cyc : ∀ C ∈ CL, Cyc S C
  sub : ∀ C ∈ CL, ∀ p ∈ C, p ∈ prs n
  all : ∀ p ∈ prs n, ∃ C ∈ CL, p ∈ C
theorem Rounds.len {S : Pr → Pr} {CL : List (List Pr)} (hn : n ≤ 6) (h : Rounds n S CL) {C : List Pr} (hC : C ∈ CL) : C.length ≤ 192 := Nat.le_trans (sub_len (h.cyc C hC).nd (h.sub C hC)) (prs_len n (by omega))
structure IsOrd (n : Nat) (S : Pr → Pr) (o : Nat) : Prop where
  pos : 0 < o
  dvd : ∀ m : Nat, (∀ p ∈ prs n, itr S m p = p) ↔ o ∣ m
theorem IsOrd.uniq {S : Pr → Pr} {a b : Nat} (h : IsOrd n S a) (g : IsOrd n S b) : a = b :=
  Nat.dvd_antisymm ((h.dvd b).mp ((g.dvd b).mpr (Nat.dvd_refl b))) ((g.dvd a).mp ((h.dvd a).mpr (Nat.dvd_refl a)))
def lcmL (ls : List Nat) : Nat := ls.foldl Nat.lcm 1
theorem lcm_fold : ∀ (ls : List Nat) (a m : Nat), ls.foldl Nat.lcm a ∣ m ↔ a ∣ m ∧ ∀ l ∈ ls, l ∣ m
  | [], a, m => by simp
  | l :: ls, a, m => by
    rw [List.foldl_cons, lcm_fold ls]
    constructor
    · rintro ⟨h1, h2⟩
      refine ⟨Nat.dvd_trans (Nat.dvd_lcm_left a l) h1, fun x hx => ?_⟩
      rcases List.mem_cons.mp hx with rfl | hx
      · exact Nat.dvd_trans (Nat.dvd_lcm_right a _) h1
      · exact h2 x hx
    · rintro ⟨h1, h2⟩
      exact ⟨Nat.lcm_dvd h1 (h2 l List.mem_cons_self), fun x hx => h2 x (List.mem_cons_of_mem _ hx)⟩
theorem lcm_fold_pos : ∀ (ls : List Nat) (a : Nat), 0 < a → (∀ l ∈ ls, 0 < l) → 0 < ls.foldl Nat.lcm a
  | [], a, h, _ => h
  | l :: ls, a, h, g => lcm_fold_pos ls _ (Nat.lcm_pos h (g l List.mem_cons_self)) fun x hx => g x (List.mem_cons_of_mem _ hx)
theorem Rounds.ord {S : Pr → Pr} {CL : List (List Pr)} (h : Rounds n S CL) : IsOrd n S (lcmL (CL.map List.length)) := by
  refine ⟨lcm_fold_pos _ _ Nat.one_pos fun l hl => ?_, fun m => ?_⟩
  · obtain ⟨C, hC, rfl⟩ := List.mem_map.mp hl
    exact (h.cyc C hC).ne
  · unfold lcmL
    rw [lcm_fold]
    constructor
    · intro k
      refine ⟨Nat.one_dvd m, fun l hl => ?_⟩
      obtain ⟨C, hC, rfl⟩ := List.mem_map.mp hl
      have c := h.cyc C hC
      have hx : C[0]'c.ne ∈ C := List.getElem_mem c.ne
      exact (c.fix hx m).mp (k _ (h.sub C hC _ hx))
    · rintro ⟨_, k⟩ p hp
      obtain ⟨C, hC, hpC⟩ := h.all p hp
      exact ((h.cyc C hC).fix hpC m).mpr (k _ (List.mem_map.mpr ⟨C, hC, rfl⟩))
theorem pow_calm (hn : n ≤ 6) (h : TabOk n T) {o : Nat} (ho : IsOrd n (stp n T) o) (m : Nat) : powT n T (m : Int) = stillT n ↔ o ∣ m := by
  rw [← ho.dvd m]
  constructor
  · intro e p hp
    rw [← powS_nat hn h hp, ← stp_powT hn h _ hp, e, stp_still hn hp]
  · intro k
    refine stp_ext hn (powT_ok hn h _) (still_ok hn) fun p hp => ?_
    rw [stp_powT hn h _ hp, powS_nat hn h hp, stp_still hn hp, k p hp]
end
end Kr
namespace Kr
/-! a term kept within narrower bounds keeps the wider ones -/
mutual
theorem okTm_mono {D D' : Mv → Prop} {r r' k k' : Nat} (hD : ∀ d, D d → D' d) (hr : r ≤ r') (hk : k ≤ k') : ∀ t : Tm, okTm D r k t → okTm D' r' k' t
  | .doo d, h => by
    simp only [okTm] at h ⊢
    exact hD d h
  | .part j, h => by
    simp only [okTm] at h ⊢
    exact Nat.lt_of_lt_of_le h hk
  | .row ts, h => by
    simp only [okTm] at h ⊢
    exact ⟨Nat.le_trans h.1 hr, okTms_mono hD hr hk ts h.2⟩
  | .back t, h => by
    simp only [okTm] at h ⊢
    exact okTm_mono hD hr hk t h
  | .times t n, h => by
    simp only [okTm] at h ⊢
    exact ⟨h.1, okTm_mono hD hr hk t h.2⟩
theorem okTms_mono {D D' : Mv → Prop} {r r' k k' : Nat} (hD : ∀ d, D d → D' d) (hr : r ≤ r') (hk : k ≤ k') : ∀ ts : List Tm, okTms D r k ts → okTms D' r' k' ts
  | [], _ => by simp [okTms]
  | t :: ts, h => by
    simp only [okTms] at h ⊢
    exact ⟨okTm_mono hD hr hk t h.1, okTms_mono hD hr hk ts h.2⟩
end
end Kr
namespace Kr
open PySem PySem.Spec PyProof.Rows L2
theorem Deed.few {n : Nat} {d : Mv} (h : Deed n d) : d.1.length + 2 ≤ n := by
  have h1 := h.ab
  have h2 := h.bn
  have := sub_len (C := d.2.1 :: d.2.2 :: d.1) (L := List.range n) (List.nodup_cons.mpr ⟨fun z => by
    rcases List.mem_cons.mp z with e | e
    · omega
    · exact h.na e, List.nodup_cons.mpr ⟨h.nb, h.asc.1.imp fun {a b} (q : a < b) => Nat.ne_of_lt q⟩⟩) fun x hx => by
    rw [List.mem_range]
    simp only [List.mem_cons] at hx
    rcases hx with rfl | rfl | hx
    · omega
    · exact h2
    · have := (h.asc.2 x hx).2; omega
  simpa using this
/-! ### how many items stand in a thing -/
mutual
def itm : PyData → Nat
  | .tuple ds => ds.length + itmA ds
  | .none | .bool _ | .int _ | .str _ | .list _ | .dict _ => 0
def itmA : List PyData → Nat
  | [] => 0
  | d :: ds => itm d + itmA ds
end
theorem itmA_map : ∀ ds : List PyData, itmA ds = (ds.map itm).sum
  | [] => rfl
  | d :: ds => by
    simp only [itmA, List.map_cons, List.sum_cons]
    rw [itmA_map ds]
theorem depthAll_le : ∀ {ds : List PyData} {d : PyData}, d ∈ ds → d.depth ≤ PyData.depthAll ds
  | e :: ds, d, h => by
    simp only [PyData.depthAll]
    rcases List.mem_cons.mp h with rfl | h
    · exact Nat.le_max_left _ _
    · exact Nat.le_trans (depthAll_le h) (Nat.le_max_right _ _)
theorem flatTA_mem : ∀ {ds : List PyData}, flatTA ds = true → ∀ d ∈ ds, flatT d = true
  | e :: ds, h, d, hd => by
    have h2 : flatT e = true ∧ flatTA ds = true := by simpa [flatTA] using h
    rcases List.mem_cons.mp hd with rfl | hd
    · exact h2.1
    · exact flatTA_mem h2.2 d hd
theorem kit_tl {K : PySem.W.Frag} {d : PyData} (h : flatT d = true) : PySem.W.kitAny K (.type (tyN d)) [.type "tuple", .type "list"] = some (isTu d) := by
  have h1 := kit_tuple (K := K) d
  cases d with
  | tuple ds => unfold PySem.W.kitAny; rw [h1]; rfl
  | list _ => simp [flatT] at h
  | dict _ => simp [flatT] at h
  | none => unfold PySem.W.kitAny; rw [h1]; simp only [isTu]; unfold PySem.W.kitAny; rw [show PySem.W.kitOne K (.type (tyN .none)) (.type "list") = some false from kit_ty (show kitB "NoneType" "list" = some false by decide +kernel)]; rfl
  | bool _ => unfold PySem.W.kitAny; rw [h1]; simp only [isTu]; unfold PySem.W.kitAny; rw [show PySem.W.kitOne K (.type (tyN (.bool _))) (.type "list") = some false from kit_ty (show kitB "bool" "list" = some false by decide +kernel)]; rfl
  | int _ => unfold PySem.W.kitAny; rw [h1]; simp only [isTu]; unfold PySem.W.kitAny; rw [show PySem.W.kitOne K (.type (tyN (.int _))) (.type "list") = some false from kit_ty (show kitB "int" "list" = some false by decide +kernel)]; rfl
  | str _ => unfold PySem.W.kitAny; rw [h1]; simp only [isTu]; unfold PySem.W.kitAny; rw [show PySem.W.kitOne K (.type (tyN (.str _))) (.type "list") = some false from kit_ty (show kitB "str" "list" = some false by decide +kernel)]; rfl
mutual
/-- tuples of at most m items -/
def widT (m : Nat) : PyData → Bool
  | .tuple xs => decide (xs.length ≤ m) && widTA m xs
  | .none | .bool _ | .int _ | .str _ | .list _ | .dict _ => true
def widTA (m : Nat) : List PyData → Bool
  | [] => true
  | x :: xs => widT m x && widTA m xs
end
theorem widTA_mem {m : Nat} : ∀ {ds : List PyData}, widTA m ds = true → ∀ d ∈ ds, widT m d = true
  | e :: ds, h, d, hd => by
    have h2 : widT m e = true ∧ widTA m ds = true := by simpa [widTA] using h
    rcases List.mem_cons.mp hd with rfl | hd
    · exact h2.1
    · exact widTA_mem h2.2 d hd
/-! ### what few items show -/
mutual
/-- numbers and texts of few signs -/
def lowT : PyData → Bool
  | .none | .bool _ => true
  | .int i => decide (i.natAbs < 2 ^ 100)
  | .str x => (x.cps.toList.all fun c => decide (c < 16 ^ 8)) && decide (x.length ≤ 100)
  | .tuple xs => lowTA xs
  | .list _ | .dict _ => false
def lowTA : List PyData → Bool
  | [] => true
  | x :: xs => lowT x && lowTA xs
end
theorem low_leaf {d : PyData} (h : lowT d = true) (hn : isTu d = false) : Sm 1 100 d := by
  cases d with
  | none => exact ⟨rfl, rfl, by simp [PyData.depth], by simp [PyData.weight]⟩
  | bool b => exact ⟨rfl, rfl, by simp [PyData.depth], by simp [PyData.weight]⟩
  | int i =>
    have hi : i.natAbs < 2 ^ 100 := by simpa [lowT] using h
    have a := Sm.int (i := i) (Nat.lt_of_lt_of_le hi (by decide))
    refine ⟨a.sh, a.ls, a.dp, ?_⟩
    simp only [PyData.weight]
    split
    · omega
    · rename_i h0
      have h1 : i.natAbs ≠ 0 := fun z => h0 (by simp; omega)
      have : i.natAbs.log2 < 100 := (Nat.log2_lt h1).mpr hi
      omega
  | str x =>
    have hx : (x.cps.toList.all fun c => decide (c < 16 ^ 8)) = true ∧ x.length ≤ 100 := by simpa [lowT] using h
    exact .strm hx.1 hx.2
  | tuple _ => simp [isTu] at hn
  | list _ => simp [lowT] at h
  | dict _ => simp [lowT] at h
theorem low_isTu {d : PyData} (h : isTu d = true) : ∃ ds, d = .tuple ds := by
  cases d with
  | tuple ds => exact ⟨ds, rfl⟩
  | _ => exact absurd h (by simp [isTu])
mutual
theorem low_sm : ∀ d : PyData, lowT d = true → d.showable = true ∧ d.leavesShort 41 = true ∧ (isTu d = true → d.weight ≤ 101 * itm d) ∧ d.weight ≤ 101 * itm d + 100
  | .none, _ => by simp [PyData.showable, PyData.leavesShort, PyData.weight, isTu]
  | .bool _, _ => by simp [PyData.showable, PyData.leavesShort, PyData.weight, isTu]
  | .int i, h => by
    have a := low_leaf h rfl
    have := a.wt
    exact ⟨a.sh, a.ls, fun z => by simp [isTu] at z, by omega⟩
  | .str x, h => by
    have a := low_leaf h rfl
    have := a.wt
    exact ⟨a.sh, a.ls, fun z => by simp [isTu] at z, by omega⟩
  | .tuple xs, h => by
    simp only [lowT] at h
    obtain ⟨h1, h2, h3⟩ := lowA_sm xs h
    refine ⟨by simpa [PyData.showable] using h1, by simpa [PyData.leavesShort] using h2, fun _ => ?_, ?_⟩
    · simp only [PyData.weight, itm]
      omega
    · simp only [PyData.weight, itm]
      omega
  | .list _, h => by simp [lowT] at h
  | .dict _, h => by simp [lowT] at h
theorem lowA_sm : ∀ ds : List PyData, lowTA ds = true → PyData.showableAll ds = true ∧ PyData.leavesShortAll 41 ds = true ∧ PyData.weightAll ds ≤ 101 * (ds.length + itmA ds)
  | [], _ => by simp [PyData.showableAll, PyData.leavesShortAll, PyData.weightAll]
  | d :: ds, h => by
    have h2 : lowT d = true ∧ lowTA ds = true := by simpa [lowTA] using h
    obtain ⟨a1, a2, _, a4⟩ := low_sm d h2.1
    obtain ⟨b1, b2, b3⟩ := lowA_sm ds h2.2
    refine ⟨by simp [PyData.showableAll, a1, b1], by simp [PyData.leavesShortAll, a2, b2], ?_⟩
    simp only [PyData.weightAll, itmA, List.length_cons]
    omega
end
theorem sm_low {d : PyData} {k m : Nat} (h : lowT d = true) (ht : isTu d = true) (hk : d.depth ≤ k) (hm : itm d ≤ m) : Sm k (101 * m) d := by
  obtain ⟨h1, h2, h3, _⟩ := low_sm d h
  exact ⟨h1, h2, hk, Nat.le_trans (h3 ht) (Nat.mul_le_mul_left _ hm)⟩
/-- terms -/
theorem low_lot {l : List Nat} (h : ∀ x ∈ l, x < 24) : lowT (lotD l) = true := by
  have : ∀ l : List Nat, (∀ x ∈ l, x < 24) → lowTA (l.map fun x : Nat => PyData.int (x : Int)) = true := by
    intro l
    induction l with
    | nil => intro _; rfl
    | cons x l ih =>
      intro h
      have hx := h x List.mem_cons_self
      simp only [List.map_cons, lowTA, lowT, ih fun y hy => h y (List.mem_cons_of_mem _ hy), Bool.and_true, decide_eq_true_eq, Int.natAbs_natCast]
      exact Nat.lt_trans hx (by decide)
  simp only [lotD, lowT]
  exact this l h
theorem low_deed {n : Nat} (hn : n ≤ 24) {d : Mv} (h : Deed n d) : lowT (deedD d) = true := by
  have h1 := h.ab
  have h2 := h.bn
  have h3 := low_lot (l := d.1) fun x hx => by have := (h.asc.2 x hx).2; omega
  simp only [deedD, lowT, lowTA, h3, Bool.true_and, Bool.and_true, Int.natAbs_natCast, Bool.and_eq_true, decide_eq_true_eq]
  exact ⟨Nat.lt_trans (by omega : d.2.1 < 24) (by decide), Nat.lt_trans (by omega : d.2.2 < 24) (by decide)⟩
mutual
theorem low_tm {n r k : Nat} (hn : n ≤ 24) (hk : k ≤ 400) : ∀ t : Tm, okTm (Deed n) r k t → lowT (tmD t) = true
  | .doo d, h => by
    simp only [okTm] at h
    simp only [tmD, lowT, lowTA, low_deed hn h]
    decide +kernel
  | .part j, h => by
    simp only [okTm] at h
    simp only [tmD, lowT, lowTA, Int.natAbs_natCast]
    rw [decide_eq_true (show j < 2 ^ 100 from Nat.lt_trans (by omega : j < 400) (by decide))]
    decide +kernel
  | .row ts, h => by
    simp only [okTm] at h
    simp only [tmD, lowT, lowTA, low_tms hn hk ts h.2]
    decide +kernel
  | .back t, h => by
    simp only [okTm] at h
    simp only [tmD, lowT, lowTA, low_tm hn hk t h]
    decide +kernel
  | .times t m, h => by
    simp only [okTm] at h
    simp only [tmD, lowT, lowTA, low_tm hn hk t h.2, Int.natAbs_natCast]
    rw [decide_eq_true (show m < 2 ^ 100 from Nat.lt_of_le_of_lt h.1 (by decide +kernel))]
    decide +kernel
theorem low_tms {n r k : Nat} (hn : n ≤ 24) (hk : k ≤ 400) : ∀ ts : List Tm, okTms (Deed n) r k ts → lowTA (tmDs ts) = true
  | [], _ => rfl
  | t :: ts, h => by
    simp only [okTms] at h
    simp only [tmDs, lowTA, low_tm hn hk t h.1, low_tms hn hk ts h.2]
    rfl
end
mutual
theorem wid_tm {n r k : Nat} (hn : n ≤ 24) (hr : r ≤ 400) : ∀ t : Tm, okTm (Deed n) r k t → widT 400 (tmD t) = true
  | .doo d, h => by
    simp only [okTm] at h
    have h1 := h.few
    have h2 : ∀ l : List Nat, widTA 400 (l.map fun x : Nat => PyData.int (x : Int)) = true := by
      intro l
      induction l with
      | nil => rfl
      | cons x l ih => simp only [List.map_cons, widTA, widT, ih]; rfl
    have h3 : widT 400 (lotD d.1) = true := by
      simp only [lotD, widT, h2, List.length_map, Bool.and_true, decide_eq_true_eq]
      omega
    simp only [tmD, deedD, widT, widTA, h3]
    rfl
  | .part j, h => by simp only [tmD, widT, widTA]; rfl
  | .row ts, h => by
    simp only [okTm] at h
    have h1 : (tmDs ts).length = ts.length := by rw [tmDs_map, List.length_map]
    simp only [tmD, widT, widTA, wid_tms hn hr ts h.2, h1]
    rw [decide_eq_true (show ts.length ≤ 400 by omega)]
    rfl
  | .back t, h => by
    simp only [okTm] at h
    simp only [tmD, widT, widTA, wid_tm hn hr t h]
    rfl
  | .times t m, h => by
    simp only [okTm] at h
    simp only [tmD, widT, widTA, wid_tm hn hr t h.2]
    rfl
theorem wid_tms {n r k : Nat} (hn : n ≤ 24) (hr : r ≤ 400) : ∀ ts : List Tm, okTms (Deed n) r k ts → widTA 400 (tmDs ts) = true
  | [], _ => rfl
  | t :: ts, h => by
    simp only [okTms] at h
    simp only [tmDs, widTA, wid_tm hn hr t h.1, wid_tms hn hr ts h.2]
    rfl
end
theorem lot_depth (l : List Nat) : (lotD l).depth ≤ 1 := by
  have : ∀ l : List Nat, PyData.depthAll (l.map fun x : Nat => PyData.int (x : Int)) = 0 := by
    intro l
    induction l with
    | nil => rfl
    | cons x l ih => simp only [List.map_cons, PyData.depthAll, PyData.depth, ih]; rfl
  simp only [lotD, PyData.depth, this]
  omega
mutual
theorem tm_depth : ∀ t : Tm, (tmD t).depth ≤ 2 * dep t + 1
  | .doo d => by
    have := lot_depth d.1
    simp only [tmD, deedD, PyData.depth, PyData.depthAll, dep]
    omega
  | .part j => by simp only [tmD, PyData.depth, PyData.depthAll, dep]; omega
  | .row ts => by
    have := tms_depth ts
    simp only [tmD, PyData.depth, PyData.depthAll, dep]
    omega
  | .back t => by
    have := tm_depth t
    simp only [tmD, PyData.depth, PyData.depthAll, dep]
    omega
  | .times t k => by
    have := tm_depth t
    simp only [tmD, PyData.depth, PyData.depthAll, dep]
    omega
theorem tms_depth : ∀ ts : List Tm, PyData.depthAll (tmDs ts) ≤ 2 * depL ts + 1
  | [] => by simp [tmDs, PyData.depthAll]
  | t :: ts => by
    have h1 := tm_depth t
    have h2 := tms_depth ts
    simp only [tmDs, PyData.depthAll, depL]
    omega
end
end Kr
namespace Kr
open PySem PySem.Spec PyProof.Rows L2
/-! ### values of all kinds, of small leaves -/
mutual
def vB : PyData → Bool
  | .none | .bool _ => true
  | .int i => decide (i.natAbs < 2 ^ 110)
  | .str x => decide ((reprText x).length ≤ 41)
  | .tuple xs | .list xs => decide (xs.length ≤ 500) && vBA xs
  | .dict kvs => kvs.isEmpty
def vBA : List PyData → Bool
  | [] => true
  | x :: xs => vB x && vBA xs
end
mutual
/-- how many items stand in lists and tuples -/
def itg : PyData → Nat
  | .tuple ds | .list ds => ds.length + itgA ds
  | .none | .bool _ | .int _ | .str _ | .dict _ => 0
def itgA : List PyData → Nat
  | [] => 0
  | d :: ds => itg d + itgA ds
end
theorem itgA_map : ∀ ds : List PyData, itgA ds = (ds.map itg).sum
  | [] => rfl
  | d :: ds => by
    simp only [itgA, List.map_cons, List.sum_cons]
    rw [itgA_map ds]
theorem vBA_mem : ∀ {ds : List PyData}, vBA ds = true → ∀ d ∈ ds, vB d = true
  | e :: ds, h, d, hd => by
    have h2 : vB e = true ∧ vBA ds = true := by simpa [vBA] using h
    rcases List.mem_cons.mp hd with rfl | hd
    · exact h2.1
    · exact vBA_mem h2.2 d hd
theorem vBA_of : ∀ {ds : List PyData}, (∀ d ∈ ds, vB d = true) → vBA ds = true
  | [], _ => rfl
  | e :: ds, h => by
    simp only [vBA, h e List.mem_cons_self, vBA_of fun d hd => h d (List.mem_cons_of_mem _ hd)]
    rfl
theorem depthAll_of {k : Nat} : ∀ {ds : List PyData}, (∀ d ∈ ds, d.depth ≤ k) → PyData.depthAll ds ≤ k
  | [], _ => Nat.zero_le _
  | d :: ds, h => by
    simp only [PyData.depthAll]
    exact Nat.max_le.mpr ⟨h d List.mem_cons_self, depthAll_of fun x hx => h x (List.mem_cons_of_mem _ hx)⟩
structure Vd (k : Nat) (d : PyData) : Prop where
  b : vB d = true
  dp : d.depth ≤ k
theorem Vd.mono {j k : Nat} {d : PyData} (h : Vd j d) (hk : j ≤ k) : Vd k d := ⟨h.b, Nat.le_trans h.dp hk⟩
theorem Vd.tup {k : Nat} {ds : List PyData} (h : ∀ d ∈ ds, Vd k d) (hl : ds.length ≤ 500) : Vd (k + 1) (.tuple ds) := ⟨by
  simp only [vB, decide_eq_true hl, Bool.true_and]
  exact vBA_of fun d hd => (h d hd).b, by
  have := depthAll_of fun d hd => (h d hd).dp
  simp only [PyData.depth]
  omega⟩
theorem Vd.lst {k : Nat} {ds : List PyData} (h : ∀ d ∈ ds, Vd k d) (hl : ds.length ≤ 500) : Vd (k + 1) (.list ds) := ⟨by
  simp only [vB, decide_eq_true hl, Bool.true_and]
  exact vBA_of fun d hd => (h d hd).b, by
  have := depthAll_of fun d hd => (h d hd).dp
  simp only [PyData.depth]
  omega⟩
theorem Vd.int {i : Int} (h : i.natAbs < 2 ^ 110) : Vd 0 (.int i) := ⟨by simp only [vB]; exact decide_eq_true h, by simp [PyData.depth]⟩
theorem Vd.str {x : Str} (h : decide ((reprText x).length ≤ 41) = true) : Vd 0 (.str x) := ⟨by simp only [vB]; exact h, by simp [PyData.depth]⟩
theorem Vd.non : Vd 0 .none := ⟨rfl, by simp [PyData.depth]⟩
theorem Vd.bl (b : Bool) : Vd 0 (.bool b) := ⟨rfl, by simp [PyData.depth]⟩
theorem Vd.dic : Vd 1 (.dict []) := ⟨rfl, by simp [PyData.depth, PyData.depthKv]⟩
theorem Vd.tup_inv {k : Nat} {ds : List PyData} (h : Vd k (.tuple ds)) : ds.length ≤ 500 ∧ ∃ j, k = j + 1 ∧ ∀ d ∈ ds, Vd j d := by
  obtain ⟨h1, h2⟩ := h
  simp only [vB, Bool.and_eq_true, decide_eq_true_eq] at h1
  simp only [PyData.depth] at h2
  refine ⟨h1.1, k - 1, by omega, fun d hd => ⟨vBA_mem h1.2 d hd, ?_⟩⟩
  have := depthAll_le hd
  omega
theorem Vd.lst_inv {k : Nat} {ds : List PyData} (h : Vd k (.list ds)) : ds.length ≤ 500 ∧ ∃ j, k = j + 1 ∧ ∀ d ∈ ds, Vd j d := by
  obtain ⟨h1, h2⟩ := h
  simp only [vB, Bool.and_eq_true, decide_eq_true_eq] at h1
  simp only [PyData.depth] at h2
  refine ⟨h1.1, k - 1, by omega, fun d hd => ⟨vBA_mem h1.2 d hd, ?_⟩⟩
  have := depthAll_le hd
  omega
theorem int_short {i : Int} (h : i.natAbs < 2 ^ 110) : (PyData.shown (.int i)).length ≤ 41 ∧ (PyData.int i).showable = true := by
  have a := Sm.int (i := i) (Nat.lt_of_lt_of_le h (by decide +kernel))
  exact ⟨by simpa [PyData.leavesShort] using a.ls, a.sh⟩
theorem empty_dict : (PyData.shown (.dict [])).length ≤ 41 := by
  have h := dictText_len_le (PyData.shownKv [])
  simp only [PyData.shown]
  refine Nat.le_trans h ?_
  simp [PyData.shownKv]
mutual
/-- what is shown of it is no longer than 46 signs for each item -/
theorem vB_shown : ∀ d : PyData, vB d = true → d.showable = true ∧ d.shown.length ≤ 46 * itg d + 41
  | .none, _ => ⟨rfl, by simp only [PyData.shown]; exact Nat.le_trans (show (4 : Nat) ≤ 41 by decide) (Nat.le_add_left _ _)⟩
  | .bool b, _ => ⟨rfl, by
    have : (PyData.shown (.bool b)).length ≤ 5 := by cases b <;> decide
    omega⟩
  | .int i, h => by
    simp only [vB] at h
    obtain ⟨h1, h2⟩ := int_short (of_decide_eq_true h)
    exact ⟨h2, by omega⟩
  | .str x, h => by
    simp only [vB] at h
    have := of_decide_eq_true h
    exact ⟨rfl, by simp only [PyData.shown]; omega⟩
  | .tuple xs, h => by
    simp only [vB, Bool.and_eq_true] at h
    obtain ⟨h1, h2⟩ := vBA_shown xs h.2
    have h3 := tupleText_len_le (PyData.shownAll xs)
    have h4 := PyData.shownAll_length xs
    refine ⟨by simpa [PyData.showable] using h1, ?_⟩
    simp only [PyData.shown, itg]
    omega
  | .list xs, h => by
    simp only [vB, Bool.and_eq_true] at h
    obtain ⟨h1, h2⟩ := vBA_shown xs h.2
    have h3 := listText_len_le (PyData.shownAll xs)
    have h4 := PyData.shownAll_length xs
    refine ⟨by simpa [PyData.showable] using h1, ?_⟩
    simp only [PyData.shown, itg]
    omega
  | .dict kvs, h => by
    have e : kvs = [] := by simpa [vB] using h
    subst e
    exact ⟨by simp [PyData.showable, PyData.showableKv], by have := empty_dict; omega⟩
theorem vBA_shown : ∀ ds : List PyData, vBA ds = true → PyData.showableAll ds = true ∧ ((PyData.shownAll ds).map (·.length)).sum + 2 * ds.length ≤ 46 * (ds.length + itgA ds)
  | [], _ => ⟨by simp [PyData.showableAll], by simp [PyData.shownAll]⟩
  | d :: ds, h => by
    have h2 : vB d = true ∧ vBA ds = true := by simpa [vBA] using h
    obtain ⟨a1, a2⟩ := vB_shown d h2.1
    obtain ⟨b1, b2⟩ := vBA_shown ds h2.2
    refine ⟨by simp [PyData.showableAll, a1, b1], ?_⟩
    simp only [PyData.shownAll, List.map_cons, List.sum_cons, List.length_cons, itgA]
    omega
end
/-- repr of such values -/
theorem repr_v {v : V} {d : PyData} {H : Hp} {Q : VK} {k : Nat} (hd : Dq H v d) (h : Vd k d) (hk : k ≤ 40) (hi : itg d ≤ 300000) (q : ∀ x, x = d.shown → Q (.str x) H) : rRepr [v] H Q := by
  obtain ⟨h1, h2⟩ := vB_shown d h.b
  have := h.dp
  refine ⟨v, d, rfl, hd, h1, by omega, ?_, q _ rfl⟩
  have e : sizeLine = 16777216 := by decide
  rw [e]
  omega
theorem repr_vne {v : V} {d : PyData} {H : Hp} {x : Str} {Q : Bool → Hp → Prop} {k : Nat} (hx : x = d.shown) (hd : Dq H v d) (h : Vd k d) (hk : k ≤ 40) (hi : itg d ≤ 300000) (q : Q false H) :
    rRepr [v] H fun y H4 => rNe (.str x) y H4 fun z H5 => ∃ k, z = .bl k ∧ Q k H5 := by
  refine repr_v hd h hk hi fun y hy => ?_
  rw [← hy] at hx
  subst hx
  refine ⟨rfl, _, rfl, ?_⟩
  rw [decide_eq_true rfl]
  exact q
theorem vB_nat {x m : Nat} (h : x ≤ m) (hm : decide (m < 2 ^ 110) = true) : vB (.int (x : Int)) = true := by
  simp only [vB, Int.natAbs_natCast]
  exact decide_eq_true (Nat.lt_of_le_of_lt h (of_decide_eq_true hm))
theorem vB_three {a b c : PyData} (ha : vB a = true) (hb : vB b = true) (hc : vB c = true) : vB (.tuple [a, b, c]) = true := by
  simp only [vB, vBA, ha, hb, hc]
  rfl
theorem vB_lot {l : List Nat} {n : Nat} (h : ∀ x ∈ l, x < n) (hn : n ≤ 24) (hl : l.length ≤ 500) : vB (lotD l) = true := by
  simp only [lotD, vB, List.length_map, decide_eq_true hl, Bool.true_and]
  refine vBA_of fun d hd => ?_
  obtain ⟨x, hx, rfl⟩ := List.mem_map.mp hd
  exact vB_nat (m := 24) (by have := h x hx; omega) (by decide +kernel)
theorem vB_deed {n : Nat} (hn : n ≤ 24) {d : Mv} (h : Deed n d) : vB (deedD d) = true := by
  have h1 := h.ab
  have h2 := h.bn
  have h3 := h.few
  have h4 := vB_lot (l := d.1) (n := n) (fun x hx => by have := (h.asc.2 x hx).2; omega) hn (by omega)
  have h5 : vB (.int (d.2.1 : Int)) = true := vB_nat (m := 24) (by omega) (by decide +kernel)
  have h6 : vB (.int (d.2.2 : Int)) = true := vB_nat (m := 24) (by omega) (by decide +kernel)
  exact vB_three h4 h5 h6
theorem vB_two {x : Str} {d : PyData} (hx : decide ((reprText x).length ≤ 41) = true) (h : vB d = true) : vB (.tuple [.str x, d]) = true := by
  simp only [vB, vBA, hx, h]
  rfl
mutual
theorem vB_tm {n r k : Nat} (hn : n ≤ 24) (hr : r ≤ 400) (hk : k ≤ 400) : ∀ t : Tm, okTm (Deed n) r k t → vB (tmD t) = true
  | .doo d, h => by
    simp only [okTm] at h
    exact vB_two (by decide +kernel) (vB_deed hn h)
  | .part j, h => by
    simp only [okTm] at h
    exact vB_two (by decide +kernel) (vB_nat (m := 400) (by omega) (by decide +kernel))
  | .row ts, h => by
    simp only [okTm] at h
    have h1 : (tmDs ts).length = ts.length := by rw [tmDs_map, List.length_map]
    refine vB_two (by decide +kernel) ?_
    simp only [vB, vB_tms hn hr hk ts h.2, h1]
    rw [decide_eq_true (show ts.length ≤ 500 by omega)]
    rfl
  | .back t, h => by
    simp only [okTm] at h
    exact vB_two (by decide +kernel) (vB_tm hn hr hk t h)
  | .times t m, h => by
    simp only [okTm] at h
    have h1 := vB_tm hn hr hk t h.2
    have h2 : vB (.int (m : Int)) = true := vB_nat h.1 (by decide +kernel)
    have h3 : decide ((reprText "times").length ≤ 41) = true := by decide +kernel
    have h4 : vB (.str "times") = true := h3
    exact vB_three h4 h1 h2
theorem vB_tms {n r k : Nat} (hn : n ≤ 24) (hr : r ≤ 400) (hk : k ≤ 400) : ∀ ts : List Tm, okTms (Deed n) r k ts → vBA (tmDs ts) = true
  | [], _ => rfl
  | t :: ts, h => by
    simp only [okTms] at h
    simp only [tmDs, vBA, vB_tm hn hr hk t h.1, vB_tms hn hr hk ts h.2]
    rfl
end
theorem VdTm {n r k : Nat} (hn : n ≤ 24) (hr : r ≤ 400) (hk : k ≤ 400) {t : Tm} (h : okTm (Deed n) r k t) : Vd (2 * dep t + 1) (tmD t) := ⟨vB_tm hn hr hk t h, tm_depth t⟩
end Kr
namespace Kr
open PySem PySem.Spec PyProof.Rows L2
/-! ### expressions that give data, beside what stands at S (the deck, lists being made) -/
structure Wl (S : List Addr) (p l : Addr) (G : Hp) : Prop where
  D : Deck G p l
  p : p ∈ S
  l : l ∈ S
  o : Offs S G
theorem Wl.ext {S : List Addr} {p l : Addr} {G G' : Hp} (w : Wl S p l G) (e : Ext p l G G') (D : Deck G' p l) : Wl S p l G' := ⟨D, w.p, w.l, w.o.deck e D⟩
theorem Wl.up {S : List Addr} {p l : Addr} {G G' : Hp} (w : Wl S p l G) (s : Same G G') : Wl S p l G' := w.ext (Ext.of s) (w.D.up s)
theorem Wl.hid {S : List Addr} {p l : Addr} {G G' : Hp} (w : Wl S p l G) (e : Ext p l G G') : Same (hidS S G) (hidS S G') := hidS_ext w.p w.l e
theorem Wl.two {p l : Addr} {G : Hp} (D : Deck G p l) : Wl [p, l] p l G := ⟨D, by simp, by simp, D.offs⟩
theorem hidS_hid {S : List Addr} {p l b : Addr} {G : Hp} {o : HO} (w : Wl S p l G) (h : hidS S G b = some o) : Kr.hid p l G b = some o := by
  obtain ⟨h1, h2⟩ := hidS_some h
  have n1 : b ≠ p := fun z => h1 (by rw [z]; exact w.p)
  have n2 : b ≠ l := fun z => h1 (by rw [z]; exact w.l)
  rw [hid_ne n1 n2]
  exact h2
def EvQ (S : List Addr) (p l : Addr) (te : TE) (σ : L2.St) (H : Hp) (R : PyData → Prop) : Prop :=
  ∀ G, Wl S p l G → Ext p l H G → ∀ Q : VK, (∀ v G' d, Wl S p l G' → Ext p l G G' → Dq (hidS S G') v d → R d → Q v G') → te σ G Q
def EvQA (S : List Addr) (p l : Addr) (ta : TA) (σ : L2.St) (H : Hp) (R : PyData → Prop) (n : Nat) : Prop :=
  ∀ G, Wl S p l G → Ext p l H G → ∀ Q : List V → Hp → Prop, (∀ vs G' ds, Wl S p l G' → Ext p l G G' → DqA (hidS S G') vs ds → ds.length = n → (∀ d ∈ ds, R d) → Q vs G') → ta σ G Q
/-- a list, a tuple of so many at most, each so -/
def OfL (R : PyData → Prop) (n : Nat) (d : PyData) : Prop := ∃ ds, d = .list ds ∧ (0 < ds.length ∧ ds.length ≤ n) ∧ ∀ x ∈ ds, R x
def OfT (R : PyData → Prop) (n : Nat) (d : PyData) : Prop := ∃ ds, d = .tuple ds ∧ ds.length ≤ n ∧ ∀ x ∈ ds, R x
/-- a whole number that is reckoned -/
def EvN (te : TE) (σ : L2.St) (i : Int) : Prop := ∀ (H : Hp) (Q : VK), Q (.int i) H → te σ H Q
section
variable {S : List Addr} {p l : Addr} {σ : L2.St} {H : Hp} {te ta' tb : TE} {ta : TA} {R R' T : PyData → Prop} {n m k : Nat} {K : PySem.W.Frag}
theorem evq_at {Q : VK} (h : EvQ S p l te σ H R) (w : Wl S p l H) (q : ∀ v G' d, Wl S p l G' → Ext p l H G' → Dq (hidS S G') v d → R d → Q v G') : te σ H Q := h H w Ext.rfl Q q
theorem EvQ.mono (h : EvQ S p l te σ H R) (i : ∀ d, R d → R' d) : EvQ S p l te σ H R' := fun G w e Q q => h G w e Q fun v G' d a b c r => q v G' d a b c (i d r)
theorem en_c {i : Int} : EvN (tC (.int i)) σ i := fun _ _ q => q
theorem en_v {j : Nat} {i : Int} (h : σ[j]? = some (some (.int i))) : EvN (tVar j) σ i := fun _ _ q => ⟨_, h, q⟩
theorem en_add {i j : Int} (ha : EvN ta' σ i) (hb : EvN tb σ j) : EvN (tOp (rI0 fun i j => .int (i + j)) ta' tb) σ (i + j) := fun H Q q => ha H _ (hb H _ ⟨i, j, rfl, rfl, q⟩)
theorem en_sub {i j : Int} (ha : EvN ta' σ i) (hb : EvN tb σ j) : EvN (tOp (rI0 fun i j => .int (i - j)) ta' tb) σ (i - j) := fun H Q q => ha H _ (hb H _ ⟨i, j, rfl, rfl, q⟩)
theorem en_pow {i j : Int} (ha : EvN ta' σ i) (hb : EvN tb σ j) (hc : CPow i j) : EvN (tOp (rI CPow fun i j => .int (i ^ j.toNat)) ta' tb) σ (i ^ j.toNat) := fun H Q q => ha H _ (hb H _ ⟨i, j, rfl, rfl, hc, q⟩)
theorem en_neg {i : Int} (ha : EvN ta' σ i) : EvN (tUn (rU fun i => .int (-i)) ta') σ (-i) := fun H Q q => ha H _ ⟨i, rfl, q⟩
theorem evq_n {i : Int} (h : EvN te σ i) (r : R (.int i)) : EvQ S p l te σ H R := fun G w e Q q => h G Q (q _ G _ w Ext.rfl (.int i) r)
theorem evq_non (r : R .none) : EvQ S p l (tC .non) σ H R := fun G w e Q q => q _ G _ w Ext.rfl .non r
theorem evq_bl {b : Bool} (r : R (.bool b)) : EvQ S p l (tC (.bl b)) σ H R := fun G w e Q q => q _ G _ w Ext.rfl (.bl b) r
theorem evq_str {x : Str} (r : R (.str x)) : EvQ S p l (tC (.str x)) σ H R := fun G w e Q q => q _ G _ w Ext.rfl (.str x) r
theorem evq_var {i : Nat} {v : V} {d : PyData} (h : σ[i]? = some (some v)) (hd : Dq (hidS S H) v d) (r : R d) : EvQ S p l (tVar i) σ H R := fun G w e Q q => ⟨v, h, q _ G _ w Ext.rfl (hd.up (hidS_ext w.p w.l e)) r⟩
theorem eqa_nil : EvQA S p l tNil σ H R 0 := fun G w e Q q => q [] G [] w Ext.rfl .nil rfl fun _ h => nomatch h
theorem eqa_cons (h : EvQ S p l te σ H R) (t : EvQA S p l ta σ H R n) : EvQA S p l (tCons te ta) σ H R (n + 1) := fun G w e Q q =>
  h G w e _ fun v H2 d w2 e2 hd r => t H2 w2 (Same.trans e e2) _ fun vs H3 ds w3 e3 hds hn hr => q (v :: vs) H3 (d :: ds) w3 (Same.trans e2 e3) (.cons (hd.up (w2.hid e3)) hds) (by rw [List.length_cons, hn]) fun x hx => by
    rcases List.mem_cons.mp hx with hx | hx
    · rw [hx]; exact r
    · exact hr x hx
theorem new_q {H : Hp} {q : Addr} {o : HO} (w : Wl S p l H) (h : H q = none) : Ext p l H (upd H q o) ∧ Wl S p l (upd H q o) ∧ hidS S (upd H q o) q = some o := by
  obtain ⟨e, D, _⟩ := new_dq (o := o) w.D h
  exact ⟨e, w.ext e D, w.o.put h⟩
theorem evq_lst (h : EvQA S p l ta σ H T n) (hn : n ≤ 100000) (r : ∀ ds : List PyData, ds.length = n → (∀ d ∈ ds, T d) → R (.list ds)) : EvQ S p l (tLst ta) σ H R := fun G w e Q q =>
  h G w e _ fun vs H2 ds w2 e2 hds hl hr => ⟨sz (by rw [hds.len, hl]; exact hn), fun a na => by
    obtain ⟨e3, w3, ha⟩ := new_q (o := .lst vs) w2 na
    exact q _ _ _ w3 (Same.trans e2 e3) (.lst ha (hds.up (w2.hid e3))) (r ds hl hr)⟩
theorem evq_tup (h : EvQA S p l ta σ H T n) (hn : n ≤ 100000) (r : ∀ ds : List PyData, ds.length = n → (∀ d ∈ ds, T d) → R (.tuple ds)) : EvQ S p l (tTup ta) σ H R := fun G w e Q q =>
  h G w e _ fun vs H2 ds w2 e2 hds hl hr => ⟨sz (by rw [hds.len, hl]; exact hn), fun a na => by
    obtain ⟨e3, w3, ha⟩ := new_q (o := .tup vs) w2 na
    exact q _ _ _ w3 (Same.trans e2 e3) (.tup ha (hds.up (w2.hid e3))) (r ds hl hr)⟩
theorem evq_dic (r : R (.dict [])) : EvQ S p l tDNewK σ H R := fun G w e Q q a na => by
  obtain ⟨e3, w3, ha⟩ := new_q (o := .dK []) w na
  exact q _ _ _ w3 e3 (.dic ha) r
theorem evq_tupV (h : EvQA S p l ta σ H (Vd k) n) (hn : n ≤ 500) : EvQ S p l (tTup ta) σ H (Vd (k + 1)) := evq_tup h (by omega) fun ds hl hd => Vd.tup hd (by omega)
theorem evq_lstV (h : EvQA S p l ta σ H (Vd k) n) (hn : n ≤ 500) : EvQ S p l (tLst ta) σ H (Vd (k + 1)) := evq_lst h (by omega) fun ds hl hd => Vd.lst hd (by omega)
theorem evq_L (h : EvQA S p l ta σ H T n) (hn : n ≤ 500) (h0 : 0 < n) : EvQ S p l (tLst ta) σ H (OfL T n) := evq_lst h (by omega) fun ds hl hd => ⟨ds, rfl, ⟨by omega, by omega⟩, hd⟩
theorem evq_T (h : EvQA S p l ta σ H T n) (hn : n ≤ 500) : EvQ S p l (tTup ta) σ H (OfT T n) := evq_tup h (by omega) fun ds hl hd => ⟨ds, rfl, by omega, hd⟩
/-- xs + ys, lists -/
theorem evq_cat (ha : EvQ S p l ta' σ H (OfL T n)) (hb : EvQ S p l tb σ H (OfL T m)) (hnm : n + m ≤ 100000) : EvQ S p l (tOp rCat ta' tb) σ H (OfL T (n + m)) := fun G w e Q q =>
  ha G w e _ fun v H2 d w2 e2 hd hr => hb H2 w2 (Same.trans e e2) _ fun v' H3 d' w3 e3 hd' hr' => by
    obtain ⟨ds, rfl, ⟨l0, l1⟩, r1⟩ := hr
    obtain ⟨ds', rfl, ⟨l0', l2⟩, r2⟩ := hr'
    have hd3 := hd.up (w2.hid e3)
    cases hd3 with
    | @lst a xs _ ea qa =>
      cases hd' with
      | @lst b ys _ eb qb =>
        refine ⟨a, b, xs, ys, rfl, rfl, hidS_same S _ _ _ ea, hidS_same S _ _ _ eb, sz (by rw [qa.len, qb.len]; omega), fun c nc => ?_⟩
        obtain ⟨e4, w4, hc⟩ := new_q (o := .lst (xs ++ ys)) w3 nc
        refine q _ _ _ w4 (Same.trans e2 (Same.trans e3 e4)) (.lst hc ((qa.up (w3.hid e4)).app (qb.up (w3.hid e4)))) ⟨_, rfl, by rw [List.length_append]; omega, fun x hx => ?_⟩
        rcases List.mem_append.mp hx with hx | hx
        · exact r1 x hx
        · exact r2 x hx
/-- t + u, tuples -/
theorem evq_catT (ha : EvQ S p l ta' σ H (OfT T n)) (hb : EvQ S p l tb σ H (OfT T m)) (hnm : n + m ≤ 100000) : EvQ S p l (tOp (rCatA K) ta' tb) σ H (OfT T (n + m)) := fun G w e Q q =>
  ha G w e _ fun v H2 d w2 e2 hd hr => hb H2 w2 (Same.trans e e2) _ fun v' H3 d' w3 e3 hd' hr' => by
    obtain ⟨ds, rfl, l1, r1⟩ := hr
    obtain ⟨ds', rfl, l2, r2⟩ := hr'
    have hd3 := hd.up (w2.hid e3)
    obtain ⟨a, xs, rfl, ea, qa⟩ := Dq.tup_inv hd3
    obtain ⟨b, ys, rfl, eb, qb⟩ := Dq.tup_inv hd'
    refine catA_k (hidS_same S _ _ _ ea) (hidS_same S _ _ _ eb) (by rw [qa.len, qb.len]; omega) fun y H5 s5 hy => ?_
    have w5 := w3.up s5
    have e5 : Ext p l H3 H5 := Ext.of s5
    refine q _ _ _ w5 (Same.trans e2 (Same.trans e3 e5)) (.tup (w5.o.tup hy) ((qa.up (w3.hid e5)).app (qb.up (w3.hid e5)))) ⟨_, rfl, by rw [List.length_append]; omega, fun x hx => ?_⟩
    rcases List.mem_append.mp hx with hx | hx
    · exact r1 x hx
    · exact r2 x hx
theorem OfT.vd {d : PyData} (h : OfT (Vd k) n d) (hn : n ≤ 500) : Vd (k + 1) d := by
  obtain ⟨ds, rfl, h1, h2⟩ := h
  exact Vd.tup h2 (by omega)
/-- _law_pick(deck, e) -/
theorem evq_pick {j : Nat} (hj : σ[j]? = some (some (.ref p))) (h : EvQ S p l te σ H (OfL R n)) (hn : n ≤ 100000) : EvQ S p l (tCall spPick [] E0 (tCons (tVar j) (tCons te tNil))) σ H R := fun G w e Q q =>
  ⟨_, hj, h G w e _ fun v H2 d w2 e2 hd hr => by
    obtain ⟨ds, rfl, ⟨hl0, hl⟩, hR⟩ := hr
    cases hd with
    | @lst a xs _ ea qa =>
      have hlen := qa.len
      refine ⟨p, l, a, xs, rfl, w2.D, hidS_hid w2 ea, fun z => by subst z; rw [← hlen] at hl0; exact absurd hl0 (by decide), by omega, fun H3 v D3 e3 hv => ?_⟩
      obtain ⟨i, hi, hx⟩ := List.mem_iff_getElem.mp hv
      obtain ⟨d, h1, h2⟩ := (qa.up (w2.hid e3)).get (List.getElem?_eq_getElem hi)
      rw [hx] at h2
      exact q v H3 d (w2.ext e3 D3) (Same.trans e2 e3) h2 (hR d (List.mem_of_getElem? h1))⟩
theorem evq_draw {j : Nat} {c : Int} (hj : σ[j]? = some (some (.ref p))) (hk : EvN te σ c) (hb : c < 1073741824) (r : ∀ z : Int, 0 ≤ z → (z < c ∨ z = 0) → R (.int z)) : EvQ S p l (tCall spDraw [] E0 (tCons (tVar j) (tCons te tNil))) σ H R := fun G w e Q q =>
  ⟨_, hj, hk G _ ⟨p, l, c, rfl, w.D, hb, fun H2 z D2 e2 h0 h1 => q _ H2 _ (w.ext e2 D2) e2 (.int z) (r z h0 h1)⟩⟩
theorem evq_rev {j : Nat} {v : V} {ds : List PyData} (hj : σ[j]? = some (some v)) (hd : Dq (hidS S H) v (.tuple ds)) (r : R (.tuple ds.reverse)) : EvQ S p l (tRevT K (tVar j)) σ H R := fun G w e Q q => by
  have hd' := hd.up (hidS_ext w.p w.l e)
  obtain ⟨a, xs, rfl, ea, qa⟩ := Dq.tup_inv hd'
  refine ⟨_, hj, a, xs, rfl, SqT.of (hidS_same S _ _ _ ea), fun c nc => ?_⟩
  obtain ⟨e4, w4, hc⟩ := new_q (o := .tup xs.reverse) w nc
  exact q _ _ _ w4 e4 (.tup hc (qa.rev.up (w.hid e4))) r
/-- list(t) -/
theorem evq_listOf {j : Nat} {v : V} {ds : List PyData} (hj : σ[j]? = some (some v)) (hd : Dq (hidS S H) v (.tuple ds)) (r : R (.list ds)) :
    EvQ S p l (tCB (fun xs H Q => ∃ p ys, xs = [V.ref p] ∧ (SqL K H p ys ∨ SqT K H p ys) ∧ ∀ l, H l = none → Q (.ref l) (upd H l (.lst ys))) (tCons (tVar j) tNil)) σ H R := fun G w e Q q => by
  have hd' := hd.up (hidS_ext w.p w.l e)
  obtain ⟨a, xs, rfl, ea, qa⟩ := Dq.tup_inv hd'
  refine ⟨_, hj, a, xs, rfl, .inr (SqT.of (hidS_same S _ _ _ ea)), fun c nc => ?_⟩
  obtain ⟨e4, w4, hc⟩ := new_q (o := .lst xs) w nc
  exact q _ _ _ w4 e4 (.lst hc (qa.up (w.hid e4))) r
/-- flat data looks into tuples alone -/
theorem Wl.flat {S : List Addr} {p l : Addr} {G : Hp} (w : Wl S p l G) {v : V} {d : PyData} (f : flatT d = true) (h : Dq G v d) : Dq (hidS S G) v d := Dq.upT (fun b xs e => w.o.tup e) f h
theorem evq_varR {i : Nat} {v : V} {d : PyData} (h : σ[i]? = some (some v)) (hd : Dq (hidS S H) v d) (r : R d) : EvQ S p l (tVar i) σ H R := evq_var h hd r
theorem evq_ixT {i j : Nat} {v : V} {ds : List PyData} {d : PyData} (hj : σ[j]? = some (some v)) (hd : Dq (hidS S H) v (.tuple ds)) (hx : ds[i]? = some d) (r : R d) : EvQ S p l (tOp (rIxT K) (tVar j) (tC (.int (i : Nat)))) σ H R := fun G w e Q q => by
  obtain ⟨a, xs, rfl, ea, qa⟩ := Dq.tup_inv (hd.up (hidS_ext w.p w.l e))
  obtain ⟨hi, _⟩ := List.getElem?_eq_some_iff.mp hx
  have hxl := qa.len
  obtain ⟨y, hy⟩ : ∃ y, xs[i]? = some y := ⟨_, List.getElem?_eq_getElem (by omega)⟩
  obtain ⟨d', h1, h2⟩ := qa.get hy
  rw [hx] at h1
  cases h1
  exact ⟨_, hj, a, xs, i, y, rfl, rfl, SqT.of (hidS_same S _ _ _ ea), atI_nat hy, q _ _ _ w Ext.rfl h2 r⟩
theorem evq_eqb {i j : Int} {k : Nat} (ha : EvN ta' σ i) (hb : EvN tb σ j) : EvQ S p l (tOp rEq ta' tb) σ H (Vd k) := fun G w e Q q => ha _ _ (hb _ _ ⟨rfl, q _ _ _ w Ext.rfl (.bl _) ((Vd.bl _).mono (Nat.zero_le _))⟩)
theorem str_short : ∀ i < 25, decide ((reprText (Str.ofString (toString ((i : Nat) : Int)))).length ≤ 41) = true := by decide +kernel
theorem evq_strI {i : Nat} {k : Nat} (ha : EvN te σ ((i : Nat) : Int)) (h : i < 25) : EvQ S p l (tCB (fun xs H Q => ∃ i, xs = [V.int i] ∧ i.natAbs.log2 < 1920 ∧ Q (V.str (Str.ofString (toString i))) H) (tCons te tNil)) σ H (Vd k) := fun G w e Q q => ha _ _ ⟨_, rfl, by
  rw [Int.natAbs_natCast]
  by_cases h0 : i = 0
  · subst h0; decide +kernel
  · exact (Nat.log2_lt h0).mpr (Nat.lt_of_lt_of_le h (by decide +kernel)), q _ _ _ w Ext.rfl (.str _) ((Vd.str (str_short i h)).mono (Nat.zero_le _))⟩
theorem DqA.cut {H : Hp} {xs : List V} {ds : List PyData} (q : DqA H xs ds) (lo hi : Option Int) : ∃ es, DqA H (cutV xs lo hi) es ∧ es.length ≤ ds.length ∧ ∀ e ∈ es, e ∈ ds := by
  refine ⟨(ds.drop (HT.sIx xs.length 0 lo)).take (HT.sIx xs.length xs.length hi - HT.sIx xs.length 0 lo), (q.drop _).take _, ?_, fun e he => List.mem_of_mem_drop (List.mem_of_mem_take he)⟩
  rw [List.length_take, List.length_drop]
  omega
theorem evq_sl {tlo thi : TO} (h : EvQ S p l te σ H (OfT T n)) (h1 : ∀ (G : Hp) (Q : Option Int → Hp → Prop), (∀ i, Q i G) → tlo σ G Q) (h2 : ∀ (G : Hp) (Q : Option Int → Hp → Prop), (∀ i, Q i G) → thi σ G Q) : EvQ S p l (tSl (rSlA K) te tlo thi) σ H (OfT T n) := fun G w e Q q =>
  h G w e _ fun v G1 d w1 e1 hd hr => h1 _ _ fun i1 => h2 _ _ fun i2 => by
    obtain ⟨ds, rfl, l1, r1⟩ := hr
    obtain ⟨a, xs, rfl, ea, qa⟩ := Dq.tup_inv hd
    obtain ⟨es, qe, le, me⟩ := qa.cut i1 i2
    refine sliceA_k (hidS_same S _ _ _ ea) fun y H5 s5 hy => ?_
    have w5 := w1.up s5
    have e5 : Ext p l G1 H5 := Ext.of s5
    exact q _ _ _ w5 (Same.trans e1 e5) (.tup (w5.o.tup hy) (qe.up (w1.hid e5))) ⟨es, rfl, by omega, fun x hx => r1 x (me x hx)⟩
theorem part_n {i : Int} (h : EvN tb σ i) : ∀ (G : Hp) (Q : Option Int → Hp → Prop), (∀ i, Q i G) → (tPart tb) σ G Q := fun G Q q => h _ _ ⟨i, rfl, q _⟩
theorem part_0 : ∀ (G : Hp) (Q : Option Int → Hp → Prop), (∀ i, Q i G) → tNoPart σ G Q := fun G Q q => q _
theorem evq_tup0 (h : EvQA S p l tNil σ H (Vd k) 0) : EvQ S p l (tTup tNil) σ H (Vd (k + 1)) := evq_tupV h (by decide)
theorem evq_lst0 (h : EvQA S p l tNil σ H (Vd k) 0) : EvQ S p l (tLst tNil) σ H (Vd (k + 1)) := evq_lstV h (by decide)
theorem evq_tup1 {a : TE} (h : EvQA S p l (tCons a tNil) σ H (Vd k) 1) : EvQ S p l (tTup (tCons a tNil)) σ H (Vd (k + 1)) := evq_tupV h (by decide)
theorem evq_lst1 {a : TE} (h : EvQA S p l (tCons a tNil) σ H (Vd k) 1) : EvQ S p l (tLst (tCons a tNil)) σ H (Vd (k + 1)) := evq_lstV h (by decide)
theorem evq_tup2 {a b : TE} (h : EvQA S p l (tCons a (tCons b tNil)) σ H (Vd k) 2) : EvQ S p l (tTup (tCons a (tCons b tNil))) σ H (Vd (k + 1)) := evq_tupV h (by decide)
theorem evq_lst2 {a b : TE} (h : EvQA S p l (tCons a (tCons b tNil)) σ H (Vd k) 2) : EvQ S p l (tLst (tCons a (tCons b tNil))) σ H (Vd (k + 1)) := evq_lstV h (by decide)
theorem evq_tup3 {a b c : TE} (h : EvQA S p l (tCons a (tCons b (tCons c tNil))) σ H (Vd k) 3) : EvQ S p l (tTup (tCons a (tCons b (tCons c tNil)))) σ H (Vd (k + 1)) := evq_tupV h (by decide)
theorem evq_lst3 {a b c : TE} (h : EvQA S p l (tCons a (tCons b (tCons c tNil))) σ H (Vd k) 3) : EvQ S p l (tLst (tCons a (tCons b (tCons c tNil)))) σ H (Vd (k + 1)) := evq_lstV h (by decide)
theorem evq_tup4 {a b c d : TE} (h : EvQA S p l (tCons a (tCons b (tCons c (tCons d tNil)))) σ H (Vd k) 4) : EvQ S p l (tTup (tCons a (tCons b (tCons c (tCons d tNil))))) σ H (Vd (k + 1)) := evq_tupV h (by decide)
theorem evq_lst4 {a b c d : TE} (h : EvQA S p l (tCons a (tCons b (tCons c (tCons d tNil)))) σ H (Vd k) 4) : EvQ S p l (tLst (tCons a (tCons b (tCons c (tCons d tNil))))) σ H (Vd (k + 1)) := evq_lstV h (by decide)
theorem evq_tup5 {a b c d e : TE} (h : EvQA S p l (tCons a (tCons b (tCons c (tCons d (tCons e tNil))))) σ H (Vd k) 5) : EvQ S p l (tTup (tCons a (tCons b (tCons c (tCons d (tCons e tNil)))))) σ H (Vd (k + 1)) := evq_tupV h (by decide)
theorem evq_lst5 {a b c d e : TE} (h : EvQA S p l (tCons a (tCons b (tCons c (tCons d (tCons e tNil))))) σ H (Vd k) 5) : EvQ S p l (tLst (tCons a (tCons b (tCons c (tCons d (tCons e tNil)))))) σ H (Vd (k + 1)) := evq_lstV h (by decide)
theorem Vd.lt {k : Nat} {ds : List PyData} (h : Vd k (.tuple ds)) : Vd k (.list ds) := by
  obtain ⟨h1, j, rfl, h2⟩ := h.tup_inv
  exact Vd.lst h2 h1
theorem Vd.rv {k : Nat} {ds : List PyData} (h : Vd k (.tuple ds)) : Vd k (.tuple ds.reverse) := by
  obtain ⟨h1, j, rfl, h2⟩ := h.tup_inv
  exact Vd.tup (fun d hd => h2 d (List.mem_reverse.mp hd)) (by rw [List.length_reverse]; exact h1)
theorem evq_varT {i : Nat} {v : V} {ds : List PyData} (h : σ[i]? = some (some v)) (hd : Dq (hidS S H) v (.tuple ds)) (r : ∀ d ∈ ds, T d) (hn : ds.length ≤ n) : EvQ S p l (tVar i) σ H (OfT T n) := evq_var h hd ⟨ds, rfl, hn, r⟩
theorem vd_i {i : Int} {k : Nat} (h0 : -1000 ≤ i) (h1 : i ≤ 1000) : Vd k (.int i) := (Vd.int (Nat.lt_of_le_of_lt (show i.natAbs ≤ 1000 by omega) (by decide +kernel))).mono (Nat.zero_le _)
theorem vd_s {x : Str} {k : Nat} (h : decide ((reprText x).length ≤ 41) = true) : Vd k (.str x) := (Vd.str h).mono (Nat.zero_le _)
theorem vd_b {b : Bool} {k : Nat} : Vd k (.bool b) := (Vd.bl b).mono (Nat.zero_le _)
theorem vd_n {k : Nat} : Vd k .none := Vd.non.mono (Nat.zero_le _)
theorem evq_30 {k : Nat} : EvQ S p l (tOp (rI CPow fun i j => V.int (i ^ j.toNat)) (tC (V.int 10)) (tC (V.int 30))) σ H (Vd k) := evq_n (en_pow en_c en_c ⟨by decide, by decide, by decide⟩) ((Vd.int (by decide +kernel)).mono (Nat.zero_le _))
theorem evq_31 {k : Nat} : EvQ S p l (tOp (rI0 fun i j => V.int (i + j)) (tOp (rI CPow fun i j => V.int (i ^ j.toNat)) (tC (V.int 10)) (tC (V.int 30))) (tC (V.int 1))) σ H (Vd k) := evq_n (en_add (en_pow en_c en_c ⟨by decide, by decide, by decide⟩) en_c) ((Vd.int (by decide +kernel)).mono (Nat.zero_le _))
theorem hidS_upd {D : Addr} {S : List Addr} {G : Hp} {o : HO} (h : D ∈ S) : hidS S (upd G D o) = hidS S G := by
  funext b
  unfold hidS
  by_cases c : b ∈ S
  · rw [if_pos c, if_pos c]
  · rw [if_neg c, if_neg c, upd_ne (fun z => c (by rw [z]; exact h))]
theorem hidS_less {D : Addr} {S : List Addr} {G : Hp} : Same (hidS (D :: S) G) (hidS S G) := fun b o h => by
  obtain ⟨h1, h2⟩ := hidS_some h
  rw [hidS_ne (fun z => h1 (List.mem_cons_of_mem _ z))]
  exact h2
theorem Wl.cons {D : Addr} {G : Hp} {us : List V} (w : Wl S p l G) (h : G D = some (.lst us)) : Wl (D :: S) p l G := ⟨w.D, List.mem_cons_of_mem _ w.p, List.mem_cons_of_mem _ w.l, ⟨fun b hb => by
  rcases List.mem_cons.mp hb with rfl | hb
  · exact ⟨_, h, fun xs z => by cases z⟩
  · exact w.o.at_ b hb⟩⟩
theorem Wl.less {D : Addr} {G : Hp} (w : Wl (D :: S) p l G) (hp : p ∈ S) (hl : l ∈ S) : Wl S p l G := ⟨w.D, hp, hl, ⟨fun b hb => w.o.at_ b (List.mem_cons_of_mem _ hb)⟩⟩
theorem Wl.mut {D : Addr} {G : Hp} {us : List V} (w : Wl S p l G) (n : D ∉ S) : Wl S p l (upd G D (.lst us)) := by
  have n1 : D ≠ p := fun z => n (by rw [z]; exact w.p)
  have n2 : D ≠ l := fun z => n (by rw [z]; exact w.l)
  refine ⟨w.D.mut n1 n2, w.p, w.l, ⟨fun b hb => ?_⟩⟩
  obtain ⟨o, a, c⟩ := w.o.at_ b hb
  exact ⟨o, by rw [upd_ne (fun z => n (by rw [← z]; exact hb))]; exact a, c⟩
/-- [body for x in range(n)] -/
theorem evq_lcR {body : TE} {vs : List Nat} {j n : Nat} (hn : n ≤ 100) (h0 : 0 < n) (hN : EvN te σ (n : Nat)) (hw : ∀ x, wipe ((wipe σ vs).set j (some x)) vs = wipe σ vs)
    (hb : ∀ (D : Addr) (G : Hp) (i : Nat), D ∉ S → Wl (D :: S) p l G → Ext p l H G → EvQ (D :: S) p l body ((wipe σ vs).set j (some (.int (i : Nat)))) G T) : EvQ S p l (tLc (iRng1 (tCons te tNil)) (gName j) tYes body vs) σ H (OfL T n) := fun G w e Q q => by
  refine hN _ _ ⟨(n : Int), rfl, by omega, by omega, fun D nD => ?_⟩
  obtain ⟨nDp, nDl⟩ := w.D.new nD
  have nS := w.o.new nD
  have e0 : (n : Int).toNat = n := rfl
  refine lc_it (walk_rg (n := n)) (fun i G2 => ∃ (us : List V) (ds : List PyData), G2 D = some (.lst us) ∧ Wl S p l G2 ∧ Ext p l G G2 ∧ us.length = i ∧ DqA (hidS (D :: S) G2) us ds ∧ ∀ d ∈ ds, T d) ⟨[], [], upd_same, w.mut nS, Ext.mut Ext.rfl nD, rfl, .nil, fun _ h => nomatch h⟩ (fun _ _ _ _ => trivial) ?_ ?_
  · rintro i x _ G2 hi ⟨us, ds, hD, w2, e2, hul, qu, hds⟩ ⟨rfl, rfl⟩
    refine ⟨hw _, ?_⟩
    dsimp only [tYes]
    rw [if_pos rfl]
    refine evq_at (hb D G2 i nS (w2.cons hD) (Same.trans e e2)) (w2.cons hD) fun y G3 d w3 e3 hy hd => ?_
    have hD3 := e3.at_ nDp nDl hD
    refine ⟨us, hD3, szm (by omega), us ++ [y], ds ++ [d], upd_same, (w3.less w.p w.l).mut nS, Ext.mut (Same.trans e2 e3) nD, by rw [List.length_append, hul]; rfl, ?_, fun z hz => ?_⟩
    · rw [hidS_upd List.mem_cons_self]
      exact dqa_snoc (qu.up ((w2.cons hD).hid e3)) hy
    · rcases List.mem_append.mp hz with hz | hz
      · exact hds z hz
      · rw [List.mem_singleton.mp hz]
        exact hd
  · rintro G2 ⟨us, ds, hD, w2, e2, hul, qu, hds⟩
    have hl := qu.len
    refine q _ _ _ w2 e2 (.lst ?_ (qu.up hidS_less)) ⟨ds, rfl, ⟨by omega, by omega⟩, hds⟩
    rw [hidS_ne nS]
    exact hD
theorem evq_ixG {i : Nat} {ds : List PyData} {d : PyData} (h : EvQ S p l te σ H fun d => d = .tuple ds) (hi : EvN tb σ (i : Nat)) (hx : ds[i]? = some d) (r : R d) : EvQ S p l (tOp (rIxT K) te tb) σ H R := fun G w e Q q =>
  h G w e _ fun v G1 d1 w1 e1 hd hr => by
    subst hr
    obtain ⟨a, xs, rfl, ea, qa⟩ := Dq.tup_inv hd
    obtain ⟨hi2, _⟩ := List.getElem?_eq_some_iff.mp hx
    have hxl := qa.len
    obtain ⟨y, hy⟩ : ∃ y, xs[i]? = some y := ⟨_, List.getElem?_eq_getElem (by omega)⟩
    obtain ⟨d', h1, h2⟩ := qa.get hy
    rw [hx] at h1
    cases h1
    exact hi _ _ ⟨a, xs, i, y, rfl, rfl, SqT.of (hidS_same S _ _ _ ea), atI_nat hy, q _ _ _ w1 e1 h2 r⟩
theorem sq_asgE {u : L2.TS} {D : Ends} {i : Nat} (h : te σ H fun v H1 => u D (σ.set i (some v)) H1) : tSeq (tAsg te (gName i)) u D σ H := h
theorem gd_var {j : Nat} (h : EvQ S p l (tVar j) σ H R) : EvQ S p l (tVar j) σ H R := h
theorem gd_rev {j : Nat} (h : EvQ S p l (tRevT K (tVar j)) σ H R) : EvQ S p l (tRevT K (tVar j)) σ H R := h
theorem gd_cb {j : Nat} {r : List V → Hp → VK → Prop} (h : EvQ S p l (tCB r (tCons (tVar j) tNil)) σ H R) : EvQ S p l (tCB r (tCons (tVar j) tNil)) σ H R := h
theorem gd_nv {j : Nat} {i : Int} (h : EvN (tVar j) σ i) : EvN (tVar j) σ i := h
end
end Kr
namespace Kr
open PySem PySem.Spec PyProof.Rows L2
/-! ### beside an empty list -/
def rEqN : R2 := fun x y H Q => ∃ l b xs, x = .ref l ∧ y = .ref b ∧ H l = some (.lst xs) ∧ H b = some (.lst []) ∧ Q (.bl xs.isEmpty) H
theorem op_eqN {X : Cx} (hu : X.A.units + 64 < cLine) : OpR X (compareOp .Eq) rEqN := by
  intro pins s σ H x y v u Q I rx ry h
  obtain ⟨l, b, xs, rfl, rfl, hl, hb, q⟩ := h
  obtain rfl : v = Value.ref l := rx
  obtain rfl : u = Value.ref b := ry
  obtain ⟨its, r1, p1, _⟩ := I.list (SqL.of (K := X.K) hl)
  obtain ⟨it2, r2, p2, _⟩ := I.list (SqL.of (K := X.K) hb)
  cases r2
  cases r1 with
  | nil => exact SeqAt.RcAt.lists (e := fun _ => true) p1.isList p2.isList rfl (by omega) (fun j h1 _ => absurd h1 (by simp)) X.prog X.w X.xe _ ⟨.bl true, H, I, by rfl, q⟩
  | cons _ _ => exact SeqAt.RcAt.lists_lengths p1.isList p2.isList (by simp) (by omega) X.prog X.w X.xe _ ⟨.bl false, H, I, rfl, q⟩
/-- a list beside one without items -/
def rNeN : R2 := fun x y H Q => ∃ l b xs, x = .ref l ∧ y = .ref b ∧ H l = some (.lst xs) ∧ H b = some (.lst []) ∧ Q (.bl (!xs.isEmpty)) H
theorem op_neN {X : Cx} (hu : X.A.units + 64 < cLine) : OpR X (compareOp .NotEq) rNeN := by
  intro pins s σ H x y v u Q I rx ry h
  obtain ⟨l, b, xs, rfl, rfl, hl, hb, q⟩ := h
  obtain rfl : v = Value.ref l := rx
  obtain rfl : u = Value.ref b := ry
  obtain ⟨its, r1, p1, _⟩ := I.list (SqL.of (K := X.K) hl)
  obtain ⟨it2, r2, p2, _⟩ := I.list (SqL.of (K := X.K) hb)
  cases r2
  have hn : its.length = xs.length := r1.length.symm
  by_cases he : xs = []
  · subst he
    have : its = [] := List.length_eq_zero_iff.mp hn
    subst this
    exact SeqAt.RcNeAt.lists (e := fun _ => true) p1.isList p2.isList rfl (by omega) (fun j h1 _ => absurd h1 (by simp)) X.prog X.w X.xe _ ⟨.bl false, H, I, by rfl, q⟩
  · have hne : (its.toArray.size != ([] : List Value).toArray.size) = true := by
      have := List.length_pos_iff.mpr he
      simp
      intro z
      subst z
      simp at hn
      exact he (List.length_eq_zero_iff.mp hn.symm)
    have e1 : (!xs.isEmpty) = true := by
      cases xs with
      | nil => exact absurd rfl he
      | cons _ _ => rfl
    rw [e1] at q
    exact SeqAt.RcNeAt.lists_lengths p1.isList p2.isList hne (by omega) X.prog X.w X.xe _ ⟨.bl true, H, I, rfl, q⟩
/-- zip of two tuples, of any lengths -/
theorem walk_zipT {K : PySem.W.Frag} {a b : Addr} {xs ys : List V} {n : Nat} (hn : n = min xs.length ys.length) : Walk (RZ.ItzT K a b) n (fun H => SqT K H a xs ∧ SqT K H b ys) (YPair (fun i => xs[i]?) (fun i => ys[i]?)) := by
  subst hn
  refine ⟨fun i _ hi q => ?_, fun _ ⟨q1, q2⟩ => ⟨xs, ys, q1, q2, (by omega)⟩, fun i H v H' _ ⟨q1, q2⟩ y => ?_⟩
  · obtain ⟨g1, g2⟩ := Nat.lt_min.mp hi
    exact ⟨xs, ys, xs[i], ys[i], q.1, q.2, List.getElem?_eq_getElem g1, List.getElem?_eq_getElem g2⟩
  · obtain ⟨T, x, z, t1, t2, t3, t4, t5⟩ := y
    exact ⟨T, x, z, t1, t2, t3, t4 _ q1, t5 _ q2⟩
theorem vals_ints_flat (ns : List Int) : flatV (.int 0) = true := rfl
end Kr
namespace Kr
open PySem PySem.Spec PyProof.Rows L2
/-! ### what is wrong with lots and standings, over data -/
def iv : PyData → Int
  | .int i => i
  | _ => 0
def eForm : PyData := .str "form"
def eItem (i : Nat) : PyData := .tuple [.str "item", .int (i : Nat)]
def lotGo (n : Int) : Int → Nat → List PyData → PyData
  | _, _, [] => .none
  | least, i, x :: r => if isB x least (n - 1) = true then lotGo n (iv x + 1) (i + 1) r else eItem i
def lotErr (n : Int) : PyData → PyData
  | .tuple ds => lotGo n 0 0 ds
  | _ => eForm
theorem isB_bd {x : PyData} {lo hi : Int} (h : isB x lo hi = true) : ∃ i, x = .int i ∧ lo ≤ i ∧ i ≤ hi := by
  cases x with
  | int i =>
    simp [isB] at h
    exact ⟨i, rfl, h.1, h.2⟩
  | _ => simp [isB] at h
/-- a new data result -/
def spErr (F : Int → PyData → PyData) : Sp := fun vs H Q _ => ∃ (n : Int) (v : V) (d : PyData), vs = [.int n, v] ∧ Dq H v d ∧ ∀ H' r, Same H H' → Dq H' r (F n d) → Q r H'
theorem dq_pair {H : Hp} {t : Addr} {x : Str} {i : Nat} (h : H t = some (.tup [.str x, .int (i : Nat)])) : Dq H (.ref t) (.tuple [.str x, .int (i : Nat)]) :=
  .tup h (.cons (.str x) (.cons (.int _) .nil))
theorem inV_ints (r : Int) (ns : List Int) : inV (.int r) (ns.map V.int) = decide (r ∈ ns) := by
  unfold inV
  rw [Bool.eq_iff_iff]
  simp [eqV]
theorem flat_ints (ns : List Int) : (ns.map V.int).all flatV = true := by
  simp [flatV]
/-! ### lots and what is wrong with deeds, over data -/
def asc : List Int → Bool
  | x :: y :: r => decide (x < y) && asc (y :: r)
  | _ => true
def lotOk (n : Int) : PyData → Bool
  | .tuple ds => ds.all (fun d => isB d 0 (n - 1)) && asc (ds.map iv)
  | _ => false
def isNo : PyData → Bool
  | .none => true
  | _ => false
def ascF : Int → List Int → Bool
  | _, [] => true
  | m, x :: r => decide (m ≤ x) && ascF (x + 1) r
theorem ascF_asc : ∀ (m x : Int) (r : List Int), ascF m (x :: r) = (decide (m ≤ x) && asc (x :: r))
  | m, x, [] => rfl
  | m, x, y :: r => by
    show (decide (m ≤ x) && ascF (x + 1) (y :: r)) = (decide (m ≤ x) && (decide (x < y) && asc (y :: r)))
    rw [ascF_asc (x + 1) y r]
    rfl
theorem isB_from {x : PyData} {m h : Int} (h0 : 0 ≤ m) : isB x m h = (isB x 0 h && decide (m ≤ iv x)) := by
  cases x with
  | int i =>
    show (decide (m ≤ i) && decide (i ≤ h)) = ((decide (0 ≤ i) && decide (i ≤ h)) && decide (m ≤ i))
    rw [Bool.eq_iff_iff]
    simp
    omega
  | _ => rfl
theorem lotGo_no (n : Int) : ∀ (m : Int) (i : Nat) (ds : List PyData), 0 ≤ m → isNo (lotGo n m i ds) = (ds.all (fun d => isB d 0 (n - 1)) && ascF m (ds.map iv))
  | _, _, [], _ => rfl
  | m, i, x :: r, h => by
    show isNo (if _ then _ else _) = ((isB x 0 (n - 1) && r.all _) && (decide (m ≤ iv x) && ascF (iv x + 1) (r.map iv)))
    by_cases hb : isB x m (n - 1) = true
    · have h2 := hb
      rw [isB_from h, Bool.and_eq_true] at h2
      rw [if_pos hb, lotGo_no n (iv x + 1) (i + 1) r (by have := of_decide_eq_true h2.2; omega), h2.1, h2.2]
      rfl
    · have h2 := Bool.eq_false_iff.mpr hb
      rw [isB_from h] at h2
      rw [if_neg hb]
      show false = _
      cases q1 : isB x 0 (n - 1) with
      | false => rfl
      | true =>
        rw [q1] at h2
        rw [show decide (m ≤ iv x) = false from h2]
        simp
theorem lotErr_no (n : Int) (d : PyData) : isNo (lotErr n d) = lotOk n d := by
  cases d with
  | tuple ds =>
    show isNo (lotGo n 0 0 ds) = (_ && _)
    rw [lotGo_no n 0 0 ds (Int.le_refl _)]
    cases ds with
    | nil => rfl
    | cons x r =>
      rw [List.map_cons, ascF_asc]
      by_cases hx : isB x 0 (n - 1) = true
      · obtain ⟨i, rfl, h0, _⟩ := isB_bd hx
        rw [show decide ((0 : Int) ≤ iv (.int i)) = true from decide_eq_true h0, Bool.true_and]
      · rw [List.all_cons, Bool.eq_false_iff.mpr hx]
        rfl
  | _ => rfl
theorem Dq.no {H : Hp} {v : V} {d : PyData} (h : Dq H v d) : decide (v = .non) = isNo d := by
  cases h <;> simp [isNo]
def ivl : PyData → List Int
  | .tuple ds => ds.map iv
  | _ => []
def plOk (n : Int) (l x y : PyData) : Bool := isB x 0 (n - 1) && isB y 0 (n - 1) && decide (iv x < iv y) && !decide (iv x ∈ ivl l) && !decide (iv y ∈ ivl l)
def deedErr (n : Int) : PyData → PyData
  | .tuple [l, x, y] => if lotOk n l = true then (if plOk n l x y = true then .none else .str "places") else .str "lot"
  | _ => eForm
/-- a lot's data: whole numbers -/
theorem lotOk_ints {n : Int} {d : PyData} (h : lotOk n d = true) : ∃ ns : List Int, d = .tuple (ns.map .int) ∧ ∀ z ∈ ns, 0 ≤ z ∧ z ≤ n - 1 := by
  cases d with
  | tuple ds =>
    have h1 := (Bool.and_eq_true_iff.mp h).1
    rw [List.all_eq_true] at h1
    refine ⟨ds.map iv, ?_, fun z hz => ?_⟩
    · rw [List.map_map]
      congr 1
      refine (List.map_id ds).symm.trans (List.map_congr_left fun x hx => ?_)
      obtain ⟨i, rfl, _⟩ := isB_bd (h1 x hx)
      rfl
    · obtain ⟨x, hx, rfl⟩ := List.mem_map.mp hz
      obtain ⟨i, rfl, g0, g1⟩ := isB_bd (h1 x hx)
      exact ⟨g0, g1⟩
  | _ => cases h
theorem dq_tupI {H : Hp} {v : V} {ns : List Int} (h : Dq H v (.tuple (ns.map .int))) : ∃ a, v = .ref a ∧ H a = some (.tup (ns.map V.int)) := by
  generalize e : PyData.tuple (ns.map .int) = d at h
  cases h with
  | @tup a xs ds ea q =>
    cases e
    refine ⟨a, rfl, ?_⟩
    have : xs = ns.map V.int := by
      clear ea
      induction ns generalizing xs with
      | nil => cases q; rfl
      | cons n ns ih =>
        cases q with
        | cons q1 q2 =>
          cases q1
          rw [ih q2]
          rfl
    rw [← this]
    exact ea
  | _ => cases e
theorem inV_mem (r : Int) (ns : List Int) : inV (.int r) (ns.map V.int) = decide (r ∈ ns) := inV_ints r ns
theorem asc_iff : ∀ ns : List Int, asc ns = true ↔ ∀ (j : Nat) (x y : Int), ns[j]? = some x → ns[j + 1]? = some y → x < y
  | [] => by simp [asc]
  | [_] => by simp [asc]
  | x :: y :: r => by
    show (decide (x < y) && asc (y :: r)) = true ↔ _
    rw [Bool.and_eq_true, asc_iff (y :: r), decide_eq_true_eq]
    constructor
    · rintro ⟨h1, h2⟩ j u v hu hv
      cases j with
      | zero =>
        have e1 : x = u := Option.some.inj hu
        have e2 : y = v := Option.some.inj hv
        omega
      | succ j => exact h2 j u v hu hv
    · intro h
      exact ⟨h 0 x y rfl rfl, fun j u v hu hv => h (j + 1) u v hu hv⟩
theorem cut_one (xs : List V) : cutV xs (some 1) none = xs.drop 1 := by
  unfold cutV
  have e1 : HT.sIx xs.length 0 (some 1) = min 1 xs.length := HT.sIx_nat _ _ 1
  rw [e1, HT.sIx_none]
  cases xs with
  | nil => rfl
  | cons x r =>
    have e2 : min 1 (x :: r).length = 1 := by simp
    rw [e2]
    show List.take ((r.length + 1) - 1) r = r
    rw [Nat.add_sub_cancel]
    exact List.take_length
/-- v, v[1:] as arguments -/
theorem zip_args {K : PySem.W.Frag} {i : Nat} {a : Addr} {xs : List V} {σ : L2.St} {H : Hp} {Q : List V → Hp → Prop} (hv : σ[i]? = some (some (.ref a))) (hx : H a = some (.tup xs))
    (h : ∀ (b : Addr) (H3 : Hp), Same H H3 → H3 b = some (.tup (xs.drop 1)) → Q [.ref a, .ref b] H3) : tCons (tVar i) (tCons (tSl (rSlA K) (tVar i) (tPart (tC (.int 1))) tNoPart) tNil) σ H Q :=
  ⟨.ref a, hv, .ref a, hv, 1, rfl, a, xs, rfl, SqT.of hx, fun w => h a H (Same.refl _) (by
    have e1 : HT.sIx xs.length 0 (some 1) = min 1 xs.length := HT.sIx_nat _ _ 1
    have h0 := w.1
    rw [e1] at h0
    have : xs = [] := List.length_eq_zero_iff.mp (by omega)
    subst this
    exact hx), fun _ p np => by
    rw [cut_one]
    exact h p _ (same_new np) upd_same⟩
theorem weight_len : ∀ ds : List PyData, ds.length ≤ PyData.weightAll ds
  | [] => Nat.zero_le _
  | d :: ds => by
    have := weight_len ds
    simp only [PyData.weightAll, List.length_cons]
    omega
theorem weight_mem : ∀ (ds : List PyData) (d : PyData), d ∈ ds → d.weight ≤ PyData.weightAll ds
  | e :: ds, d, h => by
    simp only [PyData.weightAll]
    rcases List.mem_cons.mp h with h | h
    · rw [h]; omega
    · have := weight_mem ds d h
      omega
theorem weight_tup {ds : List PyData} {n : Nat} (h : (PyData.tuple ds).weight ≤ n) : ds.length ≤ n ∧ ∀ d ∈ ds, d.weight ≤ n := by
  simp only [PyData.weight] at h
  exact ⟨Nat.le_trans (weight_len ds) h, fun d hd => Nat.le_trans (weight_mem ds d hd) h⟩
theorem dqa_isB {H : Hp} {n : Int} : ∀ {xs : List V} {ds : List PyData}, DqA H xs ds → ds.all (fun d => isB d 0 (n - 1)) = true → ∃ ns : List Int, xs = ns.map V.int ∧ ds.map iv = ns
  | _, _, .nil, _ => ⟨[], rfl, rfl⟩
  | _, _, .cons h t, ha => by
    rw [List.all_cons, Bool.and_eq_true] at ha
    obtain ⟨ns, e1, e2⟩ := dqa_isB t ha.2
    obtain ⟨i, rfl, _⟩ := isB_bd ha.1
    cases h
    exact ⟨i :: ns, by rw [e1]; rfl, by rw [List.map_cons, e2]; rfl⟩
theorem dq3 {H : Hp} {v : V} {l x y : PyData} (h : Dq H v (.tuple [l, x, y])) : ∃ a u1 u2 u3, v = .ref a ∧ H a = some (.tup [u1, u2, u3]) ∧ Dq H u1 l ∧ Dq H u2 x ∧ Dq H u3 y := by
  cases h with
  | tup e q =>
    cases q with
    | cons q1 q =>
      cases q with
      | cons q2 q =>
        cases q with
        | cons q3 q =>
          cases q
          exact ⟨_, _, _, _, rfl, e, q1, q2, q3⟩
theorem is3 {d : PyData} (h : isT d 3 = true) : ∃ l x y, d = .tuple [l, x, y] := by
  cases d with
  | tuple ds =>
    have h1 : (ds.length : Int) = 3 := of_decide_eq_true h
    match ds, h1 with
    | [l, x, y], _ => exact ⟨l, x, y, rfl⟩
    | [], h => cases h
    | [_], h => simp at h
    | [_, _], h => simp at h
    | _ :: _ :: _ :: _ :: r, h => simp at h; omega
  | _ => cases h
theorem not3 {n : Int} {d : PyData} (h : isT d 3 = false) : deedErr n d = eForm := by
  cases d with
  | tuple ds =>
    match ds, h with
    | [l, x, y], h => cases h
    | [], _ => rfl
    | [_], _ => rfl
    | [_, _], _ => rfl
    | _ :: _ :: _ :: _ :: _, _ => rfl
  | _ => rfl
end Kr
namespace Kr
open PySem PySem.Spec PyProof.Rows L2
/-- two ways of an expression that meet again -/
theorem ifE_join {c : Prop} [Decidable c] {a b : TE} {σ τ : L2.St} {Ha Hb : Hp} {Q : VK} (R : V → Hp → Prop) (h : ∀ v G, R v G → Q v G) (hA : c → ∀ Q' : VK, (∀ v G, R v G → Q' v G) → a σ Ha Q') (hB : ¬ c → ∀ Q' : VK, (∀ v G, R v G → Q' v G) → b τ Hb Q') : if c then a σ Ha Q else b τ Hb Q :=
  ite2 (fun k => hA k Q h) fun k => hB k Q h
/-- two ways of a statement that meet again, none of which ends the def -/
theorem ifS_join {c : Prop} [Decidable c] {a b : L2.TS} {D : Ends} {σ τ : L2.St} {Ha Hb : Hp} (R : L2.St → Hp → Prop) (h : ∀ σ G, R σ G → D.nx σ G) (hA : c → ∀ D' : Ends, (∀ σ G, R σ G → D'.nx σ G) → a D' σ Ha) (hB : ¬ c → ∀ D' : Ends, (∀ σ G, R σ G → D'.nx σ G) → b D' τ Hb) : if c then a D σ Ha else b D τ Hb :=
  ite2 (fun k => hA k D h) fun k => hB k D h
end Kr
namespace Kr
open PySem PySem.Spec PyProof.Rows L2
section
variable {P : Program} {w : World} {K : PySem.W.Frag} {mg : Str → Option Value} {base : Heap}
abbrev nMw : List Str := ["deck", "items", "left", "found"]
theorem scMixW : FnScope nMw ["deck", "items"] (defScope sMixed) := ⟨rfl, rfl, rfl, by decide +kernel, rfl, by decide +kernel, by decide +kernel⟩
theorem o_mixed (D : Df K mg "_law_mixed" sMixed ["deck", "items"]) (B : Bi mg) (d : Ok P w K mg base 1 "_law_draw" ["deck", "many"] spDraw) : Ok P w K mg base 2 "_law_mixed" ["deck", "items"] spMixV := by
  refine D.ok fun fa fd F => F.ok scMixW (fun vs H Q E h => ?_) (fun cdv A outer s H vs Q E hr h => ?_)
  · obtain ⟨p, l, a, xs, rfl, _⟩ := h
    rfl
  · obtain ⟨p, l, a, xs, rfl, Dk, ha, hlen, q⟩ := h
    have hu : (cxOf CX0 P w K mg base nMw "_law_mixed" (defScope sMixed) fa cdv A outer s H E).A.units + 64 < cLine := hr.units
    refine ⟨_, pss_cons (ps_par (i := 2) (j := 3) rfl scMixW.nd rfl rfl (by decide) rfl rfl (pa_cons (pe_callTy call_list_of (by rfl) B.list (by decide +kernel) (pa_cons (pv 1) pa_nil)) (pa_cons (pe_lst pa_nil) pa_nil)) (by rfl))
      (pss_cons (ps_while PassesOwn.never (pt_cmpR (op_neN hu) (pv 2) (pe_lst pa_nil) (nomark _))
        (pss_one (ps_expr (pe_bm PySem.F.plainAttrs_list PySem.F.slot_list_append PySem.F.type_list_append mt_append (pv 3) (pa_cons
          (pe_bm PySem.F.plainAttrs_list PySem.F.slot_list_pop PySem.F.type_list_pop mt_popAt (pv 2) (pa_cons (pe_fn d hr (by rfl) (pa_cons (pv 0) (pa_cons (pe_callB call_len_seq (by rfl) B.len boot_len (pa_cons (pv 2) pa_nil)) pa_nil))) pa_nil)) pa_nil)))))
      (pss_one (ps_ret (pv 3)))), ?_⟩
    refine ⟨.ref a, rfl, a, _, rfl, .inl (SqL.of (hid_same p l H _ _ ha)), fun lf nlf => ?_⟩
    obtain ⟨nlp, nll⟩ := Dk.new nlf
    obtain ⟨e1, D1, _⟩ := new_dq (o := .lst xs) Dk nlf
    refine ⟨by show 0 ≤ sizeLine; decide, fun f nf => ?_⟩
    obtain ⟨nfp, nfl⟩ := D1.new nf
    have nff : f ≠ lf := fun z => by rw [z, upd_same] at nf; cases nf
    have nf0 : H f = none := by rw [upd_ne nff] at nf; exact nf
    obtain ⟨e2, D2, _⟩ := new_dq (o := .lst []) D1 nf
    refine ⟨_, _, rfl, ?_⟩
    refine while_by (fun σ H6 => ∃ (zs ys : List V), σ = [some (.ref p), some (.ref a), some (.ref lf), some (.ref f)] ∧ Deck H6 p l ∧ Ext p l H H6 ∧ H6 lf = some (.lst zs) ∧ H6 f = some (.lst ys) ∧ (ys ++ zs).Perm xs)
      (fun σ H6 => match H6 lf with | some (.lst zs) => zs.length | _ => 0) ⟨xs, [], rfl, D2, e1.trans e2, by rw [upd_ne nff.symm, upd_same], upd_same, .refl _⟩ ?_ ?_
    · rintro σ H6 ⟨zs, ys, rfl, D6, E6, hz, hy, hp⟩
      have hll := hp.length_eq
      rw [List.length_append] at hll
      refine ⟨.ref lf, rfl, by show 0 ≤ sizeLine; decide, fun c nc => ?_⟩
      have ncl : c ≠ lf := (ne_of_none hz nc).symm
      have ncf : c ≠ f := (ne_of_none hy nc).symm
      obtain ⟨e7, D7, _⟩ := new_dq (o := .lst []) D6 nc
      have hz7 : upd H6 c (.lst []) lf = some (.lst zs) := by rw [upd_ne ncl.symm]; exact hz
      have hy7 : upd H6 c (.lst []) f = some (.lst ys) := by rw [upd_ne ncf.symm]; exact hy
      have E7 := E6.trans e7
      refine ⟨lf, c, zs, rfl, rfl, hz7, upd_same, _, rfl, ?_⟩
      generalize upd H6 c (.lst []) = H7 at D7 E7 hz7 hy7
      cases zs with
      | nil => exact iteF ⟨.ref f, rfl, q H7 f ys D7 E7 nf0 (by rw [hid_ne nfp nfl]; exact hy7) (by rw [List.append_nil] at hp; exact hp)⟩
      | cons z0 zr =>
        refine iteT ?_
        generalize hzz : z0 :: zr = zs at hz7 hp hll hz
        have hpos : 0 < zs.length := by rw [← hzz]; simp
        refine ⟨.ref f, rfl, .inl ⟨rfl, _, SqL.of hy7⟩, .ref lf, rfl, .inl ⟨rfl, _, SqL.of hz7⟩, .ref p, rfl, .ref lf, rfl, lf, _, rfl, .inl (SqL.of hz7), p, l, _, rfl, D7, by omega, fun H8 r D8 E8 h0 h1 => ?_⟩
        have hr : r.toNat < zs.length := by omega
        have hz8 : H8 lf = some (.lst zs) := (hid_some (E8 lf _ (by rw [hid_ne nlp nll]; exact hz7))).2.2
        have hy8 : H8 f = some (.lst ys) := (hid_some (E8 f _ (by rw [hid_ne nfp nfl]; exact hy7))).2.2
        have E9 := E7.trans E8
        refine ⟨lf, zs, r, r.toNat, zs[r.toNat], rfl, rfl, hz8, by omega, by omega, seqIx h0 (by omega), List.getElem?_eq_getElem hr, ?_⟩
        refine ⟨f, ys, zs[r.toNat], rfl, rfl, by rw [upd_ne nff]; exact hy8, szl (by omega), ?_⟩
        refine ⟨⟨zs.eraseIdx r.toNat, ys ++ [zs[r.toNat]], rfl, (D8.mut nlp nll).mut nfp nfl, Ext.mut (Ext.mut E9 nlf) nf0, ?_, ?_, ?_⟩, ?_⟩
        · rw [upd_ne nff.symm, upd_same]
        · rw [upd_same]
        · rw [List.append_assoc]
          exact (List.Perm.append_left ys (erasev_perm zs hr)).trans hp
        · show (match upd (upd H8 lf _) f _ lf with | some (.lst zs) => zs.length | _ => 0) < (match H6 lf with | some (.lst zs) => zs.length | _ => 0)
          rw [upd_ne nff.symm, upd_same, hz]
          show (zs.eraseIdx r.toNat).length < zs.length
          rw [List.length_eraseIdx, if_pos hr]
          omega
    · rintro σ H6 Q1 Q2 hq ⟨x, hx, hs, g⟩
      refine ⟨x, hx, hs, fun c nc => ?_⟩
      obtain ⟨l', b, ws, i1, i2, i3, i4, kk, i5, i6⟩ := g c nc
      exact ⟨l', b, ws, i1, i2, i3, i4, kk, i5, hq _ _ i6⟩
end
end Kr
namespace Kr
open PySem PySem.Spec PyProof.Rows L2
def spDeed7 : Sp := fun vs H Q _ => ∃ (p l : Addr) (n : Nat), vs = [.ref p, .int (n : Int)] ∧ Deck H p l ∧ 3 ≤ n ∧ n ≤ 24 ∧ ∀ H' v (d : Mv), Deck H' p l → Ext p l H H' → Dq H' v (deedD d) → Deed n d → Q v H'
theorem ints_of {ys : List V} {us : List Int} (hp : ys.Perm (us.map V.int)) : ∃ zs : List Int, ys = zs.map V.int ∧ zs.Perm us := by
  have hy : ∀ y ∈ ys, ∃ z, V.int z = y := fun y hy => by
    obtain ⟨z, _, e⟩ := List.mem_map.mp (hp.subset hy)
    exact ⟨z, e⟩
  have hg : ∀ ys : List V, (∀ y ∈ ys, ∃ z, V.int z = y) → ∃ zs : List Int, ys = zs.map V.int := by
    intro ys
    induction ys with
    | nil => intro _; exact ⟨[], rfl⟩
    | cons y ys ih =>
      intro h
      obtain ⟨z, rfl⟩ := h y List.mem_cons_self
      obtain ⟨zs, rfl⟩ := ih fun y hy => h y (List.mem_cons_of_mem _ hy)
      exact ⟨z :: zs, rfl⟩
  obtain ⟨zs, rfl⟩ := hg ys hy
  refine ⟨zs, rfl, ?_⟩
  have := hp.map (fun v => match v with | V.int z => z | _ => 0)
  simpa [List.map_map, Function.comp_def] using this
section
variable {P : Program} {w : World} {K : PySem.W.Frag} {mg : Str → Option Value} {base : Heap}
abbrev nDd : List Str := ["deck", "many", "row", "size"]
theorem scDd : FnScope nDd ["deck", "many"] (defScope sDeed) := ⟨rfl, rfl, rfl, by decide +kernel, rfl, by decide +kernel, by decide +kernel⟩
theorem o_deed7 (D0 : Df K mg "_law_deed" sDeed ["deck", "many"]) (B : Bi mg) (dr : Ok P w K mg base 1 "_law_draw" ["deck", "many"] spDraw) (mx : Ok P w K mg base 2 "_law_mixed" ["deck", "items"] spMixV) (pk : Ok P w K mg base 2 "_law_pick" ["deck", "items"] spPick) : Ok P w K mg base 3 "_law_deed" ["deck", "many"] spDeed7 := by
  refine D0.ok fun f fd F => F.ok scDd (fun vs H Q E h => ?_) (fun cdv A outer s H vs Q E hr h => ?_)
  · obtain ⟨p, l, n, rfl, _⟩ := h
    rfl
  · obtain ⟨p, l, n, rfl, Dk, n0, n1, q⟩ := h
    have hr1 := hr.mono (show 1 ≤ 2 by decide)
    refine ⟨_, pss_cons (ps_set (i := 2) scDd.nd rfl (.inl rfl) (pe_fn mx hr (by rfl) (pa_cons (pv 0) (pa_cons (pe_listRg rfl (by rfl) B.list (prg_1 (by rfl) B.range (pv 1))) pa_nil))))
      (pss_cons (ps_set (i := 3) scDd.nd rfl (.inl rfl) (pe_fn pk hr (by rfl) (pa_cons (pv 0) (pa_cons (pe_lst (pa_cons pe_int (pa_cons pe_int (pa_cons pe_int (pa_cons pe_int (pa_cons (pe_fn dr hr1 (by rfl) (pa_cons (pv 0) (pa_cons (pe_op op_sub (pv 1) pe_int) pa_nil))) pa_nil)))))) pa_nil))))
      (pss_one (ps_ret (pe_tup (pa_cons (pe_callTy call_tuple_of (by rfl) B.tuple (by decide +kernel) (pa_cons (pe_callB cr_sortedI (by rfl) B.sorted (by decide +kernel) (pa_cons (pe_slice sl_list (pv 2) (po_some pe_int) (po_some (pe_op op_add pe_int (pv 3)))) pa_nil)) pa_nil)) (pa_cons (pe_callB (cr_min rfl) (by rfl) B.min (by decide +kernel) (pa_cons (pe_slice sl_list (pv 2) po_none (po_some pe_int)) pa_nil)) (pa_cons (pe_callB (cr_max rfl) (by rfl) B.max (by decide +kernel) (pa_cons (pe_slice sl_list (pv 2) po_none (po_some pe_int)) pa_nil)) pa_nil))))))), ?_⟩
    refine ⟨.ref p, rfl, .int n, rfl, (n : Int), rfl, RgOk.of_le (Int.le_refl _) (by omega) (by decide) (by omega), fun b nb => ?_⟩
    rw [rg_ups]
    obtain ⟨e4, D4, hid4⟩ := new_dq (o := .lst ((ups n).map V.int)) Dk nb
    have hul : (ups n).length = n := by unfold ups; rw [List.length_map, List.length_range]
    refine ⟨p, l, b, _, rfl, D4, hid4, by rw [List.length_map, hul]; omega, fun H5 f5 ys D5 E5 nf5 hf hp => ?_⟩
    obtain ⟨zs, rfl, hpz⟩ := ints_of hp
    have hzl : zs.length = n := by rw [hpz.length_eq, hul]
    have hz0 : ∀ z ∈ zs, ∃ k : Nat, z = (k : Int) := fun z hz => by
      have := hpz.subset hz
      unfold ups at this
      obtain ⟨k, _, e⟩ := List.mem_map.mp this
      exact ⟨k, e.symm⟩
    obtain ⟨nfp, nfl, hf5⟩ := hid_some hf
    have E15 : Ext p l H H5 := Same.trans e4 E5
    clear hid4 D4 e4 nb E5
    dsimp only [tNext]
    refine ⟨.ref p, rfl, .ref p, rfl, .int n, rfl, _, _, rfl, rfl, p, l, (n : Int) - 1, rfl, D5, by omega, fun H6 z D6 E6 z0 z1 => ⟨by show 5 ≤ sizeLine; decide, fun A0 nA0 => ?_⟩⟩
    obtain ⟨nAp, nAl⟩ := D6.new nA0
    have s6 := same_new (o := .lst [.int 0, .int 1, .int 1, .int 2, .int z]) nA0
    refine ⟨p, l, A0, _, rfl, D6.up s6, by rw [hid_ne nAp nAl]; exact upd_same, by simp, by show 5 < 1000000; decide, fun H7 v D7 E7 hv => ?_⟩
    have hf7 := E7.at_ nfp nfl (s6 _ _ (E6.at_ nfp nfl hf5))
    have E17 : Ext p l H H7 := Same.trans (Same.trans (Same.trans E15 E6) (Ext.of s6)) E7
    obtain ⟨sz', rfl⟩ : ∃ k : Nat, v = .int (k : Int) := by
      simp only [List.mem_cons, List.not_mem_nil, or_false] at hv
      rcases hv with rfl | rfl | rfl | rfl | rfl
      · exact ⟨0, rfl⟩
      · exact ⟨1, rfl⟩
      · exact ⟨1, rfl⟩
      · exact ⟨2, rfl⟩
      · exact ⟨z.toNat, by rw [Int.toNat_of_nonneg z0]⟩
    dsimp only [tNext]
    refine ⟨.ref f5, rfl, (2 : Int), rfl, .int sz', rfl, _, _, rfl, rfl, (2 : Int) + sz', rfl, f5, _, rfl, SqL.of hf7, fun c nc => ?_⟩
    have e1 : cutV (zs.map V.int) (some 2) (some ((2 : Int) + sz')) = ((zs.drop 2).take (min (2 + sz') n - 2)).map V.int := by
      unfold cutV
      rw [show ((2 : Int) + sz') = ((2 + sz' : Nat) : Int) by omega, HT.sIx_nat, show HT.sIx (zs.map V.int).length 0 (some 2) = min 2 (zs.map V.int).length from HT.sIx_nat _ _ 2, List.length_map, hzl, Nat.min_eq_left (show 2 ≤ n by omega), ← List.map_drop, ← List.map_take]
    rw [e1]
    have s1 := same_new (o := .lst (((zs.drop 2).take (min (2 + sz') n - 2)).map V.int)) nc
    refine ⟨c, (zs.drop 2).take (min (2 + sz') n - 2), rfl, SqL.of upd_same, fun ws d hpw hso nd => ?_⟩
    have s2 := s1.trans (same_new (o := .lst (ws.map V.int)) nd)
    obtain ⟨ds, rfl, hds⟩ := drawn_piece hpz ((List.take_sublist _ _).trans (List.drop_sublist _ _)) hpw hso
    refine ⟨d, _, rfl, .inl ⟨SqL.of upd_same, fun t nt => ?_⟩⟩
    have s3 := s2.trans (same_new (o := .tup ((ds.map fun (x : Nat) => (x : Int)).map V.int)) nt)
    have ht : upd (upd (upd H7 c (.lst (((zs.drop 2).take (min (2 + sz') n - 2)).map V.int))) d (.lst ((ds.map fun (x : Nat) => (x : Int)).map V.int))) t (.tup ((ds.map fun (x : Nat) => (x : Int)).map V.int)) t = some (.tup (lv ds)) := by
      rw [upd_same, List.map_map]
      rfl
    generalize upd (upd (upd H7 c (.lst (((zs.drop 2).take (min (2 + sz') n - 2)).map V.int))) d (.lst ((ds.map fun (x : Nat) => (x : Int)).map V.int))) t (.tup ((ds.map fun (x : Nat) => (x : Int)).map V.int)) = G1 at s3 ht
    have ec : cutV (zs.map V.int) none (some 2) = (zs.take 2).map V.int := by
      rw [show (2 : Int) = ((2 : Nat) : Int) from rfl, cut_to (by rw [List.length_map]; omega), ← List.map_take]
    have ht2 : (zs.take 2).length = 2 := by rw [List.length_take]; omega
    refine ⟨.ref f5, rfl, (2 : Int), rfl, f5, _, rfl, SqL.of (s3 _ _ hf7), fun c2 nc2 => ?_⟩
    rw [ec]
    have s4 := same_new (o := .lst ((zs.take 2).map V.int)) nc2
    have hnd : zs.Nodup := hpz.symm.nodup (List.Pairwise.map _ (fun a b (h : a < b) => by show ((a : Nat) : Int) ≠ b; omega) List.pairwise_lt_range)
    obtain ⟨x0, x1, rr, rfl⟩ : ∃ x0 x1 rr, zs = x0 :: x1 :: rr := by
      match zs, hzl with
      | x0 :: x1 :: rr, _ => exact ⟨x0, x1, rr, rfl⟩
      | [_], h => exact absurd h (by simp; omega)
      | [], h => exact absurd h (by simp; omega)
    have hb : ∀ z ∈ x0 :: x1 :: rr, 0 ≤ z ∧ z < n := fun z hz => by
      have := hpz.subset hz
      unfold ups at this
      obtain ⟨k, hk, rfl⟩ := List.mem_map.mp this
      have := List.mem_range.mp hk
      omega
    refine ⟨c2, [x0, x1], rfl, SqL.of upd_same, Nat.succ_pos _, fun m1 hm1 hl1 => ⟨.ref f5, rfl, (2 : Int), rfl, f5, _, rfl, SqL.of (s4 _ _ (s3 _ _ hf7)), fun c3 nc3 => ?_⟩⟩
    rw [ec]
    have s5 := s4.trans (same_new (o := .lst ([x0, x1].map V.int)) nc3)
    refine ⟨c3, [x0, x1], rfl, SqL.of upd_same, Nat.succ_pos _, fun m2 hm2 hl2 => ⟨by show 3 ≤ sizeLine; decide, fun r nr => ?_⟩⟩
    obtain ⟨k1, rfl⟩ := hz0 m1 (by
      simp only [List.mem_cons, List.not_mem_nil, or_false] at hm1
      rcases hm1 with rfl | rfl <;> simp)
    obtain ⟨k2, rfl⟩ := hz0 m2 (by
      simp only [List.mem_cons, List.not_mem_nil, or_false] at hm2
      rcases hm2 with rfl | rfl <;> simp)
    have s6' := s5.trans (same_new (o := .tup [.ref t, .int (k1 : Int), .int (k2 : Int)]) nr)
    have sA := s3.trans s6'
    obtain ⟨n0', n1'⟩ := List.nodup_cons.mp hnd
    obtain ⟨n2', _⟩ := List.nodup_cons.mp n1'
    have hin : ∀ x ∈ ds, (x : Int) ∈ rr := fun x hx => by
      have h1 := hpw.subset (List.mem_map.mpr ⟨x, hx, rfl⟩)
      exact List.mem_of_mem_take h1
    have h01 : x0 ≠ x1 := fun z => n0' (by rw [z]; simp)
    have a1 := hl1 x0 (by simp)
    have a2 := hl1 x1 (by simp)
    have a3 := hl2 x0 (by simp)
    have a4 := hl2 x1 (by simp)
    have b0 := hb x0 (by simp)
    have b1 := hb x1 (by simp)
    simp only [List.mem_cons, List.not_mem_nil, or_false] at hm1 hm2 n0'
    refine q _ _ (ds, k1, k2) (D7.up sA) (Same.trans E17 (Ext.of sA)) (.tup upd_same (.cons (lot_at (s6' _ _ ht)) (.cons (.int _) (.cons (.int _) .nil)))) ⟨hds, ?_, ?_, fun z => ?_, fun z => ?_⟩
    · show k1 < k2
      omega
    · show k2 < n
      omega
    · have := hin _ z
      rcases hm1 with e | e
      · rw [e] at this
        exact n0' (.inr this)
      · rw [e] at this
        exact n2' this
    · have := hin _ z
      rcases hm2 with e | e
      · rw [e] at this
        exact n0' (.inr this)
      · rw [e] at this
        exact n2' this
end
end Kr
namespace Kr
open PySem PySem.Spec PyProof.Rows L2
def spNear : Sp := fun vs H Q _ => ∃ (S : List Addr) (p l : Addr) (v : V) (many : Nat) (m : Mv), vs = [.ref p, .int (many : Int), v] ∧ Wl S p l H ∧ Dq (hidS S H) v (deedD m) ∧ Deed many m ∧ many ≤ 24 ∧
  ∀ H' r d', Wl S p l H' → Ext p l H H' → Dq (hidS S H') r d' → Vd 3 d' → Q r H'
theorem lot_last {S : List Addr} {p l : Addr} {σ : L2.St} {H : Hp} {K : PySem.W.Frag} {j : Nat} {v : V} {ds : List PyData} {tb : TE} {i : Int} (hj : σ[j]? = some (some v)) (hd : Dq (hidS S H) v (.tuple ds)) (h0 : ∀ d ∈ ds, Vd 0 d) (hn : ds.length ≤ 24) (hb : EvN tb σ i) : EvQ S p l (tOp (rCatA K) (tVar j) (tSl (rSlA K) (tVar j) (tPart tb) tNoPart)) σ H (Vd 2) :=
  (evq_catT (T := Vd 0) (n := 24) (m := 24) (evq_varT hj hd h0 hn) (evq_sl (evq_varT hj hd h0 hn) (part_n hb) part_0) (by decide)).mono fun d h => (h.vd (by decide)).mono (by decide)
theorem gd_last {S : List Addr} {p l : Addr} {σ : L2.St} {H : Hp} {K : PySem.W.Frag} {j : Nat} {R : PyData → Prop} {tb : TE} (h : EvQ S p l (tOp (rCatA K) (tVar j) (tSl (rSlA K) (tVar j) (tPart tb) tNoPart)) σ H R) : EvQ S p l (tOp (rCatA K) (tVar j) (tSl (rSlA K) (tVar j) (tPart tb) tNoPart)) σ H R := h
section
variable {P : Program} {w : World} {K : PySem.W.Frag} {mg : Str → Option Value} {base : Heap}
local macro_rules | `(tactic| walk_at "evn") => `(tactic| first | (with_reducible exact en_c) | (with_reducible apply en_add) <;> walk_at "evn" | (with_reducible apply en_sub) <;> walk_at "evn" | (with_reducible apply en_neg) <;> walk_at "evn" | exact en_v rfl)
local macro_rules | `(tactic| walk_at "evd") => `(tactic| first
  | (with_reducible exact eqa_nil)
  | (with_reducible refine eqa_cons ?_ ?_)
  | (with_reducible apply evq_str) <;> exact vd_s (by decide +kernel)
  | (with_reducible apply evq_bl) <;> exact vd_b
  | (with_reducible apply evq_non) <;> exact vd_n
  | (with_reducible apply evq_dic) <;> exact (Vd.mono Vd.dic (by omega))
  | (with_reducible refine evq_tup0 ?_)
  | (with_reducible refine evq_tup1 ?_)
  | (with_reducible refine evq_tup2 ?_)
  | (with_reducible refine evq_tup3 ?_)
  | (with_reducible refine evq_tup4 ?_)
  | (with_reducible refine evq_tup5 ?_)
  | (with_reducible refine evq_lst0 ?_)
  | (with_reducible refine evq_lst1 ?_)
  | (with_reducible refine evq_lst2 ?_)
  | (with_reducible refine evq_lst3 ?_)
  | (with_reducible refine evq_lst4 ?_)
  | (with_reducible refine evq_lst5 ?_)
  | (with_reducible apply evq_eqb) <;> walk_at "evn"
  | walk_at "evx"
  | (with_reducible exact evq_30)
  | (with_reducible exact evq_31)
  | exact evq_n (by walk_at "evn") (vd_i (by omega) (by omega))
  | ((with_reducible refine gd_var ?_); exact evq_var rfl (by assumption) (Vd.mono (by assumption) (by omega)))
  | ((with_reducible refine gd_cb ?_); exact evq_strI (by walk_at "evn") (by omega))
  | ((with_reducible refine gd_cb ?_); exact evq_listOf rfl (by assumption) (Vd.lt (Vd.mono (by assumption) (by omega))))
  | ((with_reducible refine gd_rev ?_); exact evq_rev rfl (by assumption) (Vd.rv (Vd.mono (by assumption) (by omega)))))
local macro_rules | `(tactic| walk_at "evx") => `(tactic| ((with_reducible refine gd_last ?_); exact lot_last rfl (by assumption) (by assumption) (by assumption) (by walk_at "evn")))
abbrev n_lNear : List Str := ["deck", "many", "deed", "lot", "a", "b", "odd"]
theorem sc_lNear : FnScope n_lNear ["deck", "many", "deed"] (defScope sLNearDeed) := ⟨rfl, rfl, rfl, by decide +kernel, rfl, by decide +kernel, by decide +kernel⟩
theorem o_lNear (D0 : Df K mg "_law_near_deed" sLNearDeed ["deck", "many", "deed"]) (B : Bi mg) (pk : Ok P w K mg base 2 "_law_pick" ["deck", "items"] spPick) : Ok P w K mg base 3 "_law_near_deed" ["deck", "many", "deed"] spNear := by
  refine D0.ok fun f fd F => F.ok sc_lNear (fun vs H Q E h => ?_) (fun cdv A outer s H vs Q E hr h => ?_)
  · obtain ⟨_, _, _, _, _, _, rfl, _⟩ := h
    rfl
  · obtain ⟨S, p, l, v, many, m, rfl, w0, hd, hm, hmn, q⟩ := h
    have hr_pk := hr.mono (show 2 ≤ 2 by omega)
    have hu : (cxOf CX0 P w K mg base n_lNear "_law_near_deed" (defScope sLNearDeed) f cdv A outer s H E).A.units + 64 < cLine := hr.units
    have hu1 := hu_of hr
    refine ⟨_, pss_cons (ps_asg (pv 2) (pg_tup rfl (pgs_cons (pg_name (i := 3) sc_lNear.nd rfl (.inl rfl)) (pgs_cons (pg_name (i := 4) sc_lNear.nd rfl (.inl rfl)) (pgs_cons (pg_name (i := 5) sc_lNear.nd rfl (.inl rfl)) pgs_nil)))))
      (pss_cons (ps_set (i := 6) sc_lNear.nd rfl (.inl rfl) (pe_lst (pa_cons (pe_tup (pa_cons (pv 3) (pa_cons pe_bl (pa_cons pe_bl pa_nil)))) (pa_cons (pe_tup (pa_cons (pv 3) (pa_cons (pv 4) (pa_cons (pe_cmpR op_eq (pv 5) pe_int (nomark _)) pa_nil)))) (pa_cons (pe_tup (pa_cons (pv 3) (pa_cons (pe_cmpR op_eq (pv 4) pe_int (nomark _)) (pa_cons (pv 5) pa_nil)))) (pa_cons (pe_tup (pa_cons (pe_tup (pa_cons pe_bl pa_nil)) (pa_cons (pv 4) (pa_cons (pv 5) pa_nil)))) (pa_cons (pe_tup (pa_cons (pe_tup (pa_cons pe_bl pa_nil)) (pa_cons (pv 4) (pa_cons (pv 5) pa_nil)))) (pa_cons (pe_tup (pa_cons (pe_lst (pa_cons pe_int pa_nil)) (pa_cons pe_int (pa_cons pe_int pa_nil)))) pa_nil))))))))
      (pss_cons (ps_set (i := 6) sc_lNear.nd rfl (.inl rfl) (pe_op op_cat (pv 6) (pe_lst (pa_cons (pe_tup (pa_cons (pe_callTy call_list_of (by rfl) B.list (by decide +kernel) (pa_cons (pv 3) pa_nil)) (pa_cons (pv 4) (pa_cons (pv 5) pa_nil)))) (pa_cons (pe_tup (pa_cons (pe_op op_catA (pv 3) (pe_slice sl_tupA (pv 3) (po_some (pe_un un_neg pe_int)) po_none)) (pa_cons (pv 4) (pa_cons (pv 5) pa_nil)))) (pa_cons (pe_tup (pa_cons (pe_tup (pa_cons (pv 4) pa_nil)) (pa_cons (pv 4) (pa_cons (pv 5) pa_nil)))) (pa_cons (pe_tup (pa_cons (pe_tup (pa_cons (pv 5) pa_nil)) (pa_cons (pv 4) (pa_cons (pv 5) pa_nil)))) (pa_cons (pe_tup (pa_cons (pv 3) (pa_cons (pv 4) (pa_cons (pv 4) pa_nil)))) (pa_cons (pe_tup (pa_cons (pv 3) (pa_cons (pe_un un_neg pe_int) (pa_cons (pv 5) pa_nil)))) pa_nil)))))))))
      (pss_cons (ps_set (i := 6) sc_lNear.nd rfl (.inl rfl) (pe_op op_cat (pv 6) (pe_lst (pa_cons (pe_tup (pa_cons (pv 3) (pa_cons (pv 4) (pa_cons pe_non pa_nil)))) (pa_cons (pe_tup (pa_cons (pv 3) (pa_cons (pe_callTy call_str_int (by rfl) B.str (by decide +kernel) (pa_cons (pv 4) pa_nil)) (pa_cons (pv 5) pa_nil)))) (pa_cons (pe_tup (pa_cons (pe_tup (pa_cons (pe_un un_neg pe_int) pa_nil)) (pa_cons (pv 4) (pa_cons (pv 5) pa_nil)))) (pa_cons (pe_tup (pa_cons (pe_tup (pa_cons pe_non pa_nil)) (pa_cons (pv 4) (pa_cons (pv 5) pa_nil)))) (pa_cons (pe_tup (pa_cons (pv 3) (pa_cons (pv 4) (pa_cons (pv 1) pa_nil)))) (pa_cons (pe_tup (pa_cons (pv 3) (pa_cons (pe_tup (pa_cons (pv 4) (pa_cons (pv 5) pa_nil))) (pa_cons (pv 5) pa_nil)))) pa_nil)))))))))
      (pss_cons (ps_set (i := 6) sc_lNear.nd rfl (.inl rfl) (pe_op op_cat (pv 6) (pe_lst (pa_cons (pe_tup (pa_cons (pv 3) (pa_cons (pe_lst (pa_cons (pv 4) pa_nil)) (pa_cons (pv 5) pa_nil)))) (pa_cons (pe_tup (pa_cons (pe_tup (pa_cons (pe_lst (pa_cons pe_int pa_nil)) pa_nil)) (pa_cons (pv 4) (pa_cons (pv 5) pa_nil)))) (pa_cons (pe_tup (pa_cons (pv 3) (pa_cons (pv 4) (pa_cons (pv 5) (pa_cons (pv 4) pa_nil))))) (pa_cons (pe_tup (pa_cons (pe_revT (pv 3)) (pa_cons (pv 4) (pa_cons (pv 5) pa_nil)))) (pa_cons (pe_tup (pa_cons pe_dnewK (pa_cons (pv 4) (pa_cons (pv 5) pa_nil)))) (pa_cons (pe_tup (pa_cons (pv 3) (pa_cons (pv 4) (pa_cons pe_dnewK pa_nil)))) pa_nil)))))))))
      (pss_one (ps_ret (pe_fn pk hr_pk (by rfl) (pa_cons (pv 0) (pa_cons (pv 6) pa_nil))))))))), ?_⟩
    obtain ⟨a3, u1, u2, u3, rfl, ha3, q1, q2, q3⟩ := dq3 hd
    cases q2
    cases q3
    have m1 := hm.ab
    have m2 := hm.bn
    have m3 := hm.few
    have hL : vB (lotD m.1) = true := vB_lot (n := many) (fun x hx => by have := (hm.asc.2 x hx).2; omega) (by omega) (by omega)
    have hl1 : Vd 1 (lotD m.1) := ⟨hL, lot_depth _⟩
    have hl0 : ∀ d ∈ m.1.map (fun x : Nat => PyData.int (x : Int)), Vd 0 d := by
      obtain ⟨_, j, e, h⟩ := Vd.tup_inv hl1
      obtain rfl : j = 0 := by omega
      exact h
    have hll : (m.1.map (fun x : Nat => PyData.int (x : Int))).length ≤ 24 := by rw [List.length_map]; omega
    refine ⟨.ref a3, rfl, a3, _, rfl, SqT.of (hidS_same S _ _ _ ha3), rfl, u1, _, rfl, .int (m.2.1 : Int), _, rfl, .int (m.2.2 : Int), _, rfl, rfl, ?_⟩
    dsimp only [tNext]
    refine evq_at (R := OfL (Vd 3) 6) (evq_L ?_ (by decide) (by decide)) w0 ?_
    · repeat walk_at "evd"
    intro v1 G1 d1 w1 e1 h1 r1
    have qa := q1.up (w0.hid e1)
    dsimp only [tNext]
    refine evq_at (R := OfL (Vd 3) 12) (evq_cat (n := 6) (m := 6) (evq_varR rfl h1 r1) (evq_L ?_ (by decide) (by decide)) (by decide)) w1 ?_
    · repeat walk_at "evd"
    intro v2 G2 d2 w2 e2 h2 r2
    replace qa := qa.up (w1.hid e2)
    dsimp only [tNext]
    refine evq_at (R := OfL (Vd 3) 18) (evq_cat (n := 12) (m := 6) (evq_varR rfl h2 r2) (evq_L ?_ (by decide) (by decide)) (by decide)) w2 ?_
    · repeat walk_at "evd"
    intro v3 G3 d3 w3 e3 h3 r3
    replace qa := qa.up (w2.hid e3)
    dsimp only [tNext]
    refine evq_at (R := OfL (Vd 3) 24) (evq_cat (n := 18) (m := 6) (evq_varR rfl h3 r3) (evq_L ?_ (by decide) (by decide)) (by decide)) w3 ?_
    · repeat walk_at "evd"
    intro v4 G4 d4 w4 e4 h4 r4
    refine evq_at (R := Vd 3) (evq_pick rfl (evq_varR rfl h4 r4) (by decide)) w4 ?_
    intro v5 G5 d5 w5 e5 h5 r5
    exact q _ _ _ w5 (Same.trans e1 (Same.trans e2 (Same.trans e3 (Same.trans e4 e5)))) h5 r5
end
end Kr
namespace Kr
open PySem PySem.Spec PyProof.Rows L2
def spNested : Sp := fun vs H Q _ => ∃ (S : List Addr) (p l : Addr) (v : V) (d : PyData) (k t : Nat), vs = [.ref p, v, .int (t : Int)] ∧ Wl S p l H ∧ Dq (hidS S H) v d ∧ Vd k d ∧ k ≤ 60 ∧ t ≤ 20 ∧
  ∀ H' r d', Wl S p l H' → Ext p l H H' → Dq (hidS S H') r d' → Vd (k + 2 * t) d' → Q r H'
section
variable {P : Program} {w : World} {K : PySem.W.Frag} {mg : Str → Option Value} {base : Heap}
local macro_rules | `(tactic| walk_at "evn") => `(tactic| first | (with_reducible exact en_c) | (with_reducible apply en_add) <;> walk_at "evn" | (with_reducible apply en_sub) <;> walk_at "evn" | (with_reducible apply en_neg) <;> walk_at "evn" | exact en_v rfl)
local macro_rules | `(tactic| walk_at "evd") => `(tactic| first
  | (with_reducible exact eqa_nil)
  | (with_reducible refine eqa_cons ?_ ?_)
  | (with_reducible apply evq_str) <;> exact vd_s (by decide +kernel)
  | (with_reducible apply evq_bl) <;> exact vd_b
  | (with_reducible apply evq_non) <;> exact vd_n
  | (with_reducible apply evq_dic) <;> exact (Vd.mono Vd.dic (by omega))
  | (with_reducible refine evq_tup0 ?_)
  | (with_reducible refine evq_tup1 ?_)
  | (with_reducible refine evq_tup2 ?_)
  | (with_reducible refine evq_tup3 ?_)
  | (with_reducible refine evq_tup4 ?_)
  | (with_reducible refine evq_tup5 ?_)
  | (with_reducible refine evq_lst0 ?_)
  | (with_reducible refine evq_lst1 ?_)
  | (with_reducible refine evq_lst2 ?_)
  | (with_reducible refine evq_lst3 ?_)
  | (with_reducible refine evq_lst4 ?_)
  | (with_reducible refine evq_lst5 ?_)
  | (with_reducible apply evq_eqb) <;> walk_at "evn"
  | walk_at "evx"
  | (with_reducible exact evq_30)
  | (with_reducible exact evq_31)
  | exact evq_n (by walk_at "evn") (vd_i (by omega) (by omega))
  | ((with_reducible refine gd_var ?_); exact evq_var rfl (by assumption) (Vd.mono (by assumption) (by omega)))
  | ((with_reducible refine gd_cb ?_); exact evq_strI (by walk_at "evn") (by omega))
  | ((with_reducible refine gd_cb ?_); exact evq_listOf rfl (by assumption) (Vd.lt (Vd.mono (by assumption) (by omega))))
  | ((with_reducible refine gd_rev ?_); exact evq_rev rfl (by assumption) (Vd.rv (Vd.mono (by assumption) (by omega)))))
abbrev n_lNested : List Str := ["deck", "inner", "times", "found", "turn"]
theorem sc_lNested : FnScope n_lNested ["deck", "inner", "times"] (defScope sLNested) := ⟨rfl, rfl, rfl, by decide +kernel, rfl, by decide +kernel, by decide +kernel⟩
theorem o_lNested (D0 : Df K mg "_law_nested" sLNested ["deck", "inner", "times"]) (B : Bi mg) (pk : Ok P w K mg base 2 "_law_pick" ["deck", "items"] spPick) : Ok P w K mg base 3 "_law_nested" ["deck", "inner", "times"] spNested := by
  refine D0.ok fun f fd F => F.ok sc_lNested (fun vs H Q E h => ?_) (fun cdv A outer s H vs Q E hr h => ?_)
  · obtain ⟨_, _, _, _, _, _, _, rfl, _⟩ := h
    rfl
  · obtain ⟨S, p, l, v, d, k, t, rfl, w0, hv, hd, hk, ht, q⟩ := h
    have hr_pk := hr.mono (show 2 ≤ 2 by omega)
    have hu : (cxOf CX0 P w K mg base n_lNested "_law_nested" (defScope sLNested) f cdv A outer s H E).A.units + 64 < cLine := hr.units
    have hu1 := hu_of hr
    refine ⟨_, pss_cons (ps_set (i := 3) sc_lNested.nd rfl (.inl rfl) (pv 1))
      (pss_cons (ps_for PassesOwn.never rfl (pi_range1 (by rfl) B.range (pa_cons (pv 2) pa_nil)) (pg_name (i := 4) sc_lNested.nd rfl (.inl rfl))
        (pss_one (ps_set (i := 3) sc_lNested.nd rfl (.inl rfl) (pe_fn pk hr_pk (by rfl) (pa_cons (pv 0) (pa_cons (pe_lst (pa_cons (pe_tup (pa_cons pe_str (pa_cons (pe_tup (pa_cons (pv 3) pa_nil)) pa_nil))) (pa_cons (pe_tup (pa_cons pe_str (pa_cons (pv 3) pa_nil))) (pa_cons (pe_tup (pa_cons pe_str (pa_cons (pv 3) (pa_cons (pv 4) pa_nil)))) (pa_cons (pe_tup (pa_cons pe_str (pa_cons (pe_tup (pa_cons (pv 3) (pa_cons (pv 1) pa_nil))) pa_nil))) pa_nil))))) pa_nil))))))
      (pss_one (ps_ret (pv 3)))), ?_⟩
    refine ⟨v, rfl, ?_⟩
    dsimp only [tNext]
    refine ⟨.int (t : Int), rfl, t, rfl, by omega, by omega, for_it (walk_rg (n := t)) (fun i σ G => ∃ (fv : V) (fd : PyData) (y4 : Option V), σ = [some (.ref p), some v, some (.int (t : Int)), some fv, y4] ∧ Wl S p l G ∧ Ext p l H G ∧ Dq (hidS S G) fv fd ∧ Vd (k + 2 * i) fd) ⟨v, d, none, rfl, w0, Ext.rfl, hv, hd⟩ (fun _ _ _ _ _ => trivial) ?_ ?_⟩
    · rintro i x σ _ G hi ⟨fv, fd, y4, rfl, wG, eG, hf, hfd⟩ ⟨rfl, rfl⟩
      have hvG := hv.up (w0.hid eG)
      refine evq_at (R := Vd (k + 2 * (i + 1))) (evq_pick (R := Vd (k + 2 * (i + 1))) (n := 4) rfl (evq_L ?_ (by decide) (by decide)) (by decide)) wG ?_
      · rw [show k + 2 * (i + 1) = k + 2 * i + 2 by omega]
        repeat walk_at "evd"
      · intro v2 G2 d2 w2 e2 h2 hd2
        exact ⟨v2, d2, _, rfl, w2, Same.trans eG e2, h2, hd2⟩
    · rintro σ G ⟨fv, fd, y4, rfl, wG, eG, hf, hfd⟩
      exact ⟨fv, rfl, q _ _ _ wG eG hf hfd⟩
end
end Kr
namespace Kr
open PySem PySem.Spec PyProof.Rows L2
def spTerm7 (n : Nat) : Sp := fun vs H Q _ => ∃ (p l tl : Addr) (many spot deep : Nat) (ks : List Nat), vs = [.ref p, .int (many : Int), .int (spot : Int), .int (deep : Int), .ref tl] ∧ Deck H p l ∧ 3 ≤ many ∧ many ≤ 24 ∧ spot ≤ 400 ∧ 1 ≤ deep ∧ deep ≤ n ∧ hid p l H tl = some (.lst (ks.map fun k : Nat => V.int (k : Int))) ∧ ks ≠ [] ∧ ks.length ≤ 100 ∧ (∀ k ∈ ks, k ≤ 10 ^ 30) ∧
  ∀ H' v t, Deck H' p l → Ext p l H H' → Dq H' v (tmD t) → okTm (Deed many) 3 spot t → dep t ≤ deep → Q v H'
section
variable {P : Program} {w : World} {K : PySem.W.Frag} {mg : Str → Option Value} {base : Heap}
abbrev nTm : List Str := ["deck", "many", "spot", "deep", "times", "way", "turn"]
theorem scTm : FnScope nTm ["deck", "many", "spot", "deep", "times"] (defScope sLTerm) := ⟨rfl, rfl, rfl, by decide +kernel, rfl, by decide +kernel, by decide +kernel⟩
theorem o_lTerm7 (D0 : Df K mg "_law_term" sLTerm ["deck", "many", "spot", "deep", "times"]) (B : Bi mg) (dr : Ok P w K mg base 1 "_law_draw" ["deck", "many"] spDraw) (dd : Ok P w K mg base 3 "_law_deed" ["deck", "many"] spDeed7) (pk : Ok P w K mg base 2 "_law_pick" ["deck", "items"] spPick) :
    ∀ n, Ok P w K mg base (3 + n) "_law_term" ["deck", "many", "spot", "deep", "times"] (spTerm7 n)
  | 0 => D0.ok fun f fd F => by
    have no : ∀ vs H Q E, ¬ spTerm7 0 vs H Q E := fun vs H Q E h => by
      obtain ⟨_, _, _, _, _, _, _, _, _, _, _, _, h1, h2, _⟩ := h
      omega
    exact ⟨fun vs H Q E h => absurd h (no vs H Q E), fun A outer s H args us vs Q E _ _ _ _ h => absurd h (no vs H Q E)⟩
  | n + 1 => by
    have ih := o_lTerm7 D0 B dr dd pk n
    refine D0.ok fun f fd F => F.ok scTm (fun vs H Q E h => ?_) (fun cdv A outer s H vs Q E hr h => ?_)
    · obtain ⟨_, _, _, _, _, _, _, rfl, _⟩ := h
      rfl
    · obtain ⟨p, l, tl, many, spot, deep, ks, rfl, Dk, m0, m1, hsp, d0, d1, htl, hk0, hkl, hkb, q⟩ := h
      have hr1 := hr.mono (show 1 ≤ 3 + n by omega)
      have hr2 := hr.mono (show 2 ≤ 3 + n by omega)
      have hr3 := hr.mono (show 3 ≤ 3 + n by omega)
      refine ⟨_, pss_cons (ps_set (i := 5) scTm.nd rfl (.inl rfl) (pe_fn dr hr1 (by rfl) (pa_cons (pv 0) (pa_cons pe_int pa_nil))))
      (pss_cons (ps_if (PW.pt (pw_or (pt_cmpR op_lt (pv 5) pe_int (nomark _)) (pw_or1 (PW.pt (pw_and (pt_cmpR op_lt (pv 3) pe_int (nomark _)) (pw_and1 (pt_cmpR op_lt (pv 5) pe_int (nomark _)))))))) (pss_one (ps_ret (pe_tup (pa_cons pe_str (pa_cons (pe_fn dd hr3 (by rfl) (pa_cons (pv 0) (pa_cons (pv 1) pa_nil))) pa_nil))))) pss_nil)
      (pss_cons (ps_if (pt_cmpR op_lt (pv 5) pe_int (nomark _)) (pss_one (ps_ret (pe_tup (pa_cons pe_str (pa_cons (pe_callTy call_tuple_of (by rfl) B.tuple (by decide +kernel) (pa_cons (pe_lc (own := [("turn", 6)]) (g := gName 6) (tt := tYes) rfl scTm.nd (pi_range1 (by rfl) B.range (pa_cons (pe_fn dr hr1 (by rfl) (pa_cons (pv 0) (pa_cons pe_int pa_nil))) pa_nil)) (blkOk_by (own := [("turn", 6)]) (N := nTm) (sc := defScope sLTerm) (by decide +kernel)) (fun _ _ _ _ _ => pg_name (i := 6) scTm.nd rfl (.inl rfl)) (fun _ _ _ _ _ => pts_nil) (fun _ _ _ _ _ => (pe_fn ih hr (by rfl) (pa_cons (pv 0) (pa_cons (pv 1) (pa_cons (pv 2) (pa_cons (pe_op op_sub (pv 3) pe_int) (pa_cons (pv 4) pa_nil)))))))) pa_nil)) pa_nil))))) pss_nil)
      (pss_cons (ps_if (pt_cmpR op_eq (pv 5) pe_int (nomark _)) (pss_one (ps_ret (pe_tup (pa_cons pe_str (pa_cons (pe_fn ih hr (by rfl) (pa_cons (pv 0) (pa_cons (pv 1) (pa_cons (pv 2) (pa_cons (pe_op op_sub (pv 3) pe_int) (pa_cons (pv 4) pa_nil)))))) pa_nil))))) pss_nil)
      (pss_cons (ps_if (pt_cmpR op_eq (pv 5) pe_int (nomark _)) (pss_one (ps_ret (pe_tup (pa_cons pe_str (pa_cons (pe_fn ih hr (by rfl) (pa_cons (pv 0) (pa_cons (pv 1) (pa_cons (pv 2) (pa_cons (pe_op op_sub (pv 3) pe_int) (pa_cons (pv 4) pa_nil)))))) (pa_cons (pe_fn pk hr2 (by rfl) (pa_cons (pv 0) (pa_cons (pv 4) pa_nil))) pa_nil)))))) pss_nil)
      (pss_one (ps_ret (pe_ifExp (pt_cmpR op_gt (pv 2) pe_int (nomark _)) (pe_tup (pa_cons pe_str (pa_cons (pe_fn dr hr1 (by rfl) (pa_cons (pv 0) (pa_cons (pv 2) pa_nil))) pa_nil))) (pe_tup (pa_cons pe_str (pa_cons (pe_fn dd hr3 (by rfl) (pa_cons (pv 0) (pa_cons (pv 1) pa_nil))) pa_nil)))))))))), ?_⟩
      obtain ⟨ntp, ntl, htl0⟩ := hid_some htl
      refine ⟨.ref p, rfl, p, l, 9, rfl, Dk, by decide, fun H1 wy D1 E1 w0 w1 => ?_⟩
      dsimp only [tNext]
      refine joinC7 (c := tOr _ _) (R := fun b G => G = H1 ∧ (b = false → 3 ≤ wy ∧ (2 ≤ deep ∨ 7 ≤ wy))) ?_ (fun Q' k => ?_)
      rotate_left
      · refine ⟨.int wy, rfl, _, _, rfl, rfl, _, rfl, ite2 (fun c => k _ _ ⟨rfl, fun z => nomatch z⟩) (fun c => ?_)⟩
        have c1 : ¬ wy < 3 := fun z => c (decide_eq_true z)
        refine ⟨.int (deep : Int), rfl, _, _, rfl, rfl, _, rfl, ite2 (fun c2 => ⟨.int wy, rfl, _, _, rfl, rfl, _, rfl, k _ _ ⟨rfl, fun z => ⟨by omega, .inr ?_⟩⟩⟩) (fun c2 => k _ _ ⟨rfl, fun _ => ⟨by omega, .inl ?_⟩⟩)⟩
        · have := of_decide_eq_false z
          omega
        · have : ¬ (deep : Int) < 2 := fun z => c2 (decide_eq_true z)
          omega
      rintro b G ⟨rfl, hb⟩
      have dodeed : ∀ (H2 : Hp) (v : V) (d : Mv), Deck H2 p l → Ext p l G H2 → Dq H2 v (deedD d) → Deed many d → ∀ t, H2 t = none → Q (.ref t) (upd H2 t (.tup [.str "do", v])) := fun H2 v d D2 E2 hv hd t nt => by
        have st := same_new (o := .tup [.str "do", v]) nt
        refine q _ _ (.doo d) (D2.up st) (Same.trans (Same.trans E1 E2) (Ext.of st)) ?_ ?_ ?_
        · simp only [tmD]
          exact .tup upd_same (.cons (.str _) (.cons (hv.up st) .nil))
        · simp only [okTm]
          exact hd
        · simp only [dep]
          exact d0
      cases b with
      | true => exact iteT ⟨.ref p, rfl, .int (many : Int), rfl, p, l, many, rfl, D1, m0, m1, fun H2 v d D2 E2 hv hd => ⟨by show 2 ≤ sizeLine; decide, fun t nt => dodeed H2 v d D2 E2 hv hd t nt⟩⟩
      | false =>
        obtain ⟨w3, hdw⟩ := hb rfl
        refine iteF ?_
        dsimp only [tNext]
        refine ⟨.int wy, rfl, _, _, rfl, rfl, _, rfl, ite2 (fun c => ?_) (fun c => ?_)⟩
        · have c1 : wy < 5 := of_decide_eq_true c
          have dp2 : 2 ≤ deep := by omega
          refine ⟨.ref p, rfl, p, l, 4, rfl, D1, by decide, fun H2 r D2 E2 r0 r1 => ⟨r, rfl, by omega, by omega, fun D nD => ?_⟩⟩
          obtain ⟨mm, hmm, hk⟩ : ∃ mm : Nat, r.toNat = mm ∧ mm ≤ 3 := ⟨r.toNat, rfl, by omega⟩
          rw [hmm]
          obtain ⟨nDp, nDl⟩ := D2.new nD
          have nD0 : G D = none := E2.free nD nDp nDl
          refine lc_it (walk_rg (n := mm)) (fun i G2 => ∃ (us : List V) (ts : List Tm), G2 D = some (.lst us) ∧ Deck G2 p l ∧ Ext p l G G2 ∧ us.length = i ∧ DqA G2 us (ts.map tmD) ∧ ∀ t ∈ ts, okTm (Deed many) 3 spot t ∧ dep t ≤ deep - 1) ⟨[], [], upd_same, D2.mut nDp nDl, E2.mut nD0, rfl, .nil, (fun _ h => nomatch h)⟩ (fun _ _ _ _ => trivial) ?_ ?_
          · rintro i x _ G2 hi ⟨us, ts, hD, DG, EG, hul, qu, hts⟩ ⟨rfl, rfl⟩
            refine ⟨rfl, ?_⟩
            dsimp only [tYes]
            rw [if_pos rfl]
            have hE := Same.trans E1 EG
            refine ⟨.ref p, rfl, .int (many : Int), rfl, .int (spot : Int), rfl, .int (deep : Int), rfl, _, _, rfl, rfl, .ref tl, rfl, p, l, tl, many, spot, deep - 1, ks, ?_, DG, m0, m1, hsp, by omega, by omega, by rw [hid_ne ntp ntl]; exact Ext.at_ hE ntp ntl htl0, hk0, hkl, hkb, fun G3 v t D3 E3 hv hok hdt => ?_⟩
            · show [V.ref p, .int (many : Int), .int (spot : Int), .int ((deep : Int) - 1), .ref tl] = _
              rw [show (deep : Int) - 1 = ((deep - 1 : Nat) : Int) by omega]
            have hD3 := E3.at_ nDp nDl hD
            have ts3 : TS G3 (upd G3 D (.lst (us ++ [v]))) := TS.lst hD3
            have fl := tms_flat ts
            rw [tmDs_map] at fl
            refine ⟨us, hD3, szm (by omega), us ++ [v], ts ++ [t], upd_same, D3.mut nDp nDl, Ext.mut (Same.trans EG E3) nD0, by rw [List.length_append, hul]; rfl, ?_, fun y hy => ?_⟩
            · rw [List.map_append]
              exact dqa_snoc (DqA.upT ts3 fl (DqA.upT (TS.deck DG E3) fl qu)) (Dq.upT ts3 (tm_flat t) hv)
            · rcases List.mem_append.mp hy with c | c
              · exact hts y c
              · rw [List.mem_singleton.mp c]
                exact ⟨hok, hdt⟩
          · rintro G2 ⟨us, ts, hD, DG, EG, hul, qu, hts⟩
            have htl2 : ts.length = us.length := by have := qu.len; rw [List.length_map] at this; exact this.symm
            refine ⟨D, _, rfl, .inl ⟨SqL.of hD, fun t nt => ⟨by show 2 ≤ sizeLine; decide, fun t2 nt2 => ?_⟩⟩⟩
            have s1 := same_new (o := .tup us) nt
            have s2 := same_new (o := .tup [.str "row", .ref t]) nt2
            refine q _ _ (.row ts) (DG.up (s1.trans s2)) (Same.trans (Same.trans E1 EG) (Ext.of (s1.trans s2))) ?_ ?_ ?_
            · simp only [tmD]
              rw [tmDs_map]
              exact .tup upd_same (.cons (.str _) (.cons (.tup (s2 _ _ upd_same) (qu.up (s1.trans s2))) .nil))
            · simp only [okTm]
              exact ⟨by omega, okTms_of fun t ht => (hts t ht).1⟩
            · simp only [dep]
              have := depL_of fun t ht => (hts t ht).2
              omega
        · have c1 : ¬ wy < 5 := fun z => c (decide_eq_true z)
          dsimp only [tNext]
          have call : ∀ Q' : VK, 2 ≤ deep → (∀ H2 v t, Deck H2 p l → Ext p l G H2 → Dq H2 v (tmD t) → okTm (Deed many) 3 spot t → dep t ≤ deep - 1 → Q' v H2) → spTerm7 n [.ref p, .int (many : Int), .int (spot : Int), .int ((deep : Int) - 1), .ref tl] G Q' (fun _ _ _ => False) := fun Q' dp2 h => by
            refine ⟨p, l, tl, many, spot, deep - 1, ks, by rw [show (deep : Int) - 1 = ((deep - 1 : Nat) : Int) by omega], D1, m0, m1, hsp, by omega, by omega, by rw [hid_ne ntp ntl]; exact Ext.at_ E1 ntp ntl htl0, hk0, hkl, hkb, fun H2 v t D2 E2 hv hok hdt => h H2 v t D2 E2 hv hok hdt⟩
          refine ⟨.int wy, rfl, rfl, _, rfl, ?_⟩
          by_cases h5 : wy = 5
          · rw [decide_eq_true (show V.int wy = V.int 5 by rw [h5])]
            refine iteT ⟨.ref p, rfl, .int (many : Int), rfl, .int (spot : Int), rfl, .int (deep : Int), rfl, _, _, rfl, rfl, .ref tl, rfl, call _ (by omega) fun H2 v t D2 E2 hv hok hdt => ⟨by show 2 ≤ sizeLine; decide, fun t2 nt2 => ?_⟩⟩
            have s2 := same_new (o := .tup [.str "back", v]) nt2
            refine q _ _ (.back t) (D2.up s2) (Same.trans (Same.trans E1 E2) (Ext.of s2)) ?_ ?_ ?_
            · simp only [tmD]
              exact .tup upd_same (.cons (.str _) (.cons (hv.up s2) .nil))
            · simp only [okTm]
              exact hok
            · simp only [dep]
              omega
          · rw [decide_eq_false (show ¬ V.int wy = V.int 5 from fun z => h5 (V.int.inj z))]
            refine iteF ?_
            dsimp only [tNext]
            refine ⟨.int wy, rfl, rfl, _, rfl, ?_⟩
            by_cases h6 : wy = 6
            · rw [decide_eq_true (show V.int wy = V.int 6 by rw [h6])]
              refine iteT ⟨.ref p, rfl, .int (many : Int), rfl, .int (spot : Int), rfl, .int (deep : Int), rfl, _, _, rfl, rfl, .ref tl, rfl, call _ (by omega) fun H2 v t D2 E2 hv hok hdt => ?_⟩
              refine ⟨.ref p, rfl, .ref tl, rfl, p, l, tl, _, rfl, D2, by rw [hid_ne ntp ntl]; exact Ext.at_ (Same.trans E1 E2) ntp ntl htl0, by cases ks with | nil => exact absurd rfl hk0 | cons _ _ => exact List.cons_ne_nil _ _, by rw [List.length_map]; omega, fun H3 v3 D3 E3 hm => ⟨by show 3 ≤ sizeLine; decide, fun t2 nt2 => ?_⟩⟩
              obtain ⟨kk, hkk, rfl⟩ := List.mem_map.mp hm
              have s2 := same_new (o := .tup [.str "times", v, .int (kk : Int)]) nt2
              refine q _ _ (.times t kk) (D3.up s2) (Same.trans (Same.trans (Same.trans E1 E2) E3) (Ext.of s2)) ?_ ?_ ?_
              · simp only [tmD]
                exact .tup upd_same (.cons (.str _) (.cons ((Dq.upT (TS.deck D2 E3) (tm_flat t) hv).up s2) (.cons (.int _) .nil)))
              · simp only [okTm]
                exact ⟨hkb kk hkk, hok⟩
              · simp only [dep]
                omega
            · rw [decide_eq_false (show ¬ V.int wy = V.int 6 from fun z => h6 (V.int.inj z))]
              refine iteF ?_
              dsimp only [tNext]
              refine ⟨.int (spot : Int), rfl, _, _, rfl, rfl, _, rfl, ite2 (fun c2 => ?_) (fun c2 => ?_)⟩
              · have hs0 : (0 : Int) < spot := of_decide_eq_true c2
                refine ⟨.ref p, rfl, .int (spot : Int), rfl, p, l, (spot : Int), rfl, D1, by omega, fun H2 r D2 E2 r0 r1 => ⟨by show 2 ≤ sizeLine; decide, fun t2 nt2 => ?_⟩⟩
                obtain ⟨j, rfl⟩ : ∃ j : Nat, r = (j : Int) := ⟨r.toNat, (Int.toNat_of_nonneg r0).symm⟩
                have s2 := same_new (o := .tup [.str "part", .int (j : Int)]) nt2
                refine q _ _ (.part j) (D2.up s2) (Same.trans (Same.trans E1 E2) (Ext.of s2)) ?_ ?_ ?_
                · simp only [tmD]
                  exact .tup upd_same (.cons (.str _) (.cons (.int _) .nil))
                · simp only [okTm]
                  omega
                · simp only [dep]
                  exact d0
              · exact ⟨.ref p, rfl, .int (many : Int), rfl, p, l, many, rfl, D1, m0, m1, fun H2 v d D2 E2 hv hd => ⟨by show 2 ≤ sizeLine; decide, fun t nt => dodeed H2 v d D2 E2 hv hd t nt⟩⟩
end
end Kr
namespace Kr
open PySem PySem.Spec PyProof.Rows L2
def spBad : Sp := fun vs H Q _ => ∃ (S : List Addr) (p l : Addr) (v : V) (many spot k : Nat) (d : PyData), vs = [.ref p, .int (many : Int), .int (spot : Int), v] ∧ Wl S p l H ∧ 3 ≤ many ∧ many ≤ 24 ∧ spot ≤ 400 ∧ Dq (hidS S H) v d ∧ Vd k d ∧ 3 ≤ k ∧ k ≤ 60 ∧
  ∀ H' r d', Wl S p l H' → Ext p l H H' → Dq (hidS S H') r d' → Vd (k + 2) d' → Q r H'
section
variable {S : List Addr} {p l : Addr} {σ : L2.St} {H : Hp} {K : PySem.W.Frag} {R : PyData → Prop}
theorem deed_vd {n : Nat} {m : Mv} (h : Deed n m) (hn : n ≤ 24) : Vd 2 (deedD m) := ⟨vB_deed hn h, by
  have := lot_depth m.1
  simp only [deedD, PyData.depth, PyData.depthAll]
  omega⟩
theorem evq_dix {j i : Nat} {v : V} {m : Mv} (hi : i < 3) (hj : σ[j]? = some (some v)) (hd : Dq (hidS S H) v (deedD m)) (h : Vd 2 (deedD m)) : EvQ S p l (tOp (rIxT K) (tVar j) (tC (.int (i : Nat)))) σ H (Vd 2) := by
  obtain ⟨_, k, hk, hv⟩ := Vd.tup_inv (ds := [lotD m.1, .int (m.2.1 : Int), .int (m.2.2 : Int)]) h
  obtain ⟨d, hx⟩ : ∃ d, ([lotD m.1, .int (m.2.1 : Int), .int (m.2.2 : Int)] : List PyData)[i]? = some d := ⟨_, List.getElem?_eq_getElem (by simpa using hi)⟩
  exact evq_ixT hj hd hx ((hv d (List.mem_of_getElem? hx)).mono (by omega))
theorem evq_dsl {j : Nat} {v : V} {m : Mv} {tb : TE} {i : Int} (hj : σ[j]? = some (some v)) (hd : Dq (hidS S H) v (deedD m)) (h : Vd 2 (deedD m)) (hb : EvN tb σ i) : EvQ S p l (tSl (rSlA K) (tVar j) tNoPart (tPart tb)) σ H (Vd 2) := by
  obtain ⟨_, k, hk, hv⟩ := Vd.tup_inv (ds := [lotD m.1, .int (m.2.1 : Int), .int (m.2.2 : Int)]) h
  obtain rfl : k = 1 := by omega
  exact (evq_sl (evq_varT (T := Vd 1) (n := 3) hj hd hv (by simp)) part_0 (part_n hb)).mono fun d h => h.vd (by decide)
theorem evq_near {a b c : Nat} {v : V} {many : Nat} {m : Mv} (h0 : σ[a]? = some (some (.ref p))) (h1 : σ[b]? = some (some (.int (many : Int)))) (h2 : σ[c]? = some (some v)) (hd : Dq (hidS S H) v (deedD m)) (hm : Deed many m) (hn : many ≤ 24) : EvQ S p l (tCall spNear [] E0 (tCons (tVar a) (tCons (tVar b) (tCons (tVar c) tNil)))) σ H (Vd 3) := fun G w e Q q =>
  ⟨_, h0, _, h1, _, h2, S, p, l, v, many, m, rfl, w, hd.up (hidS_ext w.p w.l e), hm, hn, fun H' r d' w' e' hr hv => q _ _ _ w' e' hr hv⟩
theorem gd_ix {j : Nat} {c : V} (h : EvQ S p l (tOp (rIxT K) (tVar j) (tC c)) σ H R) : EvQ S p l (tOp (rIxT K) (tVar j) (tC c)) σ H R := h
theorem gd_sl {j : Nat} {tb : TE} (h : EvQ S p l (tSl (rSlA K) (tVar j) tNoPart (tPart tb)) σ H R) : EvQ S p l (tSl (rSlA K) (tVar j) tNoPart (tPart tb)) σ H R := h
theorem gd_near {t : TA} (h : EvQ S p l (tCall spNear [] E0 t) σ H R) : EvQ S p l (tCall spNear [] E0 t) σ H R := h
end
section
variable {P : Program} {w : World} {K : PySem.W.Frag} {mg : Str → Option Value} {base : Heap}
local macro_rules | `(tactic| walk_at "evn") => `(tactic| first | (with_reducible exact en_c) | (with_reducible apply en_add) <;> walk_at "evn" | (with_reducible apply en_sub) <;> walk_at "evn" | (with_reducible apply en_neg) <;> walk_at "evn" | exact en_v rfl)
local macro_rules | `(tactic| walk_at "evd") => `(tactic| first
  | (with_reducible exact eqa_nil)
  | (with_reducible refine eqa_cons ?_ ?_)
  | (with_reducible apply evq_str) <;> exact vd_s (by decide +kernel)
  | (with_reducible apply evq_bl) <;> exact vd_b
  | (with_reducible apply evq_non) <;> exact vd_n
  | (with_reducible apply evq_dic) <;> exact (Vd.mono Vd.dic (by omega))
  | (with_reducible refine evq_tup0 ?_)
  | (with_reducible refine evq_tup1 ?_)
  | (with_reducible refine evq_tup2 ?_)
  | (with_reducible refine evq_tup3 ?_)
  | (with_reducible refine evq_tup4 ?_)
  | (with_reducible refine evq_tup5 ?_)
  | (with_reducible refine evq_lst0 ?_)
  | (with_reducible refine evq_lst1 ?_)
  | (with_reducible refine evq_lst2 ?_)
  | (with_reducible refine evq_lst3 ?_)
  | (with_reducible refine evq_lst4 ?_)
  | (with_reducible refine evq_lst5 ?_)
  | (with_reducible apply evq_eqb) <;> walk_at "evn"
  | walk_at "evx"
  | (with_reducible exact evq_30)
  | (with_reducible exact evq_31)
  | exact evq_n (by walk_at "evn") (vd_i (by omega) (by omega))
  | ((with_reducible refine gd_var ?_); exact evq_var rfl (by assumption) (Vd.mono (by assumption) (by omega)))
  | ((with_reducible refine gd_cb ?_); exact evq_strI (by walk_at "evn") (by omega))
  | ((with_reducible refine gd_cb ?_); exact evq_listOf rfl (by assumption) (Vd.lt (Vd.mono (by assumption) (by omega))))
  | ((with_reducible refine gd_rev ?_); exact evq_rev rfl (by assumption) (Vd.rv (Vd.mono (by assumption) (by omega)))))
local macro_rules | `(tactic| walk_at "evx") => `(tactic| first
  | ((with_reducible refine gd_ix ?_); first | exact (evq_dix (i := 0) (by decide) rfl (by assumption) (by assumption)).mono (fun d h => h.mono (by omega)) | exact (evq_dix (i := 1) (by decide) rfl (by assumption) (by assumption)).mono (fun d h => h.mono (by omega)) | exact (evq_dix (i := 2) (by decide) rfl (by assumption) (by assumption)).mono (fun d h => h.mono (by omega)))
  | ((with_reducible refine gd_sl ?_); exact (evq_dsl rfl (by assumption) (by assumption) (by walk_at "evn")).mono (fun d h => h.mono (by omega)))
  | ((with_reducible refine gd_near ?_); exact (evq_near rfl rfl rfl (by assumption) (by assumption) (by assumption)).mono (fun d h => h.mono (by omega))))
abbrev n_lBad : List Str := ["deck", "many", "spot", "term", "deed", "odd", "turn"]
theorem sc_lBad : FnScope n_lBad ["deck", "many", "spot", "term"] (defScope sLBad) := ⟨rfl, rfl, rfl, by decide +kernel, rfl, by decide +kernel, by decide +kernel⟩
theorem o_lBad (D0 : Df K mg "_law_bad" sLBad ["deck", "many", "spot", "term"]) (B : Bi mg) (dd : Ok P w K mg base 3 "_law_deed" ["deck", "many"] spDeed7) (nr : Ok P w K mg base 3 "_law_near_deed" ["deck", "many", "deed"] spNear) (pk : Ok P w K mg base 2 "_law_pick" ["deck", "items"] spPick) : Ok P w K mg base 4 "_law_bad" ["deck", "many", "spot", "term"] spBad := by
  refine D0.ok fun f fd F => F.ok sc_lBad (fun vs H Q E h => ?_) (fun cdv A outer s H vs Q E hr h => ?_)
  · obtain ⟨_, _, _, _, _, _, _, _, rfl, _⟩ := h
    rfl
  · obtain ⟨S, p, l, v, many, spot, k, d, rfl, w0, m0, m1, hsp, hv, hd, k0, k1, q⟩ := h
    have hr_dd := hr.mono (show 3 ≤ 3 by omega)
    have hr_nr := hr.mono (show 3 ≤ 3 by omega)
    have hr_pk := hr.mono (show 2 ≤ 3 by omega)
    have hu : (cxOf CX0 P w K mg base n_lBad "_law_bad" (defScope sLBad) f cdv A outer s H E).A.units + 64 < cLine := hr.units
    have hu1 := hu_of hr
    refine ⟨_, pss_cons (ps_set (i := 4) sc_lBad.nd rfl (.inr rfl) (pe_fn dd hr_dd (by rfl) (pa_cons (pv 0) (pa_cons (pv 1) pa_nil))))
      (pss_cons (ps_set (i := 5) sc_lBad.nd rfl (.inl rfl) (pe_lst (pa_cons pe_non (pa_cons pe_bl (pa_cons pe_int (pa_cons pe_str (pa_cons (pe_lst (pa_cons pe_str (pa_cons (pv 4) pa_nil))) (pa_cons (pe_tup (pa_cons pe_str pa_nil)) (pa_cons (pe_tup (pa_cons pe_str (pa_cons (pv 4) (pa_cons pe_int pa_nil)))) (pa_cons (pe_tup (pa_cons pe_str (pa_cons (pv 4) pa_nil))) (pa_cons (pe_tup (pa_cons pe_bl (pa_cons (pv 4) pa_nil))) (pa_cons (pv 4) (pa_cons (pe_tup pa_nil) (pa_cons pe_dnewK pa_nil))))))))))))))
      (pss_cons (ps_set (i := 5) sc_lBad.nd rfl (.inl rfl) (pe_op op_cat (pv 5) (pe_lst (pa_cons (pe_tup (pa_cons pe_str (pa_cons (pe_tup (pa_cons (pe_ix ix_tup (pv 4) pe_int (fun _ _ => rfl)) (pa_cons (pe_ix ix_tup (pv 4) pe_int (fun _ _ => rfl)) (pa_cons (pe_ix ix_tup (pv 4) pe_int (fun _ _ => rfl)) pa_nil)))) pa_nil))) (pa_cons (pe_tup (pa_cons pe_str (pa_cons (pe_callTy call_list_of (by rfl) B.list (by decide +kernel) (pa_cons (pv 4) pa_nil)) pa_nil))) (pa_cons (pe_tup (pa_cons pe_str (pa_cons (pe_slice sl_tupA (pv 4) po_none (po_some pe_int)) pa_nil))) (pa_cons (pe_tup (pa_cons pe_str (pa_cons (pe_tup (pa_cons (pe_tup (pa_cons (pv 1) pa_nil)) (pa_cons pe_int (pa_cons pe_int pa_nil)))) pa_nil))) pa_nil)))))))
      (pss_cons (ps_set (i := 5) sc_lBad.nd rfl (.inl rfl) (pe_op op_cat (pv 5) (pe_lst (pa_cons (pe_tup (pa_cons pe_str (pa_cons (pe_lst (pa_cons (pv 3) pa_nil)) pa_nil))) (pa_cons (pe_tup (pa_cons pe_str (pa_cons (pv 3) pa_nil))) (pa_cons (pe_tup (pa_cons pe_str pa_nil)) (pa_cons (pe_tup (pa_cons pe_str (pa_cons (pe_tup (pa_cons (pv 3) (pa_cons pe_non pa_nil))) pa_nil))) (pa_cons (pe_tup (pa_cons pe_str (pa_cons (pe_tup (pa_cons (pe_tup pa_nil) pa_nil)) pa_nil))) (pa_cons (pe_tup (pa_cons pe_str (pa_cons (pe_tup (pa_cons (pv 3) pa_nil)) pa_nil))) pa_nil)))))))))
      (pss_cons (ps_set (i := 5) sc_lBad.nd rfl (.inl rfl) (pe_op op_cat (pv 5) (pe_lst (pa_cons (pe_tup (pa_cons pe_str (pa_cons (pv 3) pa_nil))) (pa_cons (pe_tup (pa_cons pe_str (pa_cons (pv 3) (pa_cons (pe_un un_neg pe_int) pa_nil)))) (pa_cons (pe_tup (pa_cons pe_str (pa_cons (pv 3) (pa_cons (pe_op op_add (pe_op op_pow pe_int pe_int) pe_int) pa_nil)))) (pa_cons (pe_tup (pa_cons pe_str (pa_cons (pv 3) (pa_cons pe_bl pa_nil)))) pa_nil)))))))
      (pss_cons (ps_set (i := 5) sc_lBad.nd rfl (.inl rfl) (pe_op op_cat (pv 5) (pe_lst (pa_cons (pe_tup (pa_cons pe_str (pa_cons (pv 3) (pa_cons (pe_op op_pow pe_int pe_int) pa_nil)))) (pa_cons (pe_tup (pa_cons pe_str (pa_cons pe_non (pa_cons pe_non pa_nil)))) (pa_cons (pe_tup (pa_cons pe_str (pa_cons pe_non (pa_cons pe_int pa_nil)))) (pa_cons (pe_tup (pa_cons pe_str (pa_cons pe_int (pa_cons (pv 3) pa_nil)))) pa_nil)))))))
      (pss_cons (ps_set (i := 5) sc_lBad.nd rfl (.inl rfl) (pe_op op_cat (pv 5) (pe_lst (pa_cons (pe_tup (pa_cons pe_str (pa_cons (pv 2) pa_nil))) (pa_cons (pe_tup (pa_cons pe_str (pa_cons (pe_op op_add (pv 2) pe_int) pa_nil))) (pa_cons (pe_tup (pa_cons pe_str (pa_cons (pe_un un_neg pe_int) pa_nil))) (pa_cons (pe_tup (pa_cons pe_str (pa_cons pe_bl pa_nil))) (pa_cons (pe_tup (pa_cons pe_str (pa_cons pe_str pa_nil))) (pa_cons (pe_tup (pa_cons pe_str (pa_cons (pe_op op_sub (pv 2) pe_int) pa_nil))) pa_nil)))))))))
      (pss_cons (ps_set (i := 5) sc_lBad.nd rfl (.inl rfl) (pe_op op_cat (pv 5) (pe_lst (pa_cons (pe_tup (pa_cons (pe_lst pa_nil) (pa_cons (pv 4) pa_nil))) (pa_cons (pe_tup (pa_cons pe_dnewK (pa_cons (pv 3) (pa_cons pe_int pa_nil)))) (pa_cons (pe_tup (pa_cons (pe_lst (pa_cons pe_str pa_nil)) (pa_cons (pv 4) pa_nil))) (pa_cons (pe_tup (pa_cons (pe_tup (pa_cons (pe_lst (pa_cons pe_str pa_nil)) pa_nil)) (pa_cons (pe_tup pa_nil) pa_nil))) (pa_cons (pe_tup (pa_cons pe_str (pa_cons (pv 3) (pa_cons pe_int (pa_cons pe_int pa_nil))))) (pa_cons (pe_tup (pa_cons pe_str (pa_cons (pe_tup pa_nil) (pa_cons pe_int pa_nil)))) pa_nil)))))))))
      (pss_cons (ps_set (i := 5) sc_lBad.nd rfl (.inl rfl) (pe_op op_cat (pv 5) (pe_lst (pa_cons (pe_tup (pa_cons pe_str (pa_cons pe_int (pa_cons pe_int pa_nil)))) (pa_cons (pe_tup (pa_cons pe_str pa_nil)) (pa_cons (pe_tup (pa_cons pe_str (pa_cons (pe_fn nr hr_nr (by rfl) (pa_cons (pv 0) (pa_cons (pv 1) (pa_cons (pv 4) pa_nil)))) pa_nil))) pa_nil))))))
      (pss_cons (ps_set (i := 5) sc_lBad.nd rfl (.inl rfl) (pe_op op_cat (pv 5) (pe_lc (own := [("turn", 6)]) (g := gName 6) (tt := tYes) rfl sc_lBad.nd (pi_range1 (by rfl) B.range (pa_cons pe_int pa_nil)) (blkOk_by (own := [("turn", 6)]) (N := n_lBad) (sc := defScope sLBad) (by decide +kernel)) (fun _ _ _ _ _ => pg_name (i := 6) sc_lBad.nd rfl (.inl rfl)) (fun _ _ _ _ _ => pts_nil) (fun _ _ _ _ _ => (pe_tup (pa_cons pe_str (pa_cons (pe_fn nr hr_nr (by rfl) (pa_cons (pv 0) (pa_cons (pv 1) (pa_cons (pv 4) pa_nil)))) pa_nil)))))))
      (pss_cons (ps_set (i := 5) sc_lBad.nd rfl (.inl rfl) (pe_op op_cat (pv 5) (pe_lst (pa_cons (pe_tup (pa_cons pe_str (pa_cons pe_non pa_nil))) (pa_cons (pe_tup (pa_cons pe_str (pa_cons (pe_tup (pa_cons pe_str (pa_cons (pe_tup (pa_cons pe_str (pa_cons (pv 2) pa_nil))) pa_nil))) pa_nil))) (pa_cons (pe_tup (pa_cons pe_str (pa_cons (pv 3) (pa_cons pe_int pa_nil)))) (pa_cons (pe_tup (pa_cons pe_str (pa_cons (pe_lst (pa_cons (pv 3) pa_nil)) pa_nil))) (pa_cons (pe_lst (pa_cons pe_str (pa_cons (pe_tup pa_nil) pa_nil))) pa_nil))))))))
      (pss_one (ps_ret (pe_fn pk hr_pk (by rfl) (pa_cons (pv 0) (pa_cons (pv 5) pa_nil))))))))))))))), ?_⟩
    obtain ⟨k, rfl⟩ : ∃ k0, k = k0 + 3 := ⟨k - 3, by omega⟩
    refine ⟨.ref p, rfl, .int (many : Int), rfl, p, l, many, rfl, w0.D, m0, m1, fun G0 v4 m D0' E0' hv4 hm => ?_⟩
    have w1 := w0.ext E0' D0'
    replace hv := hv.up (w0.hid E0')
    have hq := w1.flat (deed_flat m) hv4
    have hdv := deed_vd hm m1
    clear hv4
    try dsimp only [tNext]
    refine sq_asgE ?_
    refine evq_at (R := OfL (Vd (k + 5)) 12) (evq_L ?_ (by decide) (by decide)) w1 ?_
    · repeat walk_at "evd"
    intro v2 G2 d2 w2 e2 h2 r2
    replace hv := hv.up (w1.hid e2)
    replace hq := hq.up (w1.hid e2)
    try dsimp only [tNext]
    refine sq_asgE ?_
    refine evq_at (R := OfL (Vd (k + 5)) 16) (evq_cat (n := 12) (m := 4) (evq_varR rfl h2 r2) (evq_L ?_ (by decide) (by decide)) (by decide)) w2 ?_
    · repeat walk_at "evd"
    intro v3 G3 d3 w3 e3 h3 r3
    replace hv := hv.up (w2.hid e3)
    replace hq := hq.up (w2.hid e3)
    try dsimp only [tNext]
    refine sq_asgE ?_
    refine evq_at (R := OfL (Vd (k + 5)) 22) (evq_cat (n := 16) (m := 6) (evq_varR rfl h3 r3) (evq_L ?_ (by decide) (by decide)) (by decide)) w3 ?_
    · repeat walk_at "evd"
    intro v4 G4 d4 w4 e4 h4 r4
    replace hv := hv.up (w3.hid e4)
    replace hq := hq.up (w3.hid e4)
    try dsimp only [tNext]
    refine sq_asgE ?_
    refine evq_at (R := OfL (Vd (k + 5)) 26) (evq_cat (n := 22) (m := 4) (evq_varR rfl h4 r4) (evq_L ?_ (by decide) (by decide)) (by decide)) w4 ?_
    · repeat walk_at "evd"
    intro v5 G5 d5 w5 e5 h5 r5
    replace hv := hv.up (w4.hid e5)
    replace hq := hq.up (w4.hid e5)
    try dsimp only [tNext]
    refine sq_asgE ?_
    refine evq_at (R := OfL (Vd (k + 5)) 30) (evq_cat (n := 26) (m := 4) (evq_varR rfl h5 r5) (evq_L ?_ (by decide) (by decide)) (by decide)) w5 ?_
    · repeat walk_at "evd"
    intro v6 G6 d6 w6 e6 h6 r6
    replace hv := hv.up (w5.hid e6)
    replace hq := hq.up (w5.hid e6)
    try dsimp only [tNext]
    refine sq_asgE ?_
    refine evq_at (R := OfL (Vd (k + 5)) 36) (evq_cat (n := 30) (m := 6) (evq_varR rfl h6 r6) (evq_L ?_ (by decide) (by decide)) (by decide)) w6 ?_
    · repeat walk_at "evd"
    intro v7 G7 d7 w7 e7 h7 r7
    replace hv := hv.up (w6.hid e7)
    replace hq := hq.up (w6.hid e7)
    try dsimp only [tNext]
    refine sq_asgE ?_
    refine evq_at (R := OfL (Vd (k + 5)) 42) (evq_cat (n := 36) (m := 6) (evq_varR rfl h7 r7) (evq_L ?_ (by decide) (by decide)) (by decide)) w7 ?_
    · repeat walk_at "evd"
    intro v8 G8 d8 w8 e8 h8 r8
    replace hv := hv.up (w7.hid e8)
    replace hq := hq.up (w7.hid e8)
    try dsimp only [tNext]
    refine sq_asgE ?_
    refine evq_at (R := OfL (Vd (k + 5)) 45) (evq_cat (n := 42) (m := 3) (evq_varR rfl h8 r8) (evq_L ?_ (by decide) (by decide)) (by decide)) w8 ?_
    · repeat walk_at "evd"
    intro v9 G9 d9 w9 e9 h9 r9
    replace hv := hv.up (w8.hid e9)
    replace hq := hq.up (w8.hid e9)
    try dsimp only [tNext]
    refine sq_asgE ?_
    refine evq_at (R := OfL (Vd (k + 5)) 51) (evq_cat (n := 45) (m := 6) (evq_varR rfl h9 r9) (evq_lcR (n := 6) (by decide) (by decide) en_c (fun _ => rfl) (fun D G i nD wD eD => ?_)) (by decide)) w9 ?_
    · have hqD := wD.flat (deed_flat m) ((hq.up (w9.hid eD)).up (hidS_same _ _))
      repeat walk_at "evd"
    intro v10 G10 d10 w10 e10 h10 r10
    replace hv := hv.up (w9.hid e10)
    replace hq := hq.up (w9.hid e10)
    try dsimp only [tNext]
    refine sq_asgE ?_
    refine evq_at (R := OfL (Vd (k + 5)) 56) (evq_cat (n := 51) (m := 5) (evq_varR rfl h10 r10) (evq_L ?_ (by decide) (by decide)) (by decide)) w10 ?_
    · repeat walk_at "evd"
    intro v11 G11 d11 w11 e11 h11 r11
    refine evq_at (R := Vd (k + 5)) (evq_pick rfl (evq_varR rfl h11 r11) (by decide)) w11 ?_
    intro v12 G12 d12 w12 e12 h12 r12
    exact q _ _ _ w12 (Same.trans E0' (Same.trans e2 (Same.trans e3 (Same.trans e4 (Same.trans e5 (Same.trans e6 (Same.trans e7 (Same.trans e8 (Same.trans e9 (Same.trans e10 (Same.trans e11 e12))))))))))) h12 r12
end
end Kr
namespace Kr
open PySem PySem.Spec PyProof.Rows L2
/-! ### a tuple that is not () -/
def rNeT0 (K : PySem.W.Frag) : R2 := fun x y H Q => ∃ l b xs, x = .ref l ∧ y = .ref b ∧ SqT K H l xs ∧ SqT K H b [] ∧ Q (.bl (!xs.isEmpty)) H
theorem op_neT0 {X : Cx} (hu : X.A.units + 64 < cLine) : OpR X (compareOp .NotEq) (rNeT0 X.K) := by
  intro pins s σ H x y v u Q I rx ry h
  obtain ⟨l, b, xs, rfl, rfl, hl, hb, q⟩ := h
  obtain rfl : v = Value.ref l := rx
  obtain rfl : u = Value.ref b := ry
  obtain ⟨its, r1, p1, _⟩ := I.tuple hl
  obtain ⟨it2, r2, p2, _⟩ := I.tuple hb
  cases r2
  refine SeqAt.RcNeAt.tuples (e := fun _ => true) p1 p2 (by omega) (fun j _ h2 => absurd h2 (by simp)) X.prog X.w X.xe _ ⟨.bl (!xs.isEmpty), H, I, ?_, q⟩
  show Value.bool _ = Value.bool _
  rw [← isE r1]
  exact congrArg (fun z => Value.bool (!z)) (all0 _ _)
end Kr
namespace Kr
open PySem PySem.Spec PyProof.Rows L2 PySem.SeqAt PySem.MeetsSeq
/-! ### x == s, x any data, s a text; x in texts -/
def isW (d : PyData) (s : Str) : Bool := match d with
  | .str y => y == s
  | _ => false
theorem dict_eq_declines_str (l : Addr) (es : Array DictEntry) (ep : Nat) (dd : Option Addr) (sl : Array (Option Value)) (b : Str) (u : Tok) :
    Meets (Builtin.«dict.__eq__» ⟨[.ref l, .str b u], []⟩) (fun _ R s => s.heap.get? l = some { cls := .type "dict", dict := dd, data := .dict es ep, slots := sl } ∧ R (.ok (.ret .notImplemented)) s) :=
  .of_wp fun prog w A R s h => by obtain ⟨hp, g, d, tk, os⟩ := s; obtain ⟨hl, h⟩ := h; have f1 := F.sub_str_dict; wp_walk using wpAny_loadPart' hl; exact ⟨_, rfl, h⟩
theorem str_eq_declines_dict (b : Str) (u : Tok) (l : Addr) (c : Value) (es : Array DictEntry) (ep : Nat) (dd : Option Addr) (sl : Array (Option Value)) :
    Meets (Builtin.«str.__eq__» ⟨[.str b u, .ref l], []⟩) (fun _ R s => s.heap.get? l = some { cls := c, dict := dd, data := .dict es ep, slots := sl } ∧ R (.ok (.ret .notImplemented)) s) :=
  .of_wp fun prog w A R s h => by obtain ⟨hp, g, d, tk, os⟩ := s; obtain ⟨hl, h⟩ := h; wp_walk using wpAny_loadPart' hl, wpAny_load hl; exact ⟨_, rfl, h⟩
section
variable {A : Around} {s : Shared} {l : Addr} {es : Array DictEntry} {ep : Nat} {dd : Option Addr} {sl : Array (Option Value)}
theorem rc_dict_str (b : Str) (u : Tok) (ho : s.heap.get? l = some { cls := .type "dict", dict := dd, data := .dict es ep, slots := sl }) (hu : A.units < cLine) : RcAt A s (.ref l) (.str b u) false := fun prog w E Q h => by
  exact rc_eq_decline_or (k := false) ⟨_, ho, rfl⟩ (typeIs_str s b u) (by decide) F.sub_str_dict F.slot_dict_eq F.slot_str_eq_refl
    (fun _ hq => call_meets F.slot_dict_eq ⟨_, ho, rfl⟩ F.entry_dict_eq (F.args_dict_eq_2 _ _) (dict_eq_declines_str l es ep dd sl b u) ⟨ho, hq⟩)
    (fun _ hq => call_meets F.slot_str_eq_refl (typeIs_str s b u) F.entry_str_eq (F.args_str_eq_2 _ _) (str_eq_declines_dict b u l (.type "dict") es ep dd sl) ⟨ho, hq⟩)
    (fun _ hq => wpAny_of_eq (rfl : isSame (.ref l) (.str b u) = pure false) hq) (.inr hu) h
theorem rc_str_dict (b : Str) (u : Tok) (ho : s.heap.get? l = some { cls := .type "dict", dict := dd, data := .dict es ep, slots := sl }) (hu : A.units < cLine) : RcAt A s (.str b u) (.ref l) false := fun prog w E Q h => by
  exact rc_eq_decline_or (k := false) (typeIs_str s b u) ⟨_, ho, rfl⟩ (by decide) F.sub_dict_str F.slot_str_eq F.slot_dict_eq_refl
    (fun _ hq => call_meets F.slot_str_eq (typeIs_str s b u) F.entry_str_eq (F.args_str_eq_2 _ _) (str_eq_declines_dict b u l (.type "dict") es ep dd sl) ⟨ho, hq⟩)
    (fun _ hq => call_meets F.slot_dict_eq_refl ⟨_, ho, rfl⟩ F.entry_dict_eq (F.args_dict_eq_2 _ _) (dict_eq_declines_str l es ep dd sl b u) ⟨ho, hq⟩)
    (fun _ hq => wpAny_of_eq (rfl : isSame (.str b u) (.ref l) = pure false) hq) (.inr hu) h
end
def rEqS : R2 := fun x y H Q => ∃ (d : PyData) (i : Str), Dq H x d ∧ y = .str i ∧ Q (.bl (isW d i)) H
theorem op_eqS {X : Cx} (hu : X.A.units + 64 < cLine) : OpR X (compareOp .Eq) rEqS := by
  intro pins s σ H x y v u Q I rx ry h
  obtain ⟨d, i, hd, rfl, q⟩ := h
  obtain ⟨t, rfl⟩ := ry
  have hu : X.A.units < cLine := by omega
  cases hd with
  | non =>
    cases rx
    exact RcAt.none_str i t X.prog X.w X.xe _ ⟨.bl _, H, I, rfl, q⟩
  | bl b =>
    cases rx
    exact RcAt.bool_str b i t X.prog X.w X.xe _ ⟨.bl _, H, I, rfl, q⟩
  | int j =>
    obtain ⟨t', rfl⟩ := rx
    exact RcAt.int_str j t' i t X.prog X.w X.xe _ ⟨.bl _, H, I, rfl, q⟩
  | str z =>
    obtain ⟨t', rfl⟩ := rx
    exact RcAt.str_str z t' i t X.prog X.w X.xe _ ⟨.bl _, H, I, rfl, q⟩
  | lst e _ =>
    cases rx
    obtain ⟨its, _, p1, _⟩ := I.list (SqL.of (K := X.K) e)
    exact RcAt.list_str i t p1.isList hu X.prog X.w X.xe _ ⟨.bl _, H, I, rfl, q⟩
  | tup e _ =>
    cases rx
    obtain ⟨its, _, p1, _⟩ := I.tuple (SqT.of (K := X.K) e)
    exact RcAt.tuple_str i t p1 hu X.prog X.w X.xe _ ⟨.bl _, H, I, rfl, q⟩
  | @dic a e =>
    cases rx
    obtain ⟨_, hsys, vs, rel, ⟨cls, dd, data, sl⟩, es, ep, ho, hx, hd, _⟩ := I.hok a _ e
    obtain rfl : cls = .type "dict" := hx.1
    simp only at hd
    subst hd
    exact rc_dict_str i t ho hu X.prog X.w X.xe _ ⟨.bl _, H, I, rfl, q⟩
/-- a text of the tuple beside any data -/
theorem str_eqAt {X : Cx} {pins : List (Addr × Obj)} {σ : L2.St} {H : Hp} {s : Shared} (I : Inv X pins σ H s) {A : Around} (hu : A.units < cLine) {x : V} {v : Value} {d : PyData} (hd : Dq H x d) (rx : RelV x v) (i : Str) (t : Tok) : EqAt A s (.str i t) v (isW d i) := by
  have ne : ∀ l : Addr, ∀ (hr : RcAt A s (.str i t) (.ref l) false), EqAt A s (.str i t) (.ref l) false := fun l hr prog w E Q hq => by
    unfold eqBool
    refine wpAny_holding ?_
    refine wpAny_ite_split (fun hab => absurd (eq_of_beq hab) nofun) (fun _ => ?_)
    exact wpAny_bind (hr prog w E _ (wpAny_truthy_bool hq))
  cases hd with
  | non =>
    cases rx
    exact EqAt.str_none i t
  | bl b =>
    cases rx
    exact EqAt.str_bool i t b
  | int j =>
    obtain ⟨t', rfl⟩ := rx
    exact EqAt.str_int i t j t'
  | str z =>
    obtain ⟨t', rfl⟩ := rx
    have := EqAt.str_str (A := A) (s := s) i t z t'
    rw [show isW (.str z) i = (i == z) from by show (z == i) = (i == z); rw [Bool.eq_iff_iff, beq_iff_eq, beq_iff_eq]; exact ⟨Eq.symm, Eq.symm⟩]
    exact this
  | lst e _ =>
    cases rx
    obtain ⟨its, _, p1, _⟩ := I.list (SqL.of (K := X.K) e)
    exact EqAt.str_list i t p1.isList hu
  | tup e _ =>
    cases rx
    obtain ⟨its, _, p1, _⟩ := I.tuple (SqT.of (K := X.K) e)
    exact EqAt.str_tuple i t p1 hu
  | @dic a e =>
    cases rx
    obtain ⟨_, hsys, vs, rel, ⟨cls, dd, data, sl⟩, es, ep, ho, hx, hd, _⟩ := I.hok a _ e
    obtain rfl : cls = .type "dict" := hx.1
    simp only at hd
    subst hd
    exact ne _ (rc_str_dict i t ho hu)
def strU (d : PyData) : Value → Bool
  | .str i _ => isW d i
  | _ => false
theorem vals_strs : ∀ {ws : List Str} {us : List Value}, Vals (ws.map V.str) us → (∀ u ∈ us, ∃ i t, u = .str i t) ∧ ∀ d, us.any (strU d) = ws.any fun w => isW d w
  | [], us, h => by
    cases h
    exact ⟨fun u hu => absurd hu (by simp), fun _ => rfl⟩
  | w :: ws, us, h => by
    cases h with
    | cons r t =>
      obtain ⟨tk, rfl⟩ := r
      obtain ⟨h1, h2⟩ := vals_strs t
      refine ⟨fun u hu => ?_, fun d => ?_⟩
      · rcases List.mem_cons.mp hu with rfl | hu
        · exact ⟨_, _, rfl⟩
        · exact h1 u hu
      · rw [List.any_cons, List.any_cons, h2 d]
        rfl
/-- x in a tuple of texts -/
def rInW (K : PySem.W.Frag) : R2 := fun x y H Q => ∃ (d : PyData) (p : Addr) (ws : List Str), Dq H x d ∧ y = .ref p ∧ SqT K H p (ws.map V.str) ∧ Q (.bl (ws.any fun w => isW d w)) H
theorem op_inW {X : Cx} (hu : X.A.units + 64 < cLine) : OpR X (compareOp .In) (rInW X.K) := by
  intro pins s σ H x y v u Q I rx ry h
  obtain ⟨d, p, ws, hd, rfl, hq, q⟩ := h
  cases ry
  obtain ⟨its, r, pl, hz⟩ := I.tuple hq
  obtain ⟨h1, h2⟩ := vals_strs r
  refine SeqAt.in_tupleAt (strU d) pl (fun w hw => ?_) ⟨.bl _, H, I, rfl, ?_⟩
  · obtain ⟨i, t, rfl⟩ := h1 w (by simpa using hw)
    exact str_eqAt I (by show X.A.units + 1 < cLine; omega) hd rx i t
  · rw [show its.toArray.any (strU d) = its.any (strU d) by simp, h2]
    exact q
end Kr
namespace Kr
open PySem PySem.Spec PyProof.Rows L2
/-! ### what is wrong with programs, over data -/
def firstF (f : PyData → PyData) : List PyData → PyData
  | [] => .none
  | t :: ts => if isNo (f t) = true then firstF f ts else f t
def fault (n i : Int) : Nat → PyData → PyData
  | 0, _ => .str "deep"
  | m + 1, d => match d with
    | .tuple [w, x] =>
      if isW w "do" = true then (if isNo (deedErr n x) = true then .none else .str "deed")
      else if isW w "part" = true then (if isB x 0 (i - 1) = true then .none else .str "part")
      else if isW w "row" = true then (match x with
        | .tuple ts => if ts.length ≤ 400 then firstF (fault n i m) ts else .str "many"
        | _ => .str "many")
      else if isW w "back" = true then fault n i m x
      else .str "term"
    | .tuple [w, x, k] => if isW w "times" = true then (if isB k 0 (10 ^ 30) = true then fault n i m x else .str "times") else .str "term"
    | _ => .str "term"
def progGo (n : Int) : Nat → List PyData → PyData
  | _, [] => .none
  | i, t :: ts => if isNo (fault n i 12 t) = true then progGo n (i + 1) ts else .tuple [.int (i : Nat), fault n i 12 t]
def progErr (n : Int) : PyData → PyData
  | .tuple ds => if 1 ≤ ds.length ∧ ds.length ≤ 400 then progGo n 0 ds else eForm
  | _ => eForm
def hasForm (d : PyData) : Bool := match d with
  | .tuple [w, _] => ["do", "row", "back", "part"].any fun s => isW w s
  | .tuple [w, _, _] => isW w "times"
  | _ => false
section
variable {n i : Int} {m : Nat} {x k : PyData}
def rowF (n i : Int) (m : Nat) (x : PyData) : PyData := match x with
  | .tuple ts => if ts.length ≤ 400 then firstF (fault n i m) ts else .str "many"
  | _ => .str "many"
theorem fault_two {w : PyData} : fault n i (m + 1) (.tuple [w, x]) = if isW w "do" = true then (if isNo (deedErr n x) = true then .none else .str "deed") else if isW w "part" = true then (if isB x 0 (i - 1) = true then .none else .str "part") else if isW w "row" = true then rowF n i m x else if isW w "back" = true then fault n i m x else .str "term" := rfl
theorem fault_three {w : PyData} : fault n i (m + 1) (.tuple [w, x, k]) = if isW w "times" = true then (if isB k 0 (10 ^ 30) = true then fault n i m x else .str "times") else .str "term" := rfl
theorem fault_do : fault n i (m + 1) (.tuple [.str "do", x]) = if isNo (deedErr n x) = true then .none else .str "deed" := by
  rw [fault_two, if_pos (by decide +kernel)]
theorem fault_part : fault n i (m + 1) (.tuple [.str "part", x]) = if isB x 0 (i - 1) = true then .none else .str "part" := by
  rw [fault_two, if_neg (by decide +kernel), if_pos (by decide +kernel)]
theorem fault_row : fault n i (m + 1) (.tuple [.str "row", x]) = rowF n i m x := by
  rw [fault_two, if_neg (by decide +kernel), if_neg (by decide +kernel), if_pos (by decide +kernel)]
theorem fault_back : fault n i (m + 1) (.tuple [.str "back", x]) = fault n i m x := by
  rw [fault_two, if_neg (by decide +kernel), if_neg (by decide +kernel), if_neg (by decide +kernel), if_pos (by decide +kernel)]
theorem fault_times : fault n i (m + 1) (.tuple [.str "times", x, k]) = if isB k 0 (10 ^ 30) = true then fault n i m x else .str "times" := by
  rw [fault_three, if_pos (by decide +kernel)]
theorem isW_str {d : PyData} {s : Str} (h : isW d s = true) : d = .str s := by
  cases d with
  | str y => rw [beq_iff_eq.mp (show (y == s) = true from h)]
  | _ => cases h
theorem hasForm_inv {d : PyData} (h : hasForm d = true) : (∃ x, d = .tuple [.str "do", x]) ∨ (∃ x, d = .tuple [.str "part", x]) ∨ (∃ x, d = .tuple [.str "row", x]) ∨ (∃ x, d = .tuple [.str "back", x]) ∨ ∃ x k, d = .tuple [.str "times", x, k] := by
  cases d with
  | tuple ds =>
    match ds, h with
    | [], h => cases h
    | [_], h => cases h
    | [w, x], h =>
      have h' : (["do", "row", "back", "part"].any fun s => isW w s) = true := h
      simp only [List.any_cons, List.any_nil, Bool.or_false, Bool.or_eq_true] at h'
      rcases h' with h' | h' | h' | h'
      · exact .inl ⟨x, by rw [isW_str h']⟩
      · exact .inr (.inr (.inl ⟨x, by rw [isW_str h']⟩))
      · exact .inr (.inr (.inr (.inl ⟨x, by rw [isW_str h']⟩)))
      · exact .inr (.inl ⟨x, by rw [isW_str h']⟩)
    | [w, x, k], h => exact .inr (.inr (.inr (.inr ⟨x, k, by rw [isW_str (show isW w "times" = true from h)]⟩)))
    | _ :: _ :: _ :: _ :: _, h => cases h
  | _ => cases h
theorem fault_term {d : PyData} (h : hasForm d = false) : fault n i (m + 1) d = .str "term" := by
  cases d with
  | tuple ds =>
    match ds, h with
    | [], h => rfl
    | [_], h => rfl
    | [w, x], h =>
      have h' : (["do", "row", "back", "part"].any fun s => isW w s) = false := h
      simp only [List.any_cons, List.any_nil, Bool.or_false, Bool.or_eq_false_iff] at h'
      rw [fault_two, h'.1, h'.2.1, h'.2.2.1, h'.2.2.2]
      rfl
    | [w, x, k], h =>
      rw [fault_three, show isW w "times" = false from h]
      rfl
    | _ :: _ :: _ :: _ :: _, h => rfl
  | _ => rfl
end
/-- none, or a word -/
def isAns (d : PyData) : Prop := d = .none ∨ ∃ x : Str, d = .str x ∧ decide ((reprText x).length ≤ 41) = true
theorem firstF_ans {f : PyData → PyData} (h : ∀ d, isAns (f d)) : ∀ ds, isAns (firstF f ds)
  | [] => .inl rfl
  | t :: ts => by
    simp only [firstF]
    split
    · exact firstF_ans h ts
    · exact h t
theorem fault_ans (n i : Int) : ∀ (m : Nat) (d : PyData), isAns (fault n i m d)
  | 0, d => .inr ⟨"deep", rfl, by decide +kernel⟩
  | m + 1, d => by
    have ih := fault_ans n i m
    have w : ∀ x : Str, decide ((reprText x).length ≤ 41) = true → isAns (.str x) := fun x h => .inr ⟨x, rfl, h⟩
    unfold fault
    split
    · split
      · split
        · exact .inl rfl
        · exact w _ (by decide +kernel)
      · split
        · split
          · exact .inl rfl
          · exact w _ (by decide +kernel)
        · split
          · split
            · split
              · exact firstF_ans ih _
              · exact w _ (by decide +kernel)
            · exact w _ (by decide +kernel)
          · split
            · exact ih _
            · exact w _ (by decide +kernel)
    · split
      · split
        · exact ih _
        · exact w _ (by decide +kernel)
      · exact w _ (by decide +kernel)
    · exact w _ (by decide +kernel)
theorem isAns.vd {d : PyData} (h : isAns d) : Vd 0 d := by
  rcases h with rfl | ⟨x, rfl, hx⟩
  · exact .non
  · exact .str hx
theorem progGo_vd (n : Int) : ∀ (i : Nat) (ds : List PyData), i + ds.length ≤ 1000 → Vd 1 (progGo n i ds)
  | _, [], _ => Vd.non.mono (by decide)
  | i, t :: ts, h => by
    simp only [progGo]
    split
    · exact progGo_vd n (i + 1) ts (by rw [List.length_cons] at h; omega)
    · refine Vd.tup (fun d hd => ?_) (show 2 ≤ 500 by decide)
      simp only [List.mem_cons, List.not_mem_nil, or_false] at hd
      rcases hd with rfl | rfl
      · exact .int (by rw [List.length_cons] at h; exact Nat.lt_of_le_of_lt (show (((i : Nat) : Int)).natAbs ≤ 1000 by omega) (by decide +kernel))
      · exact (fault_ans n i 12 t).vd
theorem progErr_vd (n : Int) (d : PyData) : Vd 1 (progErr n d) := by
  unfold progErr
  split
  · split
    · rename_i ds h
      exact progGo_vd n 0 ds (by omega)
    · exact (Vd.str (by decide +kernel)).mono (by decide)
  · exact (Vd.str (by decide +kernel)).mono (by decide)
theorem itg_ans {d : PyData} (h : isAns d) : itg d = 0 := by
  rcases h with rfl | ⟨x, rfl, hx⟩ <;> rfl
theorem progGo_itg (n : Int) : ∀ (i : Nat) (ds : List PyData), itg (progGo n i ds) ≤ 2
  | _, [] => Nat.zero_le _
  | i, t :: ts => by
    simp only [progGo]
    split
    · exact progGo_itg n (i + 1) ts
    · have := itg_ans (fault_ans n i 12 t)
      simp only [itg, itgA, this, List.length_cons, List.length_nil]
      omega
theorem progErr_itg (n : Int) (d : PyData) : itg (progErr n d) ≤ 2 := by
  unfold progErr
  split
  · split
    · exact progGo_itg n 0 _
    · exact Nat.zero_le _
  · exact Nat.zero_le _
/-- a term's look: n, i, the term, how deep -/
def spFault (m : Nat) : Sp := fun vs H Q _ => ∃ (n i : Int) (v : V) (d : PyData), vs = [.int n, .int i, v, .int (13 - (m : Int))] ∧ Dq H v d ∧ vB d = true ∧ ∀ H' r, Same H H' → Dq H' r (fault n i m d) → Q r H'
/-- the same of data of some size -/
def spErrV (F : Int → PyData → PyData) : Sp := fun vs H Q _ => ∃ (n : Int) (v : V) (d : PyData), vs = [.int n, v] ∧ Dq H v d ∧ vB d = true ∧ ∀ H' r, Same H H' → Dq H' r (F n d) → Q r H'
end Kr
namespace Kr
open PySem PySem.Spec PyProof.Rows L2
section
variable {P : Program} {w : World} {K : PySem.W.Frag} {mg : Str → Option Value} {base : Heap}
theorem scT : FnScope ["value", "size"] ["value", "size"] (defScope sTupleOf) := ⟨rfl, rfl, rfl, by decide +kernel, rfl, by decide +kernel, by decide +kernel⟩
theorem o_tupleOf (D : Df K mg "is_tuple_of" sTupleOf ["value", "size"]) (B : Bi mg) : Ok P w K mg base 1 "is_tuple_of" ["value", "size"] spT := by
  refine D.ok fun f fd F => F.ok scT (fun vs H Q E h => ?_) (fun cdv A outer s H vs Q E hr h => ?_)
  · obtain ⟨v, d, n, rfl, _⟩ := h
    rfl
  · obtain ⟨v, d, n, rfl, hd, q⟩ := h
    refine ⟨_, pss_one (ps_ret (pe_and (pe_callB call_isi (by rfl) B.isinstance (by decide +kernel) (pa_cons (pv 0) (pa_cons (pe_bltn (v := .ty "tuple") (by rfl) B.tuple (by decide +kernel) rfl) pa_nil)))
      (pe_one (pe_cmpR op_eq (pe_callB call_len_seq (by rfl) B.len boot_len (pa_cons (pv 0) pa_nil)) (pv 1) (nomark _))))), ?_⟩
    refine ⟨v, rfl, v, .ty "tuple", _, _, isTu d, rfl, .ty "tuple", hd.ty, kit_tuple d, isTu d, rfl, ?_⟩
    by_cases hi1 : isTu d = true
    · rw [hi1]
      refine iteT ?_
      cases hd with
      | @tup a xs ds e qa =>
        refine ⟨.ref a, rfl, a, xs, rfl, .inr (SqT.of e), .int n, rfl, rfl, ?_⟩
        have e1 : isT (.tuple ds) n = decide (V.int (xs.length : Int) = V.int n) := by
          rw [qa.len]
          simp [isT]
        rw [e1] at q
        exact q
      | _ => simp [isTu] at hi1
    · rw [Bool.eq_false_iff.mpr hi1]
      have e : isT d n = false := by cases d <;> first | rfl | exact absurd rfl hi1
      rw [e] at q
      exact iteF q
end
end Kr
namespace Kr
open PySem PySem.Spec PyProof.Rows L2
/-! ### _has_term_form -/
theorem is2 {d : PyData} (h : isT d 2 = true) : ∃ x y, d = .tuple [x, y] := by
  cases d with
  | tuple ds =>
    have h1 : (ds.length : Int) = 2 := of_decide_eq_true h
    match ds, h1 with
    | [x, y], _ => exact ⟨x, y, rfl⟩
    | [], h => cases h
    | [_], h => simp at h
    | _ :: _ :: _ :: r, h => simp at h; omega
  | _ => cases h
theorem dq2 {H : Hp} {v : V} {x y : PyData} (h : Dq H v (.tuple [x, y])) : ∃ a u1 u2, v = .ref a ∧ H a = some (.tup [u1, u2]) ∧ Dq H u1 x ∧ Dq H u2 y := by
  cases h with
  | tup e q =>
    cases q with
    | cons q1 q =>
      cases q with
      | cons q2 q =>
        cases q
        exact ⟨_, _, _, rfl, e, q1, q2⟩
def spForm : Sp := fun vs H Q _ => ∃ (v : V) (d : PyData), vs = [v] ∧ Dq H v d ∧ Q (.bl (hasForm d)) H
def PairW (K : PySem.W.Frag) (mg : Str → Option Value) : Prop := ∃ W, mg "PAIR_WORDS" = some (.ref W) ∧ ∀ H, SqT K H W ([("do" : Str), "row", "back", "part"].map V.str)
section
variable {P : Program} {w : World} {K : PySem.W.Frag} {mg : Str → Option Value} {base : Heap}
abbrev n_hasForm : List Str := ["value"]
theorem sc_hasForm : FnScope n_hasForm ["value"] (defScope sHasTermForm) := ⟨rfl, rfl, rfl, by decide +kernel, rfl, by decide +kernel, by decide +kernel⟩
theorem o_hasForm (hW : PairW K mg) (D0 : Df K mg "_has_term_form" sHasTermForm ["value"]) (B : Bi mg) (tp : Ok P w K mg base 1 "is_tuple_of" ["value", "size"] spT) : Ok P w K mg base 2 "_has_term_form" ["value"] spForm := by
  refine D0.ok fun f fd F => F.ok sc_hasForm (fun vs H Q E h => ?_) (fun cdv A outer s H vs Q E hr h => ?_)
  · obtain ⟨_, _, rfl, _⟩ := h
    rfl
  · obtain ⟨v, d, rfl, hv, q⟩ := h
    have hr_tp := hr.mono (show 1 ≤ 1 by omega)
    have hu : (cxOf CX0 P w K mg base n_hasForm "_has_term_form" (defScope sHasTermForm) f cdv A outer s H E).A.units + 64 < cLine := hr.units
    have hu1 := hu_of hr
    obtain ⟨W, gW, hWs⟩ := hW
    refine ⟨_, pss_cons (ps_if (pt_val (pe_fn tp hr_tp (by rfl) (pa_cons (pv 0) (pa_cons pe_int pa_nil)))) (pss_one (ps_ret (pe_cmpR (r := rInW K) (op_inW (by exact hu)) (pe_ix ix_tup (pv 0) pe_int (fun _ _ => rfl)) (pe_glob (v := .ref W) (by rfl) gW rfl) rfl))) pss_nil)
      (pss_one (ps_ret (pe_and (pe_fn tp hr_tp (by rfl) (pa_cons (pv 0) (pa_cons pe_int pa_nil))) (pe_one (pe_cmpR (op_eqS (by exact hu)) (pe_ix ix_tup (pv 0) pe_int (fun _ _ => rfl)) pe_str (nomark _)))))), ?_⟩
    refine ⟨v, rfl, v, d, 2, rfl, hv, isT d 2, rfl, ?_⟩
    by_cases h2 : isT d 2 = true
    · rw [h2]
      obtain ⟨x, y, rfl⟩ := is2 h2
      obtain ⟨a, u1, u2, rfl, ha, q1, q2⟩ := dq2 hv
      refine iteT ⟨.ref a, rfl, a, [u1, u2], 0, u1, rfl, rfl, SqT.of ha, rfl, x, W, [("do" : Str), "row", "back", "part"], q1, rfl, hWs _, ?_⟩
      exact q
    · rw [Bool.eq_false_iff.mpr h2]
      refine iteF ⟨v, rfl, v, d, 3, rfl, hv, isT d 3, rfl, ?_⟩
      by_cases h3 : isT d 3 = true
      · rw [h3]
        obtain ⟨x, y, z, rfl⟩ := is3 h3
        obtain ⟨a, u1, u2, u3, rfl, ha, q1, q2, q3⟩ := dq3 hv
        refine iteT ⟨.ref a, rfl, a, [u1, u2, u3], 0, u1, rfl, rfl, SqT.of ha, rfl, x, ("times" : Str), q1, rfl, ?_⟩
        exact q
      · rw [Bool.eq_false_iff.mpr h3]
        have e : hasForm d = false := by
          cases d with
          | tuple ds =>
            match ds, h2, h3 with
            | [_, _], h2, _ => exact absurd rfl h2
            | [_, _, _], _, h3 => exact absurd rfl h3
            | [], _, _ => rfl
            | [_], _, _ => rfl
            | _ :: _ :: _ :: _ :: _, _, _ => rfl
          | _ => rfl
        rw [e] at q
        exact iteF q
end
end Kr
namespace Kr
open PySem PySem.Spec PyProof.Rows L2
section
variable {P : Program} {w : World} {K : PySem.W.Frag} {mg : Str → Option Value} {base : Heap}
theorem scLE : FnScope ["n", "value", "least", "spot", "item"] ["n", "value"] (defScope sLotError) := ⟨rfl, rfl, rfl, by decide +kernel, rfl, by decide +kernel, by decide +kernel⟩
theorem o_lotErr (D0 : Df K mg "lot_error" sLotError ["n", "value"]) (B : Bi mg) (b : Ok P w K mg base 1 "is_between" ["value", "least", "most"] spB) : Ok P w K mg base 2 "lot_error" ["n", "value"] (spErr lotErr) := by
  refine D0.ok fun f fd F => F.ok scLE (fun vs H Q E h => ?_) (fun cdv A outer s H vs Q E hr h => ?_)
  · obtain ⟨n, v, d, rfl, _⟩ := h
    rfl
  · obtain ⟨n, v, d, rfl, hd, q⟩ := h
    refine ⟨_, pss_cons (ps_if (pt_not (pt_val (pe_callB call_isi (by rfl) B.isinstance (by decide +kernel) (pa_cons (pv 1) (pa_cons (pe_bltn (v := .ty "tuple") (by rfl) B.tuple (by decide +kernel) rfl) pa_nil))))) (pss_one (ps_ret pe_str)) pss_nil)
      (pss_cons (ps_set (i := 2) scLE.nd rfl (.inl rfl) pe_int)
      (pss_cons (ps_for PassesOwn.never rfl (pi_enumT (by rfl) B.enumerate (pa_cons (pv 1) pa_nil)) (pg_tup rfl (pgs_cons (pg_name (i := 3) scLE.nd rfl (.inl rfl)) (pgs_cons (pg_name (i := 4) scLE.nd rfl (.inl rfl)) pgs_nil)))
        (pss_cons (ps_if (pt_not (pt_val (pe_fn b hr (by rfl) (pa_cons (pv 4) (pa_cons (pv 2) (pa_cons (pe_op op_sub (pv 0) pe_int) pa_nil)))))) (pss_one (ps_ret (pe_tup (pa_cons pe_str (pa_cons (pv 3) pa_nil))))) pss_nil)
        (pss_one (ps_set (i := 2) scLE.nd rfl (.inl rfl) (pe_op op_add (pv 4) pe_int)))))
      (pss_one (ps_ret pe_non)))), ?_⟩
    refine ⟨v, rfl, v, .ty "tuple", _, _, isTu d, rfl, .ty "tuple", hd.ty, kit_tuple d, isTu d, rfl, ?_⟩
    by_cases ht : isTu d = true
    · rw [ht]
      refine iteF ?_
      cases hd with
      | @tup a xs ds e qa =>
        refine ⟨.ref a, rfl, a, xs, rfl, SqT.of e, for_it walk_enumT (fun i σ H2 => ∃ (least : Int) (y3 y4 : Option V), σ = [some (.int n), some (.ref a), some (.int least), y3, y4] ∧ Same H H2 ∧ lotErr n (.tuple ds) = lotGo n least i (ds.drop i))
          ⟨0, none, none, rfl, Same.refl _, rfl⟩ (fun i σ H2 _ ⟨_, _, _, _, sm, _⟩ => SqT.of (sm _ _ e)) ?_ ?_⟩
        · rintro i _ σ H2 _ hi ⟨least, y3, y4, rfl, sm, el⟩ ⟨T, x, y, rfl, nT, rfl, e1, e2⟩
          cases Option.some.inj e1
          obtain ⟨dy, hdy, hq⟩ := (DqA.up sm qa).get e2
          have sT : Same H2 (upd H2 T (.tup [.int (i : Nat), y])) := same_new nT
          have ed : ds.drop i = dy :: ds.drop (i + 1) := by
            have := List.getElem?_eq_some_iff.mp hdy
            rw [List.drop_eq_getElem_cons this.1, this.2]
          refine ⟨T, [.int (i : Nat), y], rfl, SqT.of upd_same, rfl, .int (i : Nat), [y], rfl, y, [], rfl, rfl, ?_⟩
          refine ⟨y, rfl, .int least, rfl, .int n, rfl, n, 1, rfl, rfl, y, dy, least, n - 1, rfl, hq.up sT, isB dy least (n - 1), rfl, ?_⟩
          by_cases hb : isB dy least (n - 1) = true
          · rw [hb]
            refine iteF ?_
            obtain ⟨z, rfl, z0, z1⟩ := isB_bd hb
            cases hq
            refine ⟨.int z, rfl, z, 1, rfl, rfl, ?_⟩
            refine ⟨z + 1, _, _, rfl, sm.trans sT, ?_⟩
            rw [el, ed]
            show (if _ then _ else _) = _
            rw [if_pos hb]
            rfl
          · rw [Bool.eq_false_iff.mpr hb]
            refine iteT ⟨.int (i : Nat), rfl, by show 2 ≤ sizeLine; decide, fun t nt => ?_⟩
            refine q _ _ ((sm.trans sT).trans (same_new nt)) ?_
            rw [el, ed]
            show Dq _ _ (if _ then _ else _)
            rw [if_neg hb]
            exact dq_pair upd_same
        · rintro σ H2 ⟨least, y3, y4, rfl, sm, el⟩
          refine q _ _ sm ?_
          rw [el, List.drop_of_length_le (by rw [← qa.len]; exact Nat.le_refl _)]
          exact .non
      | _ => simp [isTu] at ht
    · rw [Bool.eq_false_iff.mpr ht]
      refine iteT (q _ _ (Same.refl _) ?_)
      have e : lotErr n d = eForm := by cases d <;> first | rfl | exact absurd rfl ht
      rw [e]
      exact .str _
end
end Kr
namespace Kr
open PySem PySem.Spec PyProof.Rows L2
abbrev nDE : List Str := ["n", "value", "lot", "a", "b"]
section
variable {P : Program} {w : World} {K : PySem.W.Frag} {mg : Str → Option Value} {base : Heap}
theorem scDE : FnScope nDE ["n", "value"] (defScope sDeedError) := ⟨rfl, rfl, rfl, by decide +kernel, rfl, by decide +kernel, by decide +kernel⟩
theorem o_deedErr (D0 : Df K mg "deed_error" sDeedError ["n", "value"]) (B : Bi mg) (tp : Ok P w K mg base 1 "is_tuple_of" ["value", "size"] spT) (bt : Ok P w K mg base 1 "is_between" ["value", "least", "most"] spB) (le : Ok P w K mg base 2 "lot_error" ["n", "value"] (spErr lotErr)) :
    Ok P w K mg base 3 "deed_error" ["n", "value"] (spErr deedErr) := by
  refine D0.ok fun f fd F => F.ok scDE (fun vs H Q E h => ?_) (fun cdv A outer s H vs Q E hr h => ?_)
  · obtain ⟨n, v, d, rfl, _⟩ := h
    rfl
  · obtain ⟨n, v, d, rfl, hd, q⟩ := h
    have hr1 := hr.mono (show 1 ≤ 2 by decide)
    refine ⟨_, pss_cons (ps_if (pt_not (pt_val (pe_fn tp hr1 (by rfl) (pa_cons (pv 1) (pa_cons pe_int pa_nil))))) (pss_one (ps_ret pe_str)) pss_nil)
      (pss_cons (ps_asg (pv 1) (pg_tup rfl (pgs_cons (pg_name (i := 2) scDE.nd rfl (.inl rfl)) (pgs_cons (pg_name (i := 3) scDE.nd rfl (.inl rfl)) (pgs_cons (pg_name (i := 4) scDE.nd rfl (.inl rfl)) pgs_nil)))))
      (pss_cons (ps_if (pt_cmpR op_notN (pe_fn le hr (by rfl) (pa_cons (pv 0) (pa_cons (pv 2) pa_nil))) pe_non (nomark _)) (pss_one (ps_ret pe_str)) pss_nil)
      (pss_cons (ps_if (PW.pt (pw_or (pt_not (pt_val (pe_fn bt hr1 (by rfl) (pa_cons (pv 3) (pa_cons pe_int (pa_cons (pe_op op_sub (pv 0) pe_int) pa_nil))))))
        (pw_or (pt_not (pt_val (pe_fn bt hr1 (by rfl) (pa_cons (pv 4) (pa_cons (pe_op op_add (pv 3) pe_int) (pa_cons (pe_op op_sub (pv 0) pe_int) pa_nil))))))
        (pw_or (pt_cmpR op_in_seq (pv 3) (pv 2) rfl) (pw_or1 (pt_cmpR op_in_seq (pv 4) (pv 2) rfl)))))) (pss_one (ps_ret pe_str)) pss_nil)
      (pss_one (ps_ret pe_non))))), ?_⟩
    refine ⟨v, rfl, v, d, 3, rfl, hd, isT d 3, rfl, ?_⟩
    by_cases ht : isT d 3 = true
    · rw [ht]
      refine iteF ?_
      obtain ⟨l, x, y, rfl⟩ := is3 ht
      obtain ⟨a, u1, u2, u3, rfl, ea, q1, q2, q3⟩ := dq3 hd
      refine ⟨.ref a, rfl, a, _, rfl, SqT.of ea, rfl, u1, _, rfl, u2, _, rfl, u3, _, rfl, rfl, ?_⟩
      refine ⟨.int n, rfl, u1, rfl, n, u1, l, rfl, q1, fun H2 r s2 hr2 => ⟨rfl, _, rfl, ?_⟩⟩
      have hno := hr2.no
      rw [lotErr_no] at hno
      rw [hno]
      by_cases hl : lotOk n l = true
      · rw [hl]
        refine iteF ?_
        obtain ⟨ns, rfl, hb⟩ := lotOk_ints hl
        obtain ⟨la, rfl, hla⟩ := dq_tupI q1
        have hla2 := s2 _ _ hla
        have eD : deedErr n (.tuple [.tuple (ns.map .int), x, y]) = if plOk n (.tuple (ns.map .int)) x y = true then .none else .str "places" := by
          show (if _ then _ else _) = _
          rw [if_pos hl]
        have em : ivl (.tuple (ns.map .int)) = ns := by
          show (ns.map PyData.int).map iv = ns
          rw [List.map_map]
          exact List.map_id ns
        rw [eD] at q
        unfold plOk at q
        rw [em] at q
        refine ⟨u2, rfl, .int n, rfl, n, 1, rfl, rfl, u2, x, 0, n - 1, rfl, q2.up s2, isB x 0 (n - 1), rfl, ?_⟩
        by_cases hx : isB x 0 (n - 1) = true
        · rw [hx]
          refine iteF ?_
          obtain ⟨i, rfl, i0, i1⟩ := isB_bd hx
          cases q2
          refine ⟨u3, rfl, .int i, rfl, i, 1, rfl, rfl, .int n, rfl, n, 1, rfl, rfl, u3, y, i + 1, n - 1, rfl, q3.up s2, isB y (i + 1) (n - 1), rfl, ?_⟩
          have hyb : isB y (i + 1) (n - 1) = (isB y 0 (n - 1) && decide (i < iv y)) := isB_from (by omega)
          have q' : ∀ H' r, Same H H' → Dq H' r (if (isB y 0 (n - 1) && decide (i < iv y) && !decide (i ∈ ns) && !decide (iv y ∈ ns)) = true then .none else .str "places") → Q r H' := by
            rw [hx, Bool.true_and] at q
            exact q
          rw [← hyb] at q'
          by_cases hy : isB y (i + 1) (n - 1) = true
          · rw [hy] at q' ⊢
            refine iteF ?_
            obtain ⟨j, rfl, j0, j1⟩ := isB_bd hy
            cases q3
            refine ⟨.int i, rfl, .ref la, rfl, la, _, rfl, .inr (SqT.of hla2), rfl, flat_ints ns, _, rfl, ?_⟩
            rw [show (if false = true then !inV (V.int i) (ns.map V.int) else inV (V.int i) (ns.map V.int)) = decide (i ∈ ns) from inV_ints i ns]
            by_cases hi : i ∈ ns
            · rw [decide_eq_true hi] at q' ⊢
              exact iteT (q' _ _ s2 (.str _))
            · rw [decide_eq_false hi] at q' ⊢
              refine iteF ⟨.int j, rfl, .ref la, rfl, la, _, rfl, .inr (SqT.of hla2), rfl, flat_ints ns, _, rfl, ?_⟩
              rw [show (if false = true then !inV (V.int j) (ns.map V.int) else inV (V.int j) (ns.map V.int)) = decide (j ∈ ns) from inV_ints j ns]
              change ∀ H' r, Same H H' → Dq H' r (if (true && !false && !decide (j ∈ ns)) = true then .none else .str "places") → Q r H' at q'
              by_cases hj : j ∈ ns
              · rw [decide_eq_true hj] at q' ⊢
                exact iteT (q' _ _ s2 (.str _))
              · rw [decide_eq_false hj] at q' ⊢
                exact iteF (q' _ _ s2 .non)
          · rw [Bool.eq_false_iff.mpr hy] at q' ⊢
            exact iteT (iteT (q' _ _ s2 (.str _)))
        · rw [Bool.eq_false_iff.mpr hx] at q ⊢
          exact iteT (iteT (q _ _ s2 (.str _)))
      · rw [Bool.eq_false_iff.mpr hl]
        refine iteT (q _ _ s2 ?_)
        show Dq _ _ (if _ then _ else _)
        rw [if_neg hl]
        exact .str _
    · rw [Bool.eq_false_iff.mpr ht]
      refine iteT (q _ _ (Same.refl _) ?_)
      rw [not3 (Bool.eq_false_iff.mpr ht)]
      exact .str _
end
end Kr
namespace Kr
open PySem PySem.Spec PyProof.Rows L2
section
variable {P : Program} {w : World} {K : PySem.W.Frag} {mg : Str → Option Value} {base : Heap}
theorem scB : FnScope ["value", "least", "most"] ["value", "least", "most"] (defScope sBetween) := ⟨rfl, rfl, rfl, by decide +kernel, rfl, by decide +kernel, by decide +kernel⟩
theorem o_between (D : Df K mg "is_between" sBetween ["value", "least", "most"]) (B : Bi mg) : Ok P w K mg base 1 "is_between" ["value", "least", "most"] spB := by
  refine D.ok fun f fd F => F.ok scB (fun vs H Q E h => ?_) (fun cdv A outer s H vs Q E hr h => ?_)
  · obtain ⟨v, d, lo, hi, rfl, _⟩ := h
    rfl
  · obtain ⟨v, d, lo, hi, rfl, hd, q⟩ := h
    refine ⟨_, pss_one (ps_ret (pe_and (pe_callB call_isi (by rfl) B.isinstance (by decide +kernel) (pa_cons (pv 0) (pa_cons (pe_bltn (v := .ty "int") (by rfl) B.int boot_int rfl) pa_nil)))
      (pe_and (pe_not (pe_callB call_isi (by rfl) B.isinstance (by decide +kernel) (pa_cons (pv 0) (pa_cons (pe_bltn (v := .ty "bool") (by rfl) B.bool (by decide +kernel) rfl) pa_nil))))
      (pe_one (pe_chain op_le op_le (pv 1) (pv 0) (pv 2)))))), ?_⟩
    refine ⟨v, rfl, v, .ty "int", _, _, isI d, rfl, .ty "int", hd.ty, kit_int d, isI d, rfl, ?_⟩
    by_cases hi1 : isI d = true
    · rw [hi1]
      refine iteT ?_
      refine ⟨v, rfl, v, .ty "bool", _, _, isBo d, rfl, .ty "bool", hd.ty, kit_bool d, isBo d, rfl, !isBo d, rfl, ?_⟩
      cases hd with
      | bl b => exact q
      | int i =>
        refine ⟨.int lo, rfl, .int i, rfl, _, _, rfl, rfl, decide (lo ≤ i), rfl, ?_⟩
        by_cases h1 : lo ≤ i
        · rw [decide_eq_true h1]
          refine iteT ⟨.int hi, rfl, _, _, rfl, rfl, ?_⟩
          have e : isB (.int i) lo hi = decide (i ≤ hi) := by simp [isB, h1]
          rw [e] at q
          exact q
        · rw [decide_eq_false h1]
          have e : isB (.int i) lo hi = false := by simp [isB, h1]
          rw [e] at q
          exact iteF q
      | _ => simp [isI] at hi1
    · rw [Bool.eq_false_iff.mpr hi1]
      have e : isB d lo hi = false := by cases d <;> first | rfl | exact absurd rfl hi1
      rw [e] at q
      exact iteF q
end
end Kr
namespace Kr
open PySem PySem.Spec PyProof.Rows L2
/-! ### _term_error and _row_error, one within the other -/
def spRow (m : Nat) : Sp := fun vs H Q _ => ∃ (n i : Int) (v : V) (d : PyData), vs = [.int n, .int i, v, .int (13 - ((m + 1 : Nat) : Int))] ∧ Dq H v d ∧ vB d = true ∧ ∀ H' r, Same H H' → Dq H' r (rowF n i m d) → Q r H'
theorem iteTd {b : Bool} {A B : Prop} (hb : b = true) (h : A) : if b = true then A else B := by rw [if_pos hb]; exact h
theorem iteFd {b : Bool} {A B : Prop} (hb : b = false) (h : B) : if b = true then A else B := by rw [hb, if_neg (by decide)]; exact h
def spNo : Sp := fun _ _ _ _ => False
section
variable {P : Program} {w : World} {K : PySem.W.Frag} {mg : Str → Option Value} {base : Heap}
theorem Df.no {x : Str} {st : Stmt} {ps : List Str} {k : Nat} (D0 : Df K mg x st ps) : Ok P w K mg base k x ps spNo := by
  obtain ⟨f, fd, F, r⟩ := D0.ex
  exact D0.ok fun f fd F => ⟨fun vs H Q E h => h.elim, fun A outer s H args us vs Q E _ _ _ _ h => h.elim⟩
abbrev n_rowErr : List Str := ["n", "i", "terms", "deep", "term", "word"]
theorem sc_rowErr : FnScope n_rowErr ["n", "i", "terms", "deep"] (defScope sRowError) := ⟨rfl, rfl, rfl, by decide +kernel, rfl, by decide +kernel, by decide +kernel⟩
theorem o_rowErr (m k : Nat) (hT : ∃ t, mg "MAX_TERMS" = some (.int 400 t)) (D0 : Df K mg "_row_error" sRowError ["n", "i", "terms", "deep"]) (B : Bi mg) (te : Ok P w K mg base (k) "_term_error" ["n", "i", "term", "deep"] (spFault m)) : Ok P w K mg base (k+1) "_row_error" ["n", "i", "terms", "deep"] (spRow m) := by
  refine D0.ok fun f fd F => F.ok sc_rowErr (fun vs H Q E h => ?_) (fun cdv A outer s H vs Q E hr h => ?_)
  · obtain ⟨_, _, _, _, rfl, _⟩ := h
    rfl
  · obtain ⟨n, i, v, d, rfl, hv, hb, q⟩ := h
    have hr_te := hr.mono (show (k) ≤ (k+1) - 1 by omega)
    have hu : (cxOf CX0 P w K mg base n_rowErr "_row_error" (defScope sRowError) f cdv A outer s H E).A.units + 64 < cLine := hr.units
    have hu1 := hu_of hr
    obtain ⟨_, gT⟩ := hT
    refine ⟨_, pss_cons (ps_if (PW.pt (pw_or (pt_not (pt_val (pe_callB call_isi (by rfl) B.isinstance (by decide +kernel) (pa_cons (pv 2) (pa_cons (pe_bltn (v := .ty "tuple") (by rfl) B.tuple (by decide +kernel) rfl) pa_nil))))) (pw_or1 (pt_cmpR op_gt (pe_callB call_len_seq (by rfl) B.len boot_len (pa_cons (pv 2) pa_nil)) (pe_glob (v := .int 400) (by rfl) gT ⟨_, rfl⟩) (nomark _))))) (pss_one (ps_ret pe_str)) pss_nil)
      (pss_cons (ps_for PassesOwn.never rfl (pi_tup (pv 2)) (pg_name (i := 4) sc_rowErr.nd rfl (.inl rfl))
        (pss_cons (ps_set (i := 5) sc_rowErr.nd rfl (.inl rfl) (pe_fn te hr_te (by rfl) (pa_cons (pv 0) (pa_cons (pv 1) (pa_cons (pv 4) (pa_cons (pe_op op_add (pv 3) pe_int) pa_nil))))))
        (pss_one (ps_if (pt_cmpR op_notN (pv 5) pe_non (nomark _)) (pss_one (ps_ret (pv 5))) pss_nil))))
      (pss_one (ps_ret pe_non))), ?_⟩
    refine ⟨v, rfl, v, .ty "tuple", _, _, isTu d, rfl, .ty "tuple", hv.ty, kit_tuple d, isTu d, rfl, ?_⟩
    by_cases ht : isTu d = true
    rotate_left
    · rw [Bool.eq_false_iff.mpr ht]
      refine iteT (iteT (q _ _ (Same.refl _) ?_))
      cases d with
      | tuple _ => exact absurd rfl ht
      | _ => exact .str _
    rw [ht]
    refine iteF ?_
    obtain ⟨ds, rfl⟩ : ∃ ds, d = .tuple ds := low_isTu ht
    obtain ⟨a, xs, rfl, ha, qx⟩ := Dq.tup_inv hv
    have hxl := qx.len
    refine ⟨.ref a, rfl, a, xs, rfl, .inr (SqT.of ha), _, _, rfl, rfl, _, rfl, ite2 (fun c => ?_) (fun c => ?_)⟩
    · have c1 : ¬ ds.length ≤ 400 := by
        have := of_decide_eq_true c
        omega
      refine q _ _ (Same.refl _) ?_
      simp only [rowF, if_neg c1]
      exact .str _
    · have c1 : ds.length ≤ 400 := by
        have : ¬ (400 : Int) < (xs.length : Int) := fun z => c (decide_eq_true z)
        omega
      have hbA : vBA ds = true := by
        simp only [vB, Bool.and_eq_true] at hb
        exact hb.2
      simp only [rowF, if_pos c1] at q
      refine ⟨.ref a, rfl, a, rfl, ⟨_, SqT.of ha⟩, for_it (walk_tup (K := K) (a := a) (xs := xs)) (fun j σ G => ∃ y4 y5 : Option V, σ = [some (.int n), some (.int i), some (.ref a), some (.int (13 - ((m + 1 : Nat) : Int))), y4, y5] ∧ Same H G ∧ firstF (fault n i m) ds = firstF (fault n i m) (ds.drop j)) ⟨none, none, rfl, Same.refl _, rfl⟩ (fun _ _ _ _ ⟨_, _, _, sm, _⟩ => SqT.of (sm _ _ ha)) ?_ ?_⟩
      · rintro j x σ G _ hj ⟨y4, y5, rfl, sm, e⟩ ⟨rfl, hx⟩
        obtain ⟨t, ht1, qt⟩ := qx.get hx
        have ed : ds.drop j = t :: ds.drop (j + 1) := by
          have := List.getElem?_eq_some_iff.mp ht1
          rw [List.drop_eq_getElem_cons this.1, this.2]
        refine ⟨.int n, rfl, .int i, rfl, x, rfl, _, rfl, _, 1, rfl, rfl, n, i, x, t, ?_, qt.up sm, vBA_mem hbA t (List.mem_of_getElem? ht1), fun H2 r s2 hr2 => ?_⟩
        · show [V.int n, V.int i, x, V.int (13 - ((m + 1 : Nat) : Int) + 1)] = _
          rw [show (13 - ((m + 1 : Nat) : Int)) + 1 = 13 - (m : Int) by omega]
        dsimp only [tNext]
        refine ⟨r, rfl, rfl, _, rfl, ?_⟩
        have hno := hr2.no
        rw [hno]
        by_cases hn : isNo (fault n i m t) = true
        · rw [hn]
          refine iteF ⟨_, _, rfl, sm.trans s2, ?_⟩
          rw [e, ed]
          simp only [firstF, if_pos hn]
        · rw [Bool.eq_false_iff.mpr hn]
          refine iteT ⟨r, rfl, q _ _ (sm.trans s2) ?_⟩
          rw [e, ed]
          simp only [firstF, if_neg hn]
          exact hr2
      · rintro σ G ⟨y4, y5, rfl, sm, e⟩
        refine q _ _ sm ?_
        rw [e, hxl, List.drop_length]
        exact .non
abbrev n_termErr : List Str := ["n", "i", "term", "deep", "word"]
theorem sc_termErr : FnScope n_termErr ["n", "i", "term", "deep"] (defScope sTermError) := ⟨rfl, rfl, rfl, by decide +kernel, rfl, by decide +kernel, by decide +kernel⟩
theorem o_termErr (m k : Nat) {spR spX : Sp} (hD : ∃ t, mg "MAX_DEEP" = some (.int 12 t)) (hM : ∃ t, mg "MAX_TIMES" = some (.int (10 ^ 30) t)) (hs : ∀ j, m = j + 1 → (∀ vs H Q E, spFault j vs H Q E → spX vs H Q E) ∧ ∀ vs H Q E, spRow j vs H Q E → spR vs H Q E) (D0 : Df K mg "_term_error" sTermError ["n", "i", "term", "deep"]) (B : Bi mg) (hf : Ok P w K mg base 2 "_has_term_form" ["value"] spForm) (de : Ok P w K mg base 3 "deed_error" ["n", "value"] (spErr deedErr)) (bt : Ok P w K mg base 1 "is_between" ["value", "least", "most"] spB) (ro : Ok P w K mg base (k+3) "_row_error" ["n", "i", "terms", "deep"] spR) (te : Ok P w K mg base (k+3) "_term_error" ["n", "i", "term", "deep"] spX) : Ok P w K mg base (k+4) "_term_error" ["n", "i", "term", "deep"] (spFault m) := by
  refine D0.ok fun f fd F => F.ok sc_termErr (fun vs H Q E h => ?_) (fun cdv A outer s H vs Q E hr h => ?_)
  · obtain ⟨_, _, _, _, rfl, _⟩ := h
    rfl
  · obtain ⟨n, i, v, d, rfl, hv, hb, q⟩ := h
    have hr_hf := hr.mono (show 2 ≤ (k+4) - 1 by omega)
    have hr_de := hr.mono (show 3 ≤ (k+4) - 1 by omega)
    have hr_bt := hr.mono (show 1 ≤ (k+4) - 1 by omega)
    have hr_ro := hr.mono (show (k+3) ≤ (k+4) - 1 by omega)
    have hr_te := hr.mono (show (k+3) ≤ (k+4) - 1 by omega)
    have hu : (cxOf CX0 P w K mg base n_termErr "_term_error" (defScope sTermError) f cdv A outer s H E).A.units + 64 < cLine := hr.units
    have hu1 := hu_of hr
    obtain ⟨_, gD⟩ := hD
    obtain ⟨_, gM⟩ := hM
    refine ⟨_, pss_cons (ps_if (pt_cmpR op_gt (pv 3) (pe_glob (v := .int 12) (by rfl) gD ⟨_, rfl⟩) (nomark _)) (pss_one (ps_ret pe_str)) pss_nil)
      (pss_cons (ps_if (pt_not (pt_val (pe_fn hf hr_hf (by rfl) (pa_cons (pv 2) pa_nil)))) (pss_one (ps_ret pe_str)) pss_nil)
      (pss_cons (ps_set (i := 4) sc_termErr.nd rfl (.inl rfl) (pe_ix ix_tup (pv 2) pe_int (fun _ _ => rfl)))
      (pss_cons (ps_if (pt_cmpR op_eq (pv 4) pe_str (nomark _)) (pss_one (ps_ret (pe_ifExp (pt_cmpR op_isN (pe_fn de hr_de (by rfl) (pa_cons (pv 0) (pa_cons (pe_ix ix_tup (pv 2) pe_int (fun _ _ => rfl)) pa_nil))) pe_non (nomark _)) pe_non pe_str))) pss_nil)
      (pss_cons (ps_if (pt_cmpR op_eq (pv 4) pe_str (nomark _)) (pss_one (ps_ret (pe_ifExp (pt_val (pe_fn bt hr_bt (by rfl) (pa_cons (pe_ix ix_tup (pv 2) pe_int (fun _ _ => rfl)) (pa_cons pe_int (pa_cons (pe_op op_sub (pv 1) pe_int) pa_nil))))) pe_non pe_str))) pss_nil)
      (pss_cons (ps_if (pt_cmpR op_eq (pv 4) pe_str (nomark _)) (pss_one (ps_ret (pe_fn ro hr_ro (by rfl) (pa_cons (pv 0) (pa_cons (pv 1) (pa_cons (pe_ix ix_tup (pv 2) pe_int (fun _ _ => rfl)) (pa_cons (pv 3) pa_nil))))))) pss_nil)
      (pss_cons (ps_if (PW.pt (pw_and (pt_cmpR op_eq (pv 4) pe_str (nomark _)) (pw_and1 (pt_not (pt_val (pe_fn bt hr_bt (by rfl) (pa_cons (pe_ix ix_tup (pv 2) pe_int (fun _ _ => rfl)) (pa_cons pe_int (pa_cons (pe_glob (v := .int (10 ^ 30)) (by rfl) gM ⟨_, rfl⟩) pa_nil))))))))) (pss_one (ps_ret pe_str)) pss_nil)
      (pss_one (ps_ret (pe_fn te hr_te (by rfl) (pa_cons (pv 0) (pa_cons (pv 1) (pa_cons (pe_ix ix_tup (pv 2) pe_int (fun _ _ => rfl)) (pa_cons (pe_op op_add (pv 3) pe_int) pa_nil))))))))))))), ?_⟩
    cases m with
    | zero =>
      refine ⟨_, rfl, _, _, rfl, rfl, _, rfl, iteT (q _ _ (Same.refl _) ?_)⟩
      exact .str _
    | succ m =>
      obtain ⟨hX, hR⟩ := hs m rfl
      refine ⟨_, rfl, _, _, rfl, rfl, _, rfl, ite2 (fun c => ?_) (fun c => ?_)⟩
      · exfalso
        have := of_decide_eq_true c
        omega
      dsimp only [tNext]
      refine ⟨v, rfl, v, d, rfl, hv, hasForm d, rfl, ?_⟩
      by_cases hF : hasForm d = true
      rotate_left
      · rw [Bool.eq_false_iff.mpr hF]
        refine iteT (q _ _ (Same.refl _) ?_)
        rw [fault_term (Bool.eq_false_iff.mpr hF)]
        exact .str _
      rw [hF]
      refine iteF ?_
      rcases hasForm_inv hF with ⟨x, rfl⟩ | ⟨x, rfl⟩ | ⟨x, rfl⟩ | ⟨x, rfl⟩ | ⟨x, k, rfl⟩
      · obtain ⟨a, u1, u2, rfl, ha, q1, q2⟩ := dq2 hv
        cases q1
        rw [fault_do] at q
        refine ⟨.ref a, rfl, a, [_, u2], 0, _, rfl, rfl, SqT.of ha, rfl, ?_⟩
        dsimp only [tNext]
        refine ⟨_, rfl, rfl, _, rfl, iteTd (by decide +kernel) ⟨.int n, rfl, .ref a, rfl, a, [_, u2], 1, u2, rfl, rfl, SqT.of ha, rfl, n, u2, x, rfl, q2, fun H2 r s2 hr2 => ⟨rfl, _, rfl, ?_⟩⟩⟩
        have hno := hr2.no
        rw [hno]
        by_cases hn : isNo (deedErr n x) = true
        · rw [if_pos hn] at q
          rw [hn]
          exact iteT (q _ _ s2 .non)
        · rw [if_neg hn] at q
          rw [Bool.eq_false_iff.mpr hn]
          exact iteF (q _ _ s2 (.str _))
      · obtain ⟨a, u1, u2, rfl, ha, q1, q2⟩ := dq2 hv
        cases q1
        rw [fault_part] at q
        refine ⟨.ref a, rfl, a, [_, u2], 0, _, rfl, rfl, SqT.of ha, rfl, ?_⟩
        dsimp only [tNext]
        refine ⟨_, rfl, rfl, _, rfl, iteFd (by decide +kernel) ?_⟩
        dsimp only [tNext]
        refine ⟨_, rfl, rfl, _, rfl, iteTd (by decide +kernel) ⟨.ref a, rfl, a, [_, u2], 1, u2, rfl, rfl, SqT.of ha, rfl, .int i, rfl, _, _, rfl, rfl, u2, x, 0, i - 1, rfl, q2, isB x 0 (i - 1), rfl, ?_⟩⟩
        by_cases hn : isB x 0 (i - 1) = true
        · rw [if_pos hn] at q
          rw [hn]
          exact iteT (q _ _ (Same.refl _) .non)
        · rw [if_neg hn] at q
          rw [Bool.eq_false_iff.mpr hn]
          exact iteF (q _ _ (Same.refl _) (.str _))
      · obtain ⟨a, u1, u2, rfl, ha, q1, q2⟩ := dq2 hv
        cases q1
        rw [fault_row] at q
        have hbx : vB x = true := vBA_mem (by simp only [vB, Bool.and_eq_true] at hb; exact hb.2) x (by simp)
        refine ⟨.ref a, rfl, a, [_, u2], 0, _, rfl, rfl, SqT.of ha, rfl, ?_⟩
        dsimp only [tNext]
        refine ⟨_, rfl, rfl, _, rfl, iteFd (by decide +kernel) ?_⟩
        dsimp only [tNext]
        refine ⟨_, rfl, rfl, _, rfl, iteFd (by decide +kernel) ?_⟩
        dsimp only [tNext]
        refine ⟨_, rfl, rfl, _, rfl, iteTd (by decide +kernel) ⟨.int n, rfl, .int i, rfl, .ref a, rfl, a, [_, u2], 1, u2, rfl, rfl, SqT.of ha, rfl, _, rfl, hR _ _ _ _ ⟨n, i, u2, x, rfl, q2, hbx, fun H2 r s2 hr2 => q _ _ s2 hr2⟩⟩⟩
      · obtain ⟨a, u1, u2, rfl, ha, q1, q2⟩ := dq2 hv
        cases q1
        rw [fault_back] at q
        have hbx : vB x = true := vBA_mem (by simp only [vB, Bool.and_eq_true] at hb; exact hb.2) x (by simp)
        refine ⟨.ref a, rfl, a, [_, u2], 0, _, rfl, rfl, SqT.of ha, rfl, ?_⟩
        dsimp only [tNext]
        refine ⟨_, rfl, rfl, _, rfl, iteFd (by decide +kernel) ?_⟩
        dsimp only [tNext]
        refine ⟨_, rfl, rfl, _, rfl, iteFd (by decide +kernel) ?_⟩
        dsimp only [tNext]
        refine ⟨_, rfl, rfl, _, rfl, iteFd (by decide +kernel) ?_⟩
        dsimp only [tNext]
        refine ⟨_, rfl, rfl, _, rfl, iteFd (by decide +kernel) (iteF ?_)⟩
        refine ⟨.int n, rfl, .int i, rfl, .ref a, rfl, a, [_, u2], 1, u2, rfl, rfl, SqT.of ha, rfl, _, rfl, _, _, rfl, rfl, hX _ _ _ _ ⟨n, i, u2, x, ?_, q2, hbx, fun H2 r s2 hr2 => q _ _ s2 hr2⟩⟩
        show [V.int n, V.int i, u2, V.int (13 - ((m + 1 : Nat) : Int) + 1)] = _
        rw [show (13 - ((m + 1 : Nat) : Int)) + 1 = 13 - (m : Int) by omega]
      · obtain ⟨a, u1, u2, u3, rfl, ha, q1, q2, q3⟩ := dq3 hv
        cases q1
        rw [fault_times] at q
        have hbx : vB x = true := vBA_mem (by simp only [vB, Bool.and_eq_true] at hb; exact hb.2) x (by simp)
        refine ⟨.ref a, rfl, a, [_, u2, u3], 0, _, rfl, rfl, SqT.of ha, rfl, ?_⟩
        dsimp only [tNext]
        refine ⟨_, rfl, rfl, _, rfl, iteFd (by decide +kernel) ?_⟩
        dsimp only [tNext]
        refine ⟨_, rfl, rfl, _, rfl, iteFd (by decide +kernel) ?_⟩
        dsimp only [tNext]
        refine ⟨_, rfl, rfl, _, rfl, iteFd (by decide +kernel) ?_⟩
        dsimp only [tNext]
        refine ⟨_, rfl, rfl, _, rfl, iteTd (by decide +kernel) ⟨.ref a, rfl, a, [_, u2, u3], 2, u3, rfl, rfl, SqT.of ha, rfl, u3, k, 0, 10 ^ 30, rfl, q3, isB k 0 (10 ^ 30), rfl, ?_⟩⟩
        by_cases hn : isB k 0 (10 ^ 30) = true
        · rw [if_pos hn] at q
          rw [hn]
          refine iteF ⟨.int n, rfl, .int i, rfl, .ref a, rfl, a, [_, u2, u3], 1, u2, rfl, rfl, SqT.of ha, rfl, _, rfl, _, _, rfl, rfl, hX _ _ _ _ ⟨n, i, u2, x, ?_, q2, hbx, fun H2 r s2 hr2 => q _ _ s2 hr2⟩⟩
          show [V.int n, V.int i, u2, V.int (13 - ((m + 1 : Nat) : Int) + 1)] = _
          rw [show (13 - ((m + 1 : Nat) : Int)) + 1 = 13 - (m : Int) by omega]
        · rw [if_neg hn] at q
          rw [Bool.eq_false_iff.mpr hn]
          exact iteT (q _ _ (Same.refl _) (.str _))
theorem o_termErrs (hD : ∃ t, mg "MAX_DEEP" = some (.int 12 t)) (hM : ∃ t, mg "MAX_TIMES" = some (.int (10 ^ 30) t)) (hT : ∃ t, mg "MAX_TERMS" = some (.int 400 t)) (D0 : Df K mg "_term_error" sTermError ["n", "i", "term", "deep"]) (D1 : Df K mg "_row_error" sRowError ["n", "i", "terms", "deep"]) (B : Bi mg) (hf : Ok P w K mg base 2 "_has_term_form" ["value"] spForm) (de : Ok P w K mg base 3 "deed_error" ["n", "value"] (spErr deedErr)) (bt : Ok P w K mg base 1 "is_between" ["value", "least", "most"] spB) :
    ∀ m, Ok P w K mg base (2 * m + 4) "_term_error" ["n", "i", "term", "deep"] (spFault m)
  | 0 => o_termErr 0 0 (spR := spNo) (spX := spNo) hD hM (fun j h => nomatch h) D0 B hf de bt D1.no D0.no
  | m + 1 => by
    have te := o_termErrs hD hM hT D0 D1 B hf de bt m
    have ro := o_rowErr m (2 * m + 4) hT D1 B te
    exact o_termErr (m + 1) (2 * m + 2) (spR := spRow m) (spX := spFault m) hD hM (fun j h => by
      cases h
      exact ⟨fun _ _ _ _ h => h, fun _ _ _ _ h => h⟩) D0 B hf de bt ro (te.mono (by omega))
end
end Kr
namespace Kr
open PySem PySem.Spec PyProof.Rows L2
def spSpo (n : Nat) : Sp := fun vs H Q _ => ∃ (S : List Addr) (p l : Addr) (v : V) (many spot deep : Nat) (t : Tm), vs = [.ref p, .int (many : Int), .int (spot : Int), v, .int (deep : Int)] ∧ Wl S p l H ∧ 3 ≤ many ∧ many ≤ 24 ∧ spot ≤ 400 ∧ Dq (hidS S H) v (tmD t) ∧ okTm (Deed many) 3 spot t ∧ dep t ≤ n ∧ 1 ≤ deep ∧ deep + dep t ≤ 8 ∧
  ∀ H' r d', Wl S p l H' → Ext p l H H' → Dq (hidS S H') r d' → Vd (2 * (14 - deep) + 2 * dep t + 1) d' → Q r H'
theorem dep_pos : ∀ t : Tm, 1 ≤ dep t
  | .doo _ => Nat.le_refl _
  | .part _ => Nat.le_refl _
  | .row _ => Nat.le_add_left _ _
  | .back _ => Nat.le_add_left _ _
  | .times _ _ => Nat.le_add_left _ _
section
variable {P : Program} {w : World} {K : PySem.W.Frag} {mg : Str → Option Value} {base : Heap}
abbrev n_lSpo : List Str := ["deck", "many", "spot", "term", "deep", "place", "inner"]
theorem sc_lSpo : FnScope n_lSpo ["deck", "many", "spot", "term", "deep"] (defScope sLSpoilt) := ⟨rfl, rfl, rfl, by decide +kernel, rfl, by decide +kernel, by decide +kernel⟩
theorem o_lSpo (n : Nat) {spX : Sp} (hs : ∀ vs H Q E, spSpo n vs H Q E → spX vs H Q E) (D0 : Df K mg "_law_spoilt" sLSpoilt ["deck", "many", "spot", "term", "deep"]) (B : Bi mg) (dr : Ok P w K mg base 1 "_law_draw" ["deck", "many"] spDraw) (ne : Ok P w K mg base 3 "_law_nested" ["deck", "inner", "times"] spNested) (ba : Ok P w K mg base 4 "_law_bad" ["deck", "many", "spot", "term"] spBad) (sp : Ok P w K mg base (n+4) "_law_spoilt" ["deck", "many", "spot", "term", "deep"] spX) : Ok P w K mg base (n+5) "_law_spoilt" ["deck", "many", "spot", "term", "deep"] (spSpo (n+1)) := by
  refine D0.ok fun f fd F => F.ok sc_lSpo (fun vs H Q E h => ?_) (fun cdv A outer s H vs Q E hr h => ?_)
  · obtain ⟨_, _, _, _, _, _, _, _, rfl, _⟩ := h
    rfl
  · obtain ⟨S, p, l, v, many, spot, deep, t, rfl, w0, m0, m1, hsp, hv, ht, hdn, d0, d1, q⟩ := h
    have hr_dr := hr.mono (show 1 ≤ (n+5) - 1 by omega)
    have hr_ne := hr.mono (show 3 ≤ (n+5) - 1 by omega)
    have hr_ba := hr.mono (show 4 ≤ (n+5) - 1 by omega)
    have hr_sp := hr.mono (show (n+4) ≤ (n+5) - 1 by omega)
    have hu : (cxOf CX0 P w K mg base n_lSpo "_law_spoilt" (defScope sLSpoilt) f cdv A outer s H E).A.units + 64 < cLine := hr.units
    have hu1 := hu_of hr
    refine ⟨_, pss_cons (ps_if (PW.pt (pw_and (pt_cmpR op_eq (pe_ix ix_tup (pv 3) pe_int (fun _ _ => rfl)) pe_str (nomark _)) (pw_and (pt_cmpR (op_neT0 hu) (pe_ix ix_tup (pv 3) pe_int (fun _ _ => rfl)) (pe_tup pa_nil) (nomark _)) (pw_and1 (pt_cmpR op_gt (pe_fn dr hr_dr (by rfl) (pa_cons (pv 0) (pa_cons pe_int pa_nil))) pe_int (nomark _)))))) (pss_cons (ps_set (i := 5) sc_lSpo.nd rfl (.inl rfl) (pe_fn dr hr_dr (by rfl) (pa_cons (pv 0) (pa_cons (pe_callB call_len_seq (by rfl) B.len boot_len (pa_cons (pe_ix ix_tup (pv 3) pe_int (fun _ _ => rfl)) pa_nil)) pa_nil))))
        (pss_cons (ps_set (i := 6) sc_lSpo.nd rfl (.inl rfl) (pe_fn sp hr_sp (by rfl) (pa_cons (pv 0) (pa_cons (pv 1) (pa_cons (pv 2) (pa_cons (pe_ix ix_tup (pe_ix ix_tup (pv 3) pe_int (fun _ _ => rfl)) (pv 5) (fun _ _ => rfl)) (pa_cons (pe_op op_add (pv 4) pe_int) pa_nil)))))))
        (pss_one (ps_ret (pe_tup (pa_cons pe_str (pa_cons (pe_op op_catA (pe_op op_catA (pe_slice sl_tupA (pe_ix ix_tup (pv 3) pe_int (fun _ _ => rfl)) po_none (po_some (pv 5))) (pe_tup (pa_cons (pv 6) pa_nil))) (pe_slice sl_tupA (pe_ix ix_tup (pv 3) pe_int (fun _ _ => rfl)) (po_some (pe_op op_add (pv 5) pe_int)) po_none)) pa_nil))))))) pss_nil)
      (pss_cons (ps_if (PW.pt (pw_and (pt_cmpR (r := rIn K false) op_in_seq (pe_ix ix_tup (pv 3) pe_int (fun _ _ => rfl)) (pe_tup (pa_cons pe_str (pa_cons pe_str pa_nil))) rfl) (pw_and1 (pt_cmpR op_gt (pe_fn dr hr_dr (by rfl) (pa_cons (pv 0) (pa_cons pe_int pa_nil))) pe_int (nomark _))))) (pss_one (ps_ret (pe_op op_catA (pe_tup (pa_cons (pe_ix ix_tup (pv 3) pe_int (fun _ _ => rfl)) (pa_cons (pe_fn sp hr_sp (by rfl) (pa_cons (pv 0) (pa_cons (pv 1) (pa_cons (pv 2) (pa_cons (pe_ix ix_tup (pv 3) pe_int (fun _ _ => rfl)) (pa_cons (pe_op op_add (pv 4) pe_int) pa_nil)))))) pa_nil))) (pe_slice sl_tupA (pv 3) (po_some pe_int) po_none)))) pss_nil)
      (pss_cons (ps_if (pt_cmpR op_eq (pe_fn dr hr_dr (by rfl) (pa_cons (pv 0) (pa_cons pe_int pa_nil))) pe_int (nomark _)) (pss_one (ps_ret (pe_fn ne hr_ne (by rfl) (pa_cons (pv 0) (pa_cons (pv 3) (pa_cons (pe_op op_add (pe_op op_sub pe_int (pv 4)) (pe_fn dr hr_dr (by rfl) (pa_cons (pv 0) (pa_cons pe_int pa_nil)))) pa_nil)))))) pss_nil)
      (pss_one (ps_ret (pe_fn ba hr_ba (by rfl) (pa_cons (pv 0) (pa_cons (pv 1) (pa_cons (pv 2) (pa_cons (pv 3) pa_nil))))))))), ?_⟩
    have dpos := dep_pos t
    have htd : Vd (2 * dep t + 1) (tmD t) := VdTm m1 (by decide) hsp ht
    have fin : ∀ G, Wl S p l G → Ext p l H G → tSeq (tIfS (tTest (tOp rEq (tCall spDraw [] E0 (tCons (tVar 0) (tCons (tC (V.int 6)) tNil))) (tC (V.int 0)))) (tRet (tCall spNested [] E0 (tCons (tVar 0) (tCons (tVar 3) (tCons (tOp (rI0 fun i j => V.int (i + j)) (tOp (rI0 fun i j => V.int (i - j)) (tC (V.int 12)) (tVar 4)) (tCall spDraw [] E0 (tCons (tVar 0) (tCons (tC (V.int 3)) tNil)))) tNil))))) tNext) (tRet (tCall spBad [] E0 (tCons (tVar 0) (tCons (tVar 1) (tCons (tVar 2) (tCons (tVar 3) tNil)))))) { nx := fun _ H' => Q .non H', rt := Q } [some (.ref p), some (.int (many : Int)), some (.int (spot : Int)), some v, some (.int (deep : Int)), none, none] G := fun G w e => by
      have hvG := hv.up (w0.hid e)
      refine ⟨.ref p, rfl, p, l, 6, rfl, w.D, by decide, fun G1 r D1 E1 r0 r1 => ⟨rfl, _, rfl, ?_⟩⟩
      have w1 := w.ext E1 D1
      have hv1 := hvG.up (w.hid E1)
      by_cases hr : r = 0
      · refine iteTd (by rw [hr]; rfl) ⟨.ref p, rfl, v, rfl, .int (deep : Int), rfl, _, _, rfl, rfl, .ref p, rfl, p, l, 3, rfl, w1.D, by decide, fun G2 r2 D2 E2 r3 r4 => ⟨_, _, rfl, rfl, ?_⟩⟩
        have w2 := w1.ext E2 D2
        refine ⟨S, p, l, v, tmD t, 2 * dep t + 1, (12 - (deep : Int) + r2).toNat, ?_, w2, hv1.up (w1.hid E2), htd, by omega, by omega, fun H' r' d' w' e' hr' hd' => ?_⟩
        · show [V.ref p, v, V.int (12 - (deep : Int) + r2)] = _
          rw [Int.toNat_of_nonneg (by omega)]
        · exact q _ _ _ w' (Same.trans e (Same.trans E1 (Same.trans E2 e'))) hr' (hd'.mono (by omega))
      · refine iteFd (decide_eq_false fun z => hr (V.int.inj z)) ?_
        dsimp only [tNext]
        refine ⟨.ref p, rfl, .int (many : Int), rfl, .int (spot : Int), rfl, v, rfl, S, p, l, v, many, spot, 2 * dep t + 1, tmD t, rfl, w1, m0, m1, hsp, hv1, htd, by omega, by omega, fun H' r' d' w' e' hr' hd' => ?_⟩
        exact q _ _ _ w' (Same.trans e (Same.trans E1 e')) hr' (hd'.mono (by omega))
    have recu : ∀ (t' : Tm) (te : TE) (G : Hp) (y5 y6 : Option V), okTm (Deed many) 3 spot t' → dep t' + 1 ≤ dep t → EvQ S p l te [some (.ref p), some (.int (many : Int)), some (.int (spot : Int)), some v, some (.int (deep : Int)), y5, y6] G (fun d => d = tmD t') → EvQ S p l (tCall spX [] E0 (tCons (tVar 0) (tCons (tVar 1) (tCons (tVar 2) (tCons te (tCons (tOp (rI0 fun i j => V.int (i + j)) (tVar 4) (tC (V.int 1))) tNil)))))) [some (.ref p), some (.int (many : Int)), some (.int (spot : Int)), some v, some (.int (deep : Int)), y5, y6] G (Vd (2 * (13 - deep) + 2 * dep t' + 1)) := fun t' te G y5 y6 ho hdp hte G1 w e Q1 q1 => by
      refine ⟨.ref p, rfl, .int (many : Int), rfl, .int (spot : Int), rfl, hte G1 w e _ fun v2 G2 d2 w2 e2 h2 hd2 => ?_⟩
      subst hd2
      refine ⟨.int (deep : Int), rfl, _, _, rfl, rfl, hs _ _ _ _ ⟨S, p, l, v2, many, spot, deep + 1, t', rfl, w2, m0, m1, hsp, h2, ho, by omega, by omega, by omega, fun H' r' d' w' e' hr' hd' => q1 _ _ _ w' (Same.trans e2 e') hr' (hd'.mono (by omega))⟩⟩
    have go2 : ∀ G, Wl S p l G → Ext p l H G → tSeq (tIfS (tAnd (tTest (tOp (rIn K false) (tOp (rIxT K) (tVar 3) (tC (V.int 0))) (tTup (tCons (tC (V.str "back")) (tCons (tC (V.str "times")) tNil))))) (tTest (tOp (rI0 fun i j => V.bl (decide (j < i))) (tCall spDraw [] E0 (tCons (tVar 0) (tCons (tC (V.int 4)) tNil))) (tC (V.int 0))))) (tRet (tOp (rCatA K) (tTup (tCons (tOp (rIxT K) (tVar 3) (tC (V.int 0))) (tCons (tCall spX [] E0 (tCons (tVar 0) (tCons (tVar 1) (tCons (tVar 2) (tCons (tOp (rIxT K) (tVar 3) (tC (V.int 1))) (tCons (tOp (rI0 fun i j => V.int (i + j)) (tVar 4) (tC (V.int 1))) tNil)))))) tNil))) (tSl (rSlA K) (tVar 3) (tPart (tC (V.int 2))) tNoPart))) tNext) (tSeq (tIfS (tTest (tOp rEq (tCall spDraw [] E0 (tCons (tVar 0) (tCons (tC (V.int 6)) tNil))) (tC (V.int 0)))) (tRet (tCall spNested [] E0 (tCons (tVar 0) (tCons (tVar 3) (tCons (tOp (rI0 fun i j => V.int (i + j)) (tOp (rI0 fun i j => V.int (i - j)) (tC (V.int 12)) (tVar 4)) (tCall spDraw [] E0 (tCons (tVar 0) (tCons (tC (V.int 3)) tNil)))) tNil))))) tNext) (tRet (tCall spBad [] E0 (tCons (tVar 0) (tCons (tVar 1) (tCons (tVar 2) (tCons (tVar 3) tNil))))))) { nx := fun _ H' => Q .non H', rt := Q } [some (.ref p), some (.int (many : Int)), some (.int (spot : Int)), some v, some (.int (deep : Int)), none, none] G := fun G w e => by
      have hvG := hv.up (w0.hid e)
      have no : ∀ (wd : Str) (x : PyData), tmD t = .tuple [.str wd, x] → inV (.str wd) [V.str "back", .str "times"] = false → tSeq (tIfS (tAnd (tTest (tOp (rIn K false) (tOp (rIxT K) (tVar 3) (tC (V.int 0))) (tTup (tCons (tC (V.str "back")) (tCons (tC (V.str "times")) tNil))))) (tTest (tOp (rI0 fun i j => V.bl (decide (j < i))) (tCall spDraw [] E0 (tCons (tVar 0) (tCons (tC (V.int 4)) tNil))) (tC (V.int 0))))) (tRet (tOp (rCatA K) (tTup (tCons (tOp (rIxT K) (tVar 3) (tC (V.int 0))) (tCons (tCall spX [] E0 (tCons (tVar 0) (tCons (tVar 1) (tCons (tVar 2) (tCons (tOp (rIxT K) (tVar 3) (tC (V.int 1))) (tCons (tOp (rI0 fun i j => V.int (i + j)) (tVar 4) (tC (V.int 1))) tNil)))))) tNil))) (tSl (rSlA K) (tVar 3) (tPart (tC (V.int 2))) tNoPart))) tNext) (tSeq (tIfS (tTest (tOp rEq (tCall spDraw [] E0 (tCons (tVar 0) (tCons (tC (V.int 6)) tNil))) (tC (V.int 0)))) (tRet (tCall spNested [] E0 (tCons (tVar 0) (tCons (tVar 3) (tCons (tOp (rI0 fun i j => V.int (i + j)) (tOp (rI0 fun i j => V.int (i - j)) (tC (V.int 12)) (tVar 4)) (tCall spDraw [] E0 (tCons (tVar 0) (tCons (tC (V.int 3)) tNil)))) tNil))))) tNext) (tRet (tCall spBad [] E0 (tCons (tVar 0) (tCons (tVar 1) (tCons (tVar 2) (tCons (tVar 3) tNil))))))) { nx := fun _ H' => Q .non H', rt := Q } [some (.ref p), some (.int (many : Int)), some (.int (spot : Int)), some v, some (.int (deep : Int)), none, none] G := fun wd x et hin => by
        rw [et] at hvG
        obtain ⟨a, u1, u2, rfl, ha, q1, q2⟩ := dq2 hvG
        cases q1
        have haG := (hidS_some ha).2
        refine ⟨.ref a, rfl, a, [_, u2], 0, _, rfl, rfl, SqT.of haG, rfl, by show 2 ≤ sizeLine; decide, fun b nb => ⟨b, [V.str "back", .str "times"], rfl, .inr (SqT.of upd_same), rfl, rfl, _, rfl, ?_⟩⟩
        have s1 := same_new (o := .tup [V.str "back", .str "times"]) nb
        refine iteFd hin (iteF ?_)
        exact fin _ (w.up s1) (Same.trans e (Ext.of s1))
      cases t with
      | doo d => exact no "do" (deedD d) (by simp only [tmD]) (by decide +kernel)
      | part j => exact no "part" (.int (j : Int)) (by simp only [tmD]) (by decide +kernel)
      | row ts => exact no "row" (.tuple (tmDs ts)) (by simp only [tmD]) (by decide +kernel)
      | back t' =>
        simp only [okTm] at ht
        have htd' : Vd (2 * dep t' + 1) (tmD t') := VdTm m1 (by decide) hsp ht
        have hdt : dep (.back t') = dep t' + 1 := rfl
        have hvG2 := hvG
        obtain ⟨a, u1, u2, rfl, ha, q1, q2⟩ := dq2 (x := .str "back") (y := tmD t') (by simpa only [tmD] using hvG)
        cases q1
        have haG := (hidS_some ha).2
        refine ⟨.ref a, rfl, a, [_, u2], 0, _, rfl, rfl, SqT.of haG, rfl, by show 2 ≤ sizeLine; decide, fun b nb => ⟨b, [V.str "back", .str "times"], rfl, .inr (SqT.of upd_same), rfl, rfl, _, rfl, ?_⟩⟩
        have s1 := same_new (o := .tup [V.str "back", .str "times"]) nb
        have w1 := w.up s1
        have e1 : Ext p l H (upd G b (.tup [V.str "back", .str "times"])) := Same.trans e (Ext.of s1)
        have hv1 : Dq (hidS S (upd G b (.tup [V.str "back", .str "times"]))) (.ref a) (.tuple [.str "back", tmD t']) := by
          have := hvG2.up (hidS_up s1)
          simpa only [tmD] using this
        generalize upd G b (.tup [V.str "back", .str "times"]) = G1 at w1 e1 hv1
        refine iteTd (by decide +kernel) ⟨.ref p, rfl, p, l, 4, rfl, w1.D, by decide, fun G2 r D2 E2 r0 r1 => ⟨_, _, rfl, rfl, _, rfl, ite2 (fun c => ?_) (fun c => ?_)⟩⟩
        · have w2 := w1.ext E2 D2
          have hv2 := hv1.up (w1.hid E2)
          refine evq_at (R := OfT (Vd (2 * (13 - deep) + 2 * dep t' + 1)) 4) (evq_catT (n := 2) (m := 2) (evq_T (eqa_cons (evq_ixT (i := 0) rfl hv2 rfl (vd_s (by decide +kernel))) (eqa_cons (recu t' _ _ _ _ ht (by omega) (evq_ixT (i := 1) rfl hv2 rfl rfl)) eqa_nil)) (by decide)) (evq_sl (evq_varT rfl hv2 (fun d hd => ?_) (Nat.le_refl _)) (part_n en_c) part_0) (by decide)) w2 ?_
          · simp only [List.mem_cons, List.not_mem_nil, or_false] at hd
            rcases hd with rfl | rfl
            · exact vd_s (by decide +kernel)
            · exact htd'.mono (by omega)
          · intro v3 G3 d3 w3 e3 h3 r3
            exact q _ _ _ w3 (Same.trans e1 (Same.trans E2 e3)) h3 ((r3.vd (by decide)).mono (by omega))
        · exact fin _ (w1.ext E2 D2) (Same.trans e1 E2)
      | times t' k =>
        simp only [okTm] at ht
        have htd' : Vd (2 * dep t' + 1) (tmD t') := VdTm m1 (by decide) hsp ht.2
        have hdt : dep (.times t' k) = dep t' + 1 := rfl
        have hvG2 := hvG
        obtain ⟨a, u1, u2, u3, rfl, ha, q1, q2, q3⟩ := dq3 (l := .str "times") (x := tmD t') (y := .int (k : Int)) (by simpa only [tmD] using hvG)
        cases q1
        have haG := (hidS_some ha).2
        refine ⟨.ref a, rfl, a, [_, u2, u3], 0, _, rfl, rfl, SqT.of haG, rfl, by show 2 ≤ sizeLine; decide, fun b nb => ⟨b, [V.str "back", .str "times"], rfl, .inr (SqT.of upd_same), rfl, rfl, _, rfl, ?_⟩⟩
        have s1 := same_new (o := .tup [V.str "back", .str "times"]) nb
        have w1 := w.up s1
        have e1 : Ext p l H (upd G b (.tup [V.str "back", .str "times"])) := Same.trans e (Ext.of s1)
        have hv1 : Dq (hidS S (upd G b (.tup [V.str "back", .str "times"]))) (.ref a) (.tuple [.str "times", tmD t', .int (k : Int)]) := by
          have := hvG2.up (hidS_up s1)
          simpa only [tmD] using this
        generalize upd G b (.tup [V.str "back", .str "times"]) = G1 at w1 e1 hv1
        refine iteTd (by decide +kernel) ⟨.ref p, rfl, p, l, 4, rfl, w1.D, by decide, fun G2 r D2 E2 r0 r1 => ⟨_, _, rfl, rfl, _, rfl, ite2 (fun c => ?_) (fun c => ?_)⟩⟩
        · have w2 := w1.ext E2 D2
          have hv2 := hv1.up (w1.hid E2)
          have hkv : Vd 0 (.int (k : Int)) := ⟨vB_nat ht.1 (by decide +kernel), by simp [PyData.depth]⟩
          refine evq_at (R := OfT (Vd (2 * (13 - deep) + 2 * dep t' + 1)) 5) (evq_catT (n := 2) (m := 3) (evq_T (eqa_cons (evq_ixT (i := 0) rfl hv2 rfl (vd_s (by decide +kernel))) (eqa_cons (recu t' _ _ _ _ ht.2 (by omega) (evq_ixT (i := 1) rfl hv2 rfl rfl)) eqa_nil)) (by decide)) (evq_sl (evq_varT rfl hv2 (fun d hd => ?_) (Nat.le_refl _)) (part_n en_c) part_0) (by decide)) w2 ?_
          · simp only [List.mem_cons, List.not_mem_nil, or_false] at hd
            rcases hd with rfl | rfl | rfl
            · exact vd_s (by decide +kernel)
            · exact htd'.mono (by omega)
            · exact hkv.mono (by omega)
          · intro v3 G3 d3 w3 e3 h3 r3
            exact q _ _ _ w3 (Same.trans e1 (Same.trans E2 e3)) h3 ((r3.vd (by decide)).mono (by omega))
        · exact fin _ (w1.ext E2 D2) (Same.trans e1 E2)
    have first : ∀ (wd : Str) (r : List PyData), tmD t = .tuple (.str wd :: r) → wd ≠ "row" → ∃ (a : Addr) (us : List V), v = .ref a ∧ H a = some (.tup (V.str wd :: us)) := fun wd r et _ => by
      rw [et] at hv
      obtain ⟨a, xs, rfl, ha, qx⟩ := Dq.tup_inv hv
      cases qx with
      | cons h _ =>
        cases h
        exact ⟨a, _, rfl, (hidS_some ha).2⟩
    have notRow : ∀ (wd : Str) (r : List PyData), tmD t = .tuple (.str wd :: r) → decide (V.str wd = V.str "row") = false → tSeq (tIfS (tAnd (tTest (tOp rEq (tOp (rIxT K) (tVar 3) (tC (V.int 0))) (tC (V.str "row")))) (tAnd (tTest (tOp (rNeT0 K) (tOp (rIxT K) (tVar 3) (tC (V.int 1))) (tTup tNil))) (tTest (tOp (rI0 fun i j => V.bl (decide (j < i))) (tCall spDraw [] E0 (tCons (tVar 0) (tCons (tC (V.int 4)) tNil))) (tC (V.int 0)))))) (tSeq (tAsg (tCall spDraw [] E0 (tCons (tVar 0) (tCons (tCB (fun xs H_1 Q => ∃ p ys, xs = [V.ref p] ∧ (SqL K H_1 p ys ∨ SqT K H_1 p ys) ∧ Q (V.int ↑ys.length) H_1) (tCons (tOp (rIxT K) (tVar 3) (tC (V.int 1))) tNil)) tNil))) (gName 5)) (tSeq (tAsg (tCall spX [] E0 (tCons (tVar 0) (tCons (tVar 1) (tCons (tVar 2) (tCons (tOp (rIxT K) (tOp (rIxT K) (tVar 3) (tC (V.int 1))) (tVar 5)) (tCons (tOp (rI0 fun i j => V.int (i + j)) (tVar 4) (tC (V.int 1))) tNil)))))) (gName 6)) (tRet (tTup (tCons (tC (V.str "row")) (tCons (tOp (rCatA K) (tOp (rCatA K) (tSl (rSlA K) (tOp (rIxT K) (tVar 3) (tC (V.int 1))) tNoPart (tPart (tVar 5))) (tTup (tCons (tVar 6) tNil))) (tSl (rSlA K) (tOp (rIxT K) (tVar 3) (tC (V.int 1))) (tPart (tOp (rI0 fun i j => V.int (i + j)) (tVar 5) (tC (V.int 1)))) tNoPart)) tNil)))))) tNext) (tSeq (tIfS (tAnd (tTest (tOp (rIn K false) (tOp (rIxT K) (tVar 3) (tC (V.int 0))) (tTup (tCons (tC (V.str "back")) (tCons (tC (V.str "times")) tNil))))) (tTest (tOp (rI0 fun i j => V.bl (decide (j < i))) (tCall spDraw [] E0 (tCons (tVar 0) (tCons (tC (V.int 4)) tNil))) (tC (V.int 0))))) (tRet (tOp (rCatA K) (tTup (tCons (tOp (rIxT K) (tVar 3) (tC (V.int 0))) (tCons (tCall spX [] E0 (tCons (tVar 0) (tCons (tVar 1) (tCons (tVar 2) (tCons (tOp (rIxT K) (tVar 3) (tC (V.int 1))) (tCons (tOp (rI0 fun i j => V.int (i + j)) (tVar 4) (tC (V.int 1))) tNil)))))) tNil))) (tSl (rSlA K) (tVar 3) (tPart (tC (V.int 2))) tNoPart))) tNext) (tSeq (tIfS (tTest (tOp rEq (tCall spDraw [] E0 (tCons (tVar 0) (tCons (tC (V.int 6)) tNil))) (tC (V.int 0)))) (tRet (tCall spNested [] E0 (tCons (tVar 0) (tCons (tVar 3) (tCons (tOp (rI0 fun i j => V.int (i + j)) (tOp (rI0 fun i j => V.int (i - j)) (tC (V.int 12)) (tVar 4)) (tCall spDraw [] E0 (tCons (tVar 0) (tCons (tC (V.int 3)) tNil)))) tNil))))) tNext) (tRet (tCall spBad [] E0 (tCons (tVar 0) (tCons (tVar 1) (tCons (tVar 2) (tCons (tVar 3) tNil)))))))) { nx := fun _ H' => Q .non H', rt := Q } [some (.ref p), some (.int (many : Int)), some (.int (spot : Int)), some v, some (.int (deep : Int)), none, none] H := fun wd r et hn => by
      obtain ⟨a, us, rfl, ha⟩ := first wd r et (fun z => by rw [z] at hn; exact absurd hn (by decide +kernel))
      refine ⟨.ref a, rfl, a, V.str wd :: us, 0, _, rfl, rfl, SqT.of ha, atI_int (Int.le_refl 0) rfl, rfl, _, rfl, iteFd hn (iteF ?_)⟩
      exact go2 _ w0 Ext.rfl
    cases t with
    | doo d => exact notRow "do" [deedD d] (by simp only [tmD]) (by decide +kernel)
    | part j => exact notRow "part" [.int (j : Int)] (by simp only [tmD]) (by decide +kernel)
    | back t' => exact notRow "back" [tmD t'] (by simp only [tmD]) (by decide +kernel)
    | times t' k => exact notRow "times" [tmD t', .int (k : Int)] (by simp only [tmD]) (by decide +kernel)
    | row ts =>
      have hdt : dep (.row ts) = depL ts + 1 := rfl
      simp only [okTm] at ht
      have hvr : Dq (hidS S H) v (.tuple [.str "row", .tuple (ts.map tmD)]) := by
        have := hv
        simp only [tmD, tmDs_map] at this
        exact this
      obtain ⟨a, u1, u2, rfl, ha, q1, q2⟩ := dq2 hvr
      cases q1
      obtain ⟨b, ys, rfl, hb, qy⟩ := Dq.tup_inv q2
      have haH := (hidS_some ha).2
      have hbH := (hidS_some hb).2
      have hyl := qy.len
      rw [List.length_map] at hyl
      refine ⟨.ref a, rfl, a, [_, .ref b], 0, _, rfl, rfl, SqT.of haH, rfl, rfl, _, rfl, iteTd (by decide +kernel) ⟨.ref a, rfl, a, [_, .ref b], 1, .ref b, rfl, rfl, SqT.of haH, rfl, by show 0 ≤ sizeLine; decide, fun c nc => ⟨b, c, ys, rfl, rfl, SqT.of (same_new nc _ _ hbH), SqT.of upd_same, _, rfl, ?_⟩⟩⟩
      have s1 := same_new (o := .tup []) nc
      have w1 := w0.up s1
      have e1 : Ext p l H (upd H c (.tup [])) := Ext.of s1
      have hv1 := hvr.up (hidS_up (S := S) s1)
      have ha1 := s1 _ _ haH
      have hb1 := s1 _ _ hbH
      generalize upd H c (.tup []) = G1 at s1 w1 e1 hv1 ha1 hb1
      cases hE : ys.isEmpty with
      | true => exact iteF (iteF (go2 _ w1 e1))
      | false =>
        have hne : 0 < ts.length := by
          rw [← hyl]
          cases ys with
          | nil => cases hE
          | cons _ _ => exact Nat.succ_pos _
        refine iteT ⟨.ref p, rfl, p, l, 4, rfl, w1.D, by decide, fun G2 r D2 E2 r0 r1 => ⟨_, _, rfl, rfl, _, rfl, ite2 (fun c => ?_) (fun c => go2 _ (w1.ext E2 D2) (Same.trans e1 E2))⟩⟩
        have w2 := w1.ext E2 D2
        have hv2 := hv1.up (w1.hid E2)
        have ha2 := (hidS_some ((w1.hid E2) _ _ (by rw [hidS_ne (hidS_some ha).1]; exact ha1))).2
        have hb2 := (hidS_some ((w1.hid E2) _ _ (by rw [hidS_ne (hidS_some hb).1]; exact hb1))).2
        refine ⟨.ref p, rfl, .ref a, rfl, a, [_, .ref b], 1, .ref b, rfl, rfl, SqT.of ha2, rfl, b, ys, rfl, .inr (SqT.of hb2), p, l, _, rfl, D2, by omega, fun G3 pl D3 E3 p0 p1 => ?_⟩
        have w3 := w2.ext E3 D3
        have hv3 := hv2.up (w2.hid E3)
        obtain ⟨pn, rfl, hpn⟩ : ∃ i : Nat, pl = (i : Int) ∧ i < ts.length := ⟨pl.toNat, by omega, by omega⟩
        obtain ⟨t', ht'⟩ : ∃ t', ts[pn]? = some t' := ⟨_, List.getElem?_eq_getElem hpn⟩
        have ht'm := List.mem_of_getElem? ht'
        have hok' : okTm (Deed many) 3 spot t' := okTms_mem ht.2 t' ht'm
        have hdp' := depL_le ht'm
        have hx : (ts.map tmD)[pn]? = some (tmD t') := by rw [List.getElem?_map, ht']; rfl
        have hall : ∀ d ∈ ts.map tmD, Vd (2 * (13 - deep) + 2 * depL ts + 1) d := fun d hd => by
          obtain ⟨t2, h2, rfl⟩ := List.mem_map.mp hd
          have := depL_le h2
          exact (VdTm m1 (by decide) hsp (okTms_mem ht.2 t2 h2)).mono (by omega)
        have hlen : (ts.map tmD).length ≤ 3 := by rw [List.length_map]; exact ht.1
        dsimp only [tNext]
        refine sq_asgE ?_
        refine evq_at (R := Vd (2 * (13 - deep) + 2 * dep t' + 1)) (recu t' _ _ _ _ hok' (by omega) (evq_ixG (i := pn) (evq_ixT (i := 1) rfl hv3 rfl rfl) (en_v rfl) hx rfl)) w3 ?_
        intro v4 G4 d4 w4 e4 h4 r4
        have hv4 := hv3.up (w3.hid e4)
        have r4' : Vd (2 * (13 - deep) + 2 * depL ts + 1) d4 := r4.mono (by omega)
        have hT : ∀ σ : L2.St, σ[3]? = some (some (.ref a)) → EvQ S p l (tOp (rIxT K) (tVar 3) (tC (.int 1))) σ G4 (OfT (Vd (2 * (13 - deep) + 2 * depL ts + 1)) 3) := fun σ hσ => evq_ixT (i := 1) hσ hv4 rfl ⟨_, rfl, hlen, hall⟩
        refine evq_at (R := Vd (2 * (13 - deep) + 2 * depL ts + 3)) (evq_tup2 (eqa_cons (evq_str (vd_s (by decide +kernel))) (eqa_cons ((evq_catT (T := Vd (2 * (13 - deep) + 2 * depL ts + 1)) (n := 4) (m := 3) (evq_catT (n := 3) (m := 1) (evq_sl (hT _ rfl) part_0 (part_n (en_v rfl))) (evq_T (eqa_cons (evq_var rfl h4 r4') eqa_nil) (by decide)) (by decide)) (evq_sl (hT _ rfl) (part_n (en_add (en_v rfl) en_c)) part_0) (by decide)).mono fun d h => h.vd (by decide)) eqa_nil))) w4 ?_
        intro v5 G5 d5 w5 e5 h5 r5
        exact q _ _ _ w5 (Same.trans e1 (Same.trans E2 (Same.trans E3 (Same.trans e4 e5)))) h5 (r5.mono (by omega))
theorem o_lSpos (D0 : Df K mg "_law_spoilt" sLSpoilt ["deck", "many", "spot", "term", "deep"]) (B : Bi mg) (dr : Ok P w K mg base 1 "_law_draw" ["deck", "many"] spDraw) (ne : Ok P w K mg base 3 "_law_nested" ["deck", "inner", "times"] spNested) (ba : Ok P w K mg base 4 "_law_bad" ["deck", "many", "spot", "term"] spBad) :
    ∀ n, Ok P w K mg base (n + 4) "_law_spoilt" ["deck", "many", "spot", "term", "deep"] (spSpo n)
  | 0 => by
    refine D0.ok fun f fd F => ?_
    have no : ∀ vs H Q E, ¬ spSpo 0 vs H Q E := fun vs H Q E h => by
      obtain ⟨_, _, _, _, _, _, _, t, _, _, _, _, _, _, _, hd, _⟩ := h
      have := dep_pos t
      omega
    exact ⟨fun vs H Q E h => absurd h (no vs H Q E), fun A outer s H args us vs Q E _ _ _ _ h => absurd h (no vs H Q E)⟩
  | n + 1 => o_lSpo n (spX := spSpo n) (fun _ _ _ _ h => h) D0 B dr ne ba (o_lSpos D0 B dr ne ba n)
end
end Kr
namespace Kr
open PySem PySem.Spec PyProof.Rows L2
/-! ### tuple * k, k at least 1 -/
theorem tuple_mul1 (l : Addr) (items : Array Value) (n : Nat) (dd : Option Addr) (sl : Array (Option Value)) (u : Tok) :
    Meets (Builtin.«tuple.__mul__» ⟨[.ref l, .int 1 u], []⟩) (fun _ R s => s.heap.get? l = some { cls := .type "tuple", dict := dd, data := .seq items n, slots := sl } ∧ R (.ok (.ret (Value.ref l))) s) :=
  .of_wp fun prog w A R s h => by
    obtain ⟨hp, g, d, tk, os⟩ := s
    obtain ⟨hl, h⟩ := h
    have f1 := AutoSeq1.idx_int
    wp_walk using wpAny_loadPart' hl
    repeat (first
      | (refine wpAny_ite_false (by decide) ?_; wp_walk using wpAny_loadPart' hl)
      | (refine wpAny_ite_true (decide_eq_true (by rw [show ((1 : Int) == 1) = true from rfl, Bool.or_true])) ?_; wp_walk using wpAny_loadPart' hl))
    exact ⟨_, rfl, h⟩
def rRepA (K : PySem.W.Frag) : R2 := fun x y H Q => ∃ l k xs, x = .ref l ∧ y = .int k ∧ SqT K H l xs ∧ xs ≠ [] ∧ 1 ≤ k ∧ xs.length * k.toNat ≤ 100000 ∧ (k = 1 → Q (.ref l) H) ∧ (k ≠ 1 → ∀ p, H p = none → Q (.ref p) (upd H p (.tup (List.replicate k.toNat xs).flatten)))
section
variable {X : Cx}
theorem op_repA : OpR X (binaryOp .Mult) (rRepA X.K) := by
  intro pins s σ H x y v u Q I rx ry h
  obtain ⟨l, k, xs, rfl, rfl, hT, hne, h1, hz, q1, q⟩ := h
  cases rx
  obtain ⟨t, rfl⟩ := ry
  obtain ⟨its, r, ⟨⟨cls, dd, data, sl⟩, ho, hc, n, hd⟩, hs⟩ := I.tuple hT
  simp only at hc hd
  subst hc hd
  by_cases hk1 : k = 1
  · subst hk1
    exact wpAny_binaryOp_repeat_ref (T := "tuple") (U := "int") (by decide) ⟨_, ho, rfl⟩ (fun s' => typeIs_int s' 1 t) noFill_tuple_mul F.fills_int_mul F.slot_int_rmul repeat_tuple F.slot_int_index.lookup
      (call_meets F.slot_int_rmul (typeIs_int s 1 t) F.entry_int_rmul (F.args_int_rmul_2 _ _) (int_rmul_tuple 1 t l its.toArray n dd sl)
        ⟨ho, rfl, ⟨_, ho, rfl⟩, call_meets F.slot_tuple_mul ⟨_, ho, rfl⟩ F.entry_tuple_mul (F.args_tuple_mul_2 _ _) (tuple_mul1 l its.toArray n dd sl t) ⟨ho, ⟨.ref l, H, I, rfl, q1 rfl⟩⟩⟩)
  have hle : its.length = xs.length := r.length.symm
  have hn : its ≠ [] := fun e => hne (by
    rw [e] at hle
    exact List.eq_nil_of_length_eq_zero hle.symm)
  have hi : its.toArray.isEmpty = false := by
    cases its with
    | nil => exact absurd rfl hn
    | cons a b => rfl
  have hsz0 : its.toArray.size = xs.length := by rw [List.size_toArray, hle]
  have hm0 : ((its.toArray.size : Nat) : Int) * k = ((xs.length * k.toNat : Nat) : Int) := by
    rw [hsz0, Int.natCast_mul, Int.toNat_of_nonneg (by omega)]
  have hm : ((its.toArray.size : Nat) : Int) * k ≤ 100000 := by
    rw [hm0]
    omega
  have hkk : k ≤ 100000 := by
    have hx : 1 ≤ xs.length := List.length_pos_iff.mpr hne
    have a1 : 1 * k.toNat ≤ xs.length * k.toNat := Nat.mul_le_mul_right _ hx
    omega
  have flen : (List.replicate k.toNat its).flatten.length ≤ sizeLine := by
    rw [PyProof.Rows.lm_len_rep_flat, hle, sizeLine_eq, Nat.mul_comm]
    omega
  have c0 : (decide (k < -(2 ^ 63)) || decide (k ≥ 2 ^ 63)) = false := by
    rw [decide_eq_false (by omega), decide_eq_false (by omega)] <;> rfl
  have c1 : (its.toArray.isEmpty || k == 1) = false := by
    rw [hi, Bool.false_or]
    exact beq_eq_false_iff_ne.mpr hk1
  have c2 : (decide (k ≤ 0) || its.toArray.isEmpty) = false := by
    rw [hi, Bool.or_false]
    exact decide_eq_false (by omega)
  have c4 : Builtin.Tuple.tupleTooMany (((its.toArray.size : Nat) : Int) * k) = false := by
    unfold Builtin.Tuple.tupleTooMany
    rw [sizeLine_eq]
    exact decide_eq_false (by omega)
  refine wpAny_binaryOp_repeat_ref (T := "tuple") (U := "int") (by decide) ⟨_, ho, rfl⟩ (fun s' => typeIs_int s' k t) noFill_tuple_mul F.fills_int_mul F.slot_int_rmul repeat_tuple F.slot_int_index.lookup
    (call_meets F.slot_int_rmul (typeIs_int s k t) F.entry_int_rmul (F.args_int_rmul_2 _ _) (int_rmul_tuple k t l its.toArray n dd sl)
      ⟨ho, rfl, ⟨_, ho, rfl⟩, call_meets F.slot_tuple_mul ⟨_, ho, rfl⟩ F.entry_tuple_mul (F.args_tuple_mul_2 _ _) (tuple_mulW l its.toArray n dd sl k t c0 c1 c2 (by omega) c4 (by rw [size_rep, List.size_toArray]; exact flen)) ⟨ho, ?_⟩⟩)
  rw [size_rep]
  refine ⟨.ref s.heap.objs.size, _, I.laid (t' := s.toks) (o := .tup (List.replicate k.toNat xs).flatten) (fun b ob q => Heap.get?_push_of_some _ q) (Nat.le_refl _) ?_, rfl, q hk1 _ (I.hok.fresh (Nat.le_refl _))⟩
  exact ⟨by rw [PyProof.Rows.lm_len_rep_flat, sizeLine_eq, Nat.mul_comm]; omega, _, r.rep k.toNat, IsTup.new _ _⟩
end
/-- some object that holds them -/
theorem repA_k {K : PySem.W.Frag} {a : Addr} {xs : List V} {k : Int} {Q : VK} {H : Hp} (ha : H a = some (.tup xs)) (hne : xs ≠ []) (h1 : 1 ≤ k) (hz : xs.length * k.toNat ≤ 100000) (q : ∀ y H5, Same H H5 → H5 y = some (.tup (List.replicate k.toNat xs).flatten) → Q (.ref y) H5) : rRepA K (.ref a) (.int k) H Q :=
  ⟨a, k, xs, rfl, rfl, SqT.of ha, hne, h1, hz, fun e => q _ _ (Same.refl _) (by
    rw [ha, e]
    simp), fun _ p np => q _ _ (same_new np) upd_same⟩
end Kr
namespace Kr
open PySem PySem.Spec PyProof.Rows L2
def spEdge : Sp := fun vs H Q _ => ∃ (S : List Addr) (p l : Addr) (many : Nat), vs = [.ref p, .int (many : Int)] ∧ Wl S p l H ∧ 3 ≤ many ∧ many ≤ 24 ∧
  ∀ H' r d', Wl S p l H' → Ext p l H H' → Dq (hidS S H') r d' → Vd 35 d' → Q r H'
section
variable {S : List Addr} {p l : Addr} {σ : L2.St} {H : Hp} {K : PySem.W.Frag} {T R : PyData → Prop} {te tb : TE} {ta : TA}
/-- (x,) * k, k drawn -/
theorem evq_repT {k : Nat} (h : EvQA S p l ta σ H (Vd k) 1) (hk : EvQ S p l tb σ H fun d => ∃ c : Nat, d = .int (c : Int) ∧ 2 ≤ c ∧ c ≤ 500) : EvQ S p l (tOp (rRepT K) (tTup ta) tb) σ H (Vd (k + 1)) := fun G w e Q q =>
  h G w e _ fun vs H2 ds w2 e2 hds hl hr => ⟨sz (by rw [hds.len, hl]; decide), fun a na => by
    obtain ⟨e3, w3, ha⟩ := new_q (o := .tup vs) w2 na
    refine hk _ w3 (Same.trans e (Same.trans e2 e3)) _ fun v4 H4 d4 w4 e4 h4 hd4 => ?_
    obtain ⟨c, rfl, c1, c2⟩ := hd4
    cases h4
    obtain ⟨d, rfl⟩ : ∃ d, ds = [d] := List.length_eq_one_iff.mp hl
    cases hds with
    | cons hd ht =>
      cases ht
      have ha4 := w3.hid e4 _ _ ha
      refine ⟨a, (c : Int), _, rfl, rfl, SqT.of (hidS_same S _ _ _ ha4), by simp, by omega, by omega, by simp, fun b nb => ?_⟩
      have fr : ∀ (x : V) (k : Nat), (List.replicate k [x]).flatten = List.replicate k x := fun x k => by
        induction k with
        | zero => rfl
        | succ k ih => rw [List.replicate_succ, List.flatten_cons, ih]; rfl
      rw [fr]
      obtain ⟨e5, w5, hb⟩ := new_q (o := .tup (List.replicate (c : Int).toNat _)) w4 nb
      have hdd := hd.up ((w2.hid (Same.trans e3 (Same.trans e4 e5))))
      refine q _ _ _ w5 (Same.trans e2 (Same.trans e3 (Same.trans e4 e5))) (.tup hb (DqA.rep hdd _)) (Vd.tup (fun x hx => ?_) (by rw [List.length_replicate]; omega))
      rw [List.eq_of_mem_replicate hx]
      exact hr d List.mem_cons_self⟩
theorem evq_400 {a : Nat} (h0 : σ[a]? = some (some (.ref p))) : EvQ S p l (tCall spPick [] E0 (tCons (tVar a) (tCons (tLst (tCons (tC (V.int 400)) (tCons (tC (V.int 401)) tNil))) tNil))) σ H fun d => ∃ c : Nat, d = .int (c : Int) ∧ 2 ≤ c ∧ c ≤ 500 :=
  evq_pick h0 (evq_L (n := 2) (eqa_cons (evq_n en_c ⟨400, rfl, by decide, by decide⟩) (eqa_cons (evq_n en_c ⟨401, rfl, by decide, by decide⟩) eqa_nil)) (by decide) (by decide)) (by decide)
theorem evq_nest {a k m : Nat} (h0 : σ[a]? = some (some (.ref p))) (hk : k ≤ 60) (hm : m ≤ 20) (h : EvQ S p l te σ H (Vd k)) (ht : EvQ S p l tb σ H fun d => ∃ t : Nat, d = .int (t : Int) ∧ t ≤ m) : EvQ S p l (tCall spNested [] E0 (tCons (tVar a) (tCons te (tCons tb tNil)))) σ H (Vd (k + 2 * m)) := fun G w e Q q =>
  ⟨_, h0, h G w e _ fun v1 G1 d1 w1 e1 h1 r1 => ht G1 w1 (Same.trans e e1) _ fun v2 G2 d2 w2 e2 h2 ⟨t, ed, tm⟩ => by
    subst ed
    cases h2
    exact ⟨S, p, l, v1, d1, k, t, rfl, w2, h1.up (w1.hid e2), r1, hk, by omega, fun H' r d' w' e' hr hd => q _ _ _ w' (Same.trans e1 (Same.trans e2 e')) hr (hd.mono (by omega))⟩⟩
end
section
variable {P : Program} {w : World} {K : PySem.W.Frag} {mg : Str → Option Value} {base : Heap}
local macro_rules | `(tactic| walk_at "evn") => `(tactic| first | (with_reducible exact en_c) | (with_reducible apply en_add) <;> walk_at "evn" | (with_reducible apply en_sub) <;> walk_at "evn" | (with_reducible apply en_neg) <;> walk_at "evn" | exact en_v rfl)
local macro_rules | `(tactic| walk_at "evd") => `(tactic| first
  | (with_reducible exact eqa_nil)
  | (with_reducible refine eqa_cons ?_ ?_)
  | (with_reducible apply evq_str) <;> exact vd_s (by decide +kernel)
  | (with_reducible apply evq_bl) <;> exact vd_b
  | (with_reducible apply evq_non) <;> exact vd_n
  | (with_reducible apply evq_dic) <;> exact (Vd.mono Vd.dic (by omega))
  | (with_reducible refine evq_tup0 ?_)
  | (with_reducible refine evq_tup1 ?_)
  | (with_reducible refine evq_tup2 ?_)
  | (with_reducible refine evq_tup3 ?_)
  | (with_reducible refine evq_tup4 ?_)
  | (with_reducible refine evq_tup5 ?_)
  | (with_reducible refine evq_lst0 ?_)
  | (with_reducible refine evq_lst1 ?_)
  | (with_reducible refine evq_lst2 ?_)
  | (with_reducible refine evq_lst3 ?_)
  | (with_reducible refine evq_lst4 ?_)
  | (with_reducible refine evq_lst5 ?_)
  | (with_reducible apply evq_eqb) <;> walk_at "evn"
  | walk_at "evx"
  | (with_reducible exact evq_30)
  | (with_reducible exact evq_31)
  | exact evq_n (by walk_at "evn") (vd_i (by omega) (by omega))
  | ((with_reducible refine gd_var ?_); exact evq_var rfl (by assumption) (Vd.mono (by assumption) (by omega)))
  | ((with_reducible refine gd_cb ?_); exact evq_strI (by walk_at "evn") (by omega))
  | ((with_reducible refine gd_cb ?_); exact evq_listOf rfl (by assumption) (Vd.lt (Vd.mono (by assumption) (by omega))))
  | ((with_reducible refine gd_rev ?_); exact evq_rev rfl (by assumption) (Vd.rv (Vd.mono (by assumption) (by omega)))))
abbrev n_lEdge : List Str := ["deck", "many", "way", "deed", "bad", "odd"]
theorem sc_lEdge : FnScope n_lEdge ["deck", "many"] (defScope sLEdge) := ⟨rfl, rfl, rfl, by decide +kernel, rfl, by decide +kernel, by decide +kernel⟩
theorem o_lEdge (D0 : Df K mg "_law_edge" sLEdge ["deck", "many"]) (B : Bi mg) (dr : Ok P w K mg base 1 "_law_draw" ["deck", "many"] spDraw) (dd : Ok P w K mg base 3 "_law_deed" ["deck", "many"] spDeed7) (ne : Ok P w K mg base 3 "_law_nested" ["deck", "inner", "times"] spNested) (ba : Ok P w K mg base 4 "_law_bad" ["deck", "many", "spot", "term"] spBad) (pk : Ok P w K mg base 2 "_law_pick" ["deck", "items"] spPick) : Ok P w K mg base 5 "_law_edge" ["deck", "many"] spEdge := by
  refine D0.ok fun f fd F => F.ok sc_lEdge (fun vs H Q E h => ?_) (fun cdv A outer s H vs Q E hr h => ?_)
  · obtain ⟨_, _, _, _, rfl, _⟩ := h
    rfl
  · obtain ⟨S, p, l, many, rfl, w0, m0, m1, q⟩ := h
    have hr_dr := hr.mono (show 1 ≤ 4 by omega)
    have hr_dd := hr.mono (show 3 ≤ 4 by omega)
    have hr_ne := hr.mono (show 3 ≤ 4 by omega)
    have hr_ba := hr.mono (show 4 ≤ 4 by omega)
    have hr_pk := hr.mono (show 2 ≤ 4 by omega)
    have hu : (cxOf CX0 P w K mg base n_lEdge "_law_edge" (defScope sLEdge) f cdv A outer s H E).A.units + 64 < cLine := hr.units
    have hu1 := hu_of hr
    refine ⟨_, pss_cons (ps_par (i := 2) (j := 3) rfl sc_lEdge.nd rfl rfl (by decide) rfl rfl (pa_cons (pe_fn dr hr_dr (by rfl) (pa_cons (pv 0) (pa_cons pe_int pa_nil))) (pa_cons (pe_tup (pa_cons pe_str (pa_cons (pe_fn dd hr_dd (by rfl) (pa_cons (pv 0) (pa_cons (pv 1) pa_nil))) pa_nil))) pa_nil)) (by rfl))
      (pss_cons (ps_if (pt_cmpR op_eq (pv 2) pe_int (nomark _)) (pss_one (ps_ret (pe_op op_repT (pe_tup (pa_cons (pe_fn pk hr_pk (by rfl) (pa_cons (pv 0) (pa_cons (pe_lst (pa_cons (pe_tup (pa_cons pe_str (pa_cons (pe_tup (pa_cons (pe_tup pa_nil) (pa_cons pe_int (pa_cons pe_int pa_nil)))) pa_nil))) (pa_cons (pe_tup (pa_cons pe_str (pa_cons (pe_tup pa_nil) pa_nil))) pa_nil))) pa_nil))) pa_nil)) (pe_fn pk hr_pk (by rfl) (pa_cons (pv 0) (pa_cons (pe_lst (pa_cons pe_int (pa_cons pe_int pa_nil))) pa_nil)))))) pss_nil)
      (pss_cons (ps_if (pt_cmpR op_eq (pv 2) pe_int (nomark _)) (pss_one (ps_ret (pe_tup (pa_cons (pv 3) (pa_cons (pe_tup (pa_cons pe_str (pa_cons (pe_op op_repT (pe_tup (pa_cons (pe_tup (pa_cons pe_str (pa_cons pe_int pa_nil))) pa_nil)) (pe_fn pk hr_pk (by rfl) (pa_cons (pv 0) (pa_cons (pe_lst (pa_cons pe_int (pa_cons pe_int pa_nil))) pa_nil)))) pa_nil))) pa_nil))))) pss_nil)
      (pss_cons (ps_if (pt_cmpR op_lt (pv 2) pe_int (nomark _)) (pss_cons (ps_set (i := 4) sc_lEdge.nd rfl (.inl rfl) (pe_fn ba hr_ba (by rfl) (pa_cons (pv 0) (pa_cons (pv 1) (pa_cons pe_int (pa_cons (pv 3) pa_nil))))))
        (pss_one (ps_ret (pe_tup (pa_cons (pe_fn ne hr_ne (by rfl) (pa_cons (pv 0) (pa_cons (pe_fn pk hr_pk (by rfl) (pa_cons (pv 0) (pa_cons (pe_lst (pa_cons (pv 3) (pa_cons (pv 3) (pa_cons (pv 4) pa_nil)))) pa_nil))) (pa_cons (pe_op op_add pe_int (pe_fn dr hr_dr (by rfl) (pa_cons (pv 0) (pa_cons pe_int pa_nil)))) pa_nil)))) pa_nil))))) pss_nil)
      (pss_cons (ps_set (i := 5) sc_lEdge.nd rfl (.inl rfl) (pe_lst (pa_cons pe_non (pa_cons pe_int (pa_cons pe_bl (pa_cons pe_str (pa_cons (pe_tup pa_nil) (pa_cons (pe_lst (pa_cons (pv 3) pa_nil)) (pa_cons pe_dnewK (pa_cons (pv 3) (pa_cons (pe_tup (pa_cons (pv 3) (pa_cons pe_non pa_nil))) (pa_cons (pe_tup (pa_cons (pv 3) (pa_cons (pe_lst pa_nil) pa_nil))) (pa_cons (pe_tup (pa_cons (pe_tup (pa_cons (pv 3) pa_nil)) pa_nil)) (pa_cons (pe_tup (pa_cons (pe_tup (pa_cons pe_str (pa_cons pe_int pa_nil))) pa_nil)) pa_nil))))))))))))))
      (pss_one (ps_ret (pe_fn pk hr_pk (by rfl) (pa_cons (pv 0) (pa_cons (pe_op op_cat (pv 5) (pe_lst (pa_cons (pe_tup (pa_cons pe_str (pa_cons (pe_tup (pa_cons (pv 3) pa_nil)) pa_nil))) (pa_cons (pe_tup (pa_cons (pv 3) (pa_cons (pv 3) (pa_cons (pe_tup (pa_cons pe_str (pa_cons pe_int pa_nil))) pa_nil)))) (pa_cons (pe_tup (pa_cons (pv 3) (pa_cons (pe_tup (pa_cons pe_str (pa_cons pe_int pa_nil))) pa_nil))) (pa_cons (pe_tup (pa_cons (pe_tup (pa_cons pe_str (pa_cons (pe_tup pa_nil) pa_nil))) pa_nil)) pa_nil)))))) pa_nil))))))))), ?_⟩
    refine ⟨.ref p, rfl, p, l, 8, rfl, w0.D, by decide, fun G1 wy D1 E1 r0 r1 => ⟨.ref p, rfl, .int (many : Int), rfl, p, l, many, rfl, D1, m0, m1, fun G2 v2 m D2 E2 hv2 hm => ⟨by show 2 ≤ sizeLine; decide, fun t nt => ⟨_, _, rfl, ?_⟩⟩⟩⟩
    have s3 := same_new (o := .tup [.str "do", v2]) nt
    have w3 := ((w0.ext E1 D1).ext E2 D2).up s3
    have E3 : Ext p l H (upd G2 t (.tup [.str "do", v2])) := Same.trans E1 (Same.trans E2 (Ext.of s3))
    have hok : okTm (Deed many) 3 0 (.doo m) := by simp only [okTm]; exact hm
    have hd0 : Dq (upd G2 t (.tup [.str "do", v2])) (.ref t) (tmD (.doo m)) := by
      simp only [tmD]
      exact .tup upd_same (.cons (.str _) (.cons (hv2.up s3) .nil))
    have hd := w3.flat (tm_flat _) hd0
    have hdv : Vd 3 (tmD (.doo m)) := VdTm m1 (by decide) (by decide) hok
    clear hd0 nt s3
    generalize upd G2 t (.tup [.str "do", v2]) = G3 at w3 E3 hd
    generalize tmD (.doo m) = dd at hd hdv
    dsimp only [tNext]
    refine ⟨.int wy, rfl, rfl, _, rfl, ?_⟩
    by_cases c0 : wy = 0
    · refine iteTd (by rw [c0]; rfl) ?_
      refine evq_at (R := Vd 4) (evq_repT (eqa_cons (evq_pick (n := 2) rfl (evq_L ?_ (by decide) (by decide)) (by decide)) eqa_nil) (evq_400 rfl)) w3 ?_
      · repeat walk_at "evd"
      intro v4 G4 d4 w4 e4 h4 r4
      exact q _ _ _ w4 (Same.trans E3 e4) h4 (r4.mono (by decide))
    refine iteFd (decide_eq_false fun z => c0 (V.int.inj z)) ?_
    dsimp only [tNext]
    refine ⟨.int wy, rfl, rfl, _, rfl, ?_⟩
    by_cases c1 : wy = 1
    · refine iteTd (by rw [c1]; rfl) ?_
      refine evq_at (R := Vd 5) (evq_tup2 (eqa_cons (evq_var rfl hd (hdv.mono (by decide))) (eqa_cons (evq_tup2 (eqa_cons (evq_str (vd_s (by decide +kernel))) (eqa_cons (evq_repT (k := 2) (eqa_cons ?_ eqa_nil) (evq_400 rfl)) eqa_nil))) eqa_nil))) w3 ?_
      · repeat walk_at "evd"
      intro v4 G4 d4 w4 e4 h4 r4
      exact q _ _ _ w4 (Same.trans E3 e4) h4 (r4.mono (by decide))
    refine iteFd (decide_eq_false fun z => c1 (V.int.inj z)) ?_
    dsimp only [tNext]
    refine ⟨.int wy, rfl, _, _, rfl, rfl, _, rfl, ite2 (fun c => ?_) (fun c => ?_)⟩
    · refine ⟨.ref p, rfl, .int (many : Int), rfl, .ref t, rfl, S, p, l, .ref t, many, 0, 3, dd, rfl, w3, m0, m1, by decide, hd, hdv, by decide, by decide, fun G4 v4 d4 w4 e4 h4 r4 => ?_⟩
      have hd4 := hd.up (w3.hid e4)
      dsimp only [tNext]
      refine evq_at (R := Vd 32) (evq_tup1 (eqa_cons (evq_nest (k := 5) (m := 13) rfl (by decide) (by decide) (evq_pick (n := 3) rfl (evq_L ?_ (by decide) (by decide)) (by decide)) ?_) eqa_nil)) w4 ?_
      · repeat walk_at "evd"
      · intro G5 w5 e5 Q5 q5
        refine ⟨.ref p, rfl, p, l, 4, rfl, w5.D, by decide, fun H2 z D2 e2 z0 z1 => ⟨_, _, rfl, rfl, q5 _ _ _ (w5.ext e2 D2) e2 (.int _) ⟨(10 + z).toNat, ?_, by omega⟩⟩⟩
        rw [Int.toNat_of_nonneg (by omega)]
      · intro v6 G6 d6 w6 e6 h6 r6
        exact q _ _ _ w6 (Same.trans E3 (Same.trans e4 e6)) h6 (r6.mono (by decide))
    · dsimp only [tNext]
      refine sq_asgE ?_
      refine evq_at (R := OfL (Vd 5) 12) (evq_L ?_ (by decide) (by decide)) w3 ?_
      · repeat walk_at "evd"
      intro v4 G4 d4 w4 e4 h4 r4
      have hd4 := hd.up (w3.hid e4)
      refine evq_at (R := Vd 5) (evq_pick rfl (evq_cat (n := 12) (m := 4) (evq_varR rfl h4 r4) (evq_L ?_ (by decide) (by decide)) (by decide)) (by decide)) w4 ?_
      · repeat walk_at "evd"
      intro v6 G6 d6 w6 e6 h6 r6
      exact q _ _ _ w6 (Same.trans E3 (Same.trans e4 e6)) h6 (r6.mono (by decide))
end
end Kr
namespace Kr
structure PrOk (D : Mv → Prop) (r n : Nat) (p : List Tm) : Prop where
  ne : 0 < p.length
  len : p.length ≤ 400
  tm : ∀ (i : Nat) t, p[i]? = some t → okTm D r i t ∧ dep t ≤ n
end Kr
namespace Kr
open PySem PySem.Spec PyProof.Rows L2
theorem sum_castC : ∀ as : List Nat, ((as.map fun a : Nat => (a : Int)).sum) = ((as.sum : Nat) : Int)
  | [] => rfl
  | a :: as => by
    rw [List.map_cons, List.sum_cons, List.sum_cons, sum_castC as]
    omega
/-! ### the law's own count -/
def cntM : Mea Nat := ⟨fun _ => 1, List.sum, fun a => a, fun a k => a * k⟩
theorem sum_lt : ∀ {as : List Nat} {b : Nat}, (∀ a ∈ as, a ≤ b) → as.sum ≤ b * as.length
  | [], _, _ => Nat.zero_le _
  | a :: as, b, h => by
    have h1 := h a List.mem_cons_self
    have h2 := sum_lt fun x hx => h x (List.mem_cons_of_mem _ hx)
    rw [List.sum_cons, List.length_cons, Nat.mul_succ]
    omega
mutual
theorem cnt_lt {ws : List Nat} {W : Nat} (hw : ∀ a ∈ ws, a < 2 ^ W) : ∀ t : Tm, okTm (fun _ => True) 400 ws.length t → worth cntM ws t < 2 ^ (W + 110 * dep t)
  | .doo d, h => by
    simp only [worth, dep]
    exact Nat.one_lt_two_pow (by omega)
  | .part j, h => by
    simp only [okTm] at h
    simp only [worth, dep]
    rw [List.getD_eq_getElem?_getD, List.getElem?_eq_getElem h]
    exact Nat.lt_of_lt_of_le (hw _ (List.getElem_mem h)) (Nat.pow_le_pow_right (by decide) (by omega))
  | .row ts, h => by
    simp only [okTm] at h
    simp only [worth, dep]
    have h1 := cntL_lt hw ts h.2
    have h2 : (worthL cntM ws ts).sum ≤ 2 ^ (W + 110 * depL ts) * (worthL cntM ws ts).length := sum_lt fun a ha => Nat.le_of_lt (h1 a ha)
    have h3 : (worthL cntM ws ts).length ≤ 400 := by rw [worthL_map, List.length_map]; exact h.1
    refine Nat.lt_of_le_of_lt h2 (Nat.lt_of_le_of_lt (Nat.mul_le_mul_left _ h3) ?_)
    have h4 : 2 ^ (W + 110 * depL ts) * 2 ^ 110 = 2 ^ (W + 110 * (depL ts + 1)) := by rw [← Nat.pow_add]; congr 1
    rw [← h4]
    exact Nat.mul_lt_mul_of_pos_left (by decide +kernel) (Nat.two_pow_pos _)
  | .back t, h => by
    simp only [okTm] at h
    simp only [worth, dep]
    exact Nat.lt_of_lt_of_le (cnt_lt hw t h) (Nat.pow_le_pow_right (by decide) (by omega))
  | .times t k, h => by
    simp only [okTm] at h
    simp only [worth, dep]
    have h1 := cnt_lt hw t h.2
    have h4 : 2 ^ (W + 110 * dep t) * 2 ^ 110 = 2 ^ (W + 110 * (dep t + 1)) := by rw [← Nat.pow_add]; congr 1
    rw [← h4]
    exact Nat.mul_lt_mul'' h1 (Nat.lt_of_le_of_lt h.1 (by decide +kernel))
theorem cntL_lt {ws : List Nat} {W : Nat} (hw : ∀ a ∈ ws, a < 2 ^ W) : ∀ ts : List Tm, okTms (fun _ => True) 400 ws.length ts → ∀ x ∈ worthL cntM ws ts, x < 2 ^ (W + 110 * depL ts)
  | [], _, x, hx => by
    simp only [worthL] at hx
    exact nomatch hx
  | t :: ts, h, x, hx => by
    simp only [okTms] at h
    simp only [worthL] at hx
    simp only [depL]
    rcases List.mem_cons.mp hx with rfl | hx
    · exact Nat.lt_of_lt_of_le (cnt_lt hw t h.1) (Nat.pow_le_pow_right (by decide) (Nat.add_le_add_left (Nat.mul_le_mul_left _ (Nat.le_max_left _ _)) _))
    · exact Nat.lt_of_lt_of_le (cntL_lt hw ts h.2 x hx) (Nat.pow_le_pow_right (by decide) (Nat.add_le_add_left (Nat.mul_le_mul_left _ (Nat.le_max_right _ _)) _))
end
end Kr
namespace Kr
open PySem PySem.Spec PyProof.Rows L2
def spItems (n : Nat) : Sp := fun vs H Q _ => ∃ (v : V) (d : PyData), vs = [v] ∧ Dq H v d ∧ flatT d = true ∧ d.depth < n ∧ widT 400 d = true ∧ ∀ H', Same H H' → Q (.int ((itm d : Nat) : Int)) H'
section
variable {P : Program} {w : World} {K : PySem.W.Frag} {mg : Str → Option Value} {base : Heap}
abbrev nIt : List Str := ["thing", "own"]
theorem scIt : FnScope nIt ["thing"] (defScope sLItems) := ⟨rfl, rfl, rfl, by decide +kernel, rfl, by decide +kernel, by decide +kernel⟩
theorem o_lItems (D0 : Df K mg "_law_items" sLItems ["thing"]) (B : Bi mg) : ∀ n, Ok P w K mg base n "_law_items" ["thing"] (spItems n)
  | 0 => D0.ok fun f fd F => by
    have no : ∀ vs H Q E, ¬ spItems 0 vs H Q E := fun vs H Q E h => by
      obtain ⟨_, _, _, _, _, hd, _⟩ := h
      exact Nat.not_lt_zero _ hd
    exact ⟨fun vs H Q E h => absurd h (no vs H Q E), fun A outer s H args us vs Q E _ _ _ _ h => absurd h (no vs H Q E)⟩
  | n + 1 => by
    have ih := o_lItems D0 B n
    refine D0.ok fun f fd F => F.ok scIt (fun vs H Q E h => ?_) (fun cdv A outer s H vs Q E hr h => ?_)
    · obtain ⟨_, _, rfl, _⟩ := h
      rfl
    · obtain ⟨v, d, rfl, hv, hf, hd, hm, q⟩ := h
      refine ⟨_, pss_one (ps_ret (pe_ifExp (pt_val (pe_callB call_isiT (by rfl) B.isinstance (by decide +kernel) (pa_cons (pv 0) (pa_cons (pe_tup (pa_cons (pe_bltn (v := .ty "tuple") (by rfl) B.tuple (by decide +kernel) rfl) (pa_cons (pe_bltn (v := .ty "list") (by rfl) B.list (by decide +kernel) rfl) pa_nil))) pa_nil))))
        (pe_op op_add (pe_callB call_len_seq (by rfl) B.len boot_len (pa_cons (pv 0) pa_nil)) (pe_callB (cr_sum rfl) (by rfl) B.sum (by decide +kernel) (pa_cons (pe_lc (own := [("own", 1)]) (g := gName 1) (tt := tYes) rfl scIt.nd (pi_tup (pv 0)) (blkOk_by (own := [("own", 1)]) (N := nIt) (sc := defScope sLItems) (by decide +kernel)) (fun _ _ _ _ _ => pg_name (i := 1) scIt.nd rfl (.inl rfl)) (fun _ _ _ _ _ => pts_nil) (fun _ _ _ _ _ => pe_fn ih hr (by rfl) (pa_cons (pv 1) pa_nil))) pa_nil))) pe_int)), ?_⟩
      refine ⟨v, rfl, by show 2 ≤ sizeLine; decide, fun tp ntp => ?_⟩
      have s1 := same_new (o := .tup [.ty "tuple", .ty "list"]) ntp
      refine ⟨v, tp, _, _, _, isTu d, rfl, upd_same, .cons (.ty _) (.cons (.ty _) .nil), (hv.up s1).ty, kit_tl hf, isTu d, rfl, ?_⟩
      cases hT : isTu d with
      | false =>
        have e : itm d = 0 := by
          cases d <;> first | rfl | exact absurd hT (by simp [isTu])
        have h2 := q _ s1
        rw [e] at h2
        exact iteF h2
      | true =>
        obtain ⟨ds, rfl⟩ : ∃ ds, d = .tuple ds := by
          cases d with
          | tuple ds => exact ⟨ds, rfl⟩
          | _ => exact absurd hT (by simp [isTu])
        obtain ⟨a, xs, rfl, ha, qx⟩ := Dq.tup_inv hv
        have hxl := qx.len
        have ha1 := s1 _ _ ha
        simp only [flatT] at hf
        simp only [PyData.depth] at hd
        refine iteT ⟨.ref a, rfl, a, xs, rfl, .inr (SqT.of ha1), .ref a, rfl, a, rfl, ⟨_, SqT.of ha1⟩, fun D nD => ?_⟩
        obtain ⟨hle, hmA⟩ : ds.length ≤ 400 ∧ widTA 400 ds = true := by simpa [widT] using hm
        refine lc_it (walk_tup (K := K) (a := a) (xs := xs)) (fun i G => G D = some (.lst ((((ds.take i).map itm).map fun a : Nat => (a : Int)).map V.int)) ∧ Same H G) ⟨upd_same, s1.trans (same_new nD)⟩ (fun _ _ _ ⟨_, sm⟩ => SqT.of (sm _ _ ha)) ?_ ?_
        · rintro i x _ G hi ⟨hD, sm⟩ ⟨rfl, hx⟩
          obtain ⟨d0, hd0, qd⟩ := qx.get hx
          have hmem := List.mem_of_getElem? hd0
          have hdd := depthAll_le hmem
          refine ⟨rfl, ?_⟩
          dsimp only [tYes]
          rw [if_pos rfl]
          refine ⟨x, rfl, x, d0, rfl, qd.up sm, flatTA_mem hf d0 hmem, by omega, widTA_mem hmA d0 hmem, fun H' s2 => ?_⟩
          have hD' := s2 _ _ hD
          refine ⟨_, hD', szm (by rw [List.length_map, List.length_map, List.length_map, List.length_take]; omega), ?_, fun c o hc => ?_⟩
          · rw [upd_same, List.take_add_one, hd0]
            simp
          · rw [upd_ne (ne_of_none hc (s1.free nD))]
            exact s2 _ _ (sm _ _ hc)
        · rintro G ⟨hD, sm⟩
          rw [hxl, List.take_length] at hD
          refine ⟨D, _, rfl, SqL.of hD, _, _, rfl, rfl, ?_⟩
          have h2 := q G sm
          rw [sum_castC, ← itmA_map]
          have e : ((xs.length : Nat) : Int) + ((itmA ds : Nat) : Int) = ((itm (.tuple ds) : Nat) : Int) := by
            simp only [itm]
            omega
          dsimp only
          rw [e]
          exact h2
end
end Kr
namespace Kr
open PySem PySem.Spec PyProof.Rows L2
/-! ### drawn programs -/
theorem tms_lowm {n r : Nat} (hn : n ≤ 24) {p : List Tm} (hl : p.length ≤ 400) (h : ∀ (i : Nat) t, p[i]? = some t → okTm (Deed n) r i t) : lowT (.tuple (p.map tmD)) = true := by
  have : ∀ ts : List Tm, (∀ t ∈ ts, lowT (tmD t) = true) → lowTA (ts.map tmD) = true := by
    intro ts
    induction ts with
    | nil => intro _; rfl
    | cons t ts ih =>
      intro h
      simp only [List.map_cons, lowTA, h t List.mem_cons_self, ih fun x hx => h x (List.mem_cons_of_mem _ hx)]
      rfl
  simp only [lowT]
  refine this p fun t ht => ?_
  obtain ⟨i, hi⟩ := List.getElem?_of_mem ht
  exact low_tm hn (show i ≤ 400 by have := (List.getElem?_eq_some_iff.mp hi).1; omega) t (h i t hi)
/-- how many items a drawn term has at most -/
def itF : Nat → Nat
  | 0 => 8
  | d + 1 => 5 + 3 * itF d
theorem itF_le : ∀ a d : Nat, itF a ≤ itF (a + d)
  | _, 0 => Nat.le_refl _
  | a, d + 1 => Nat.le_trans (itF_le a d) (by show _ ≤ 5 + 3 * itF (a + d); omega)
theorem itF_mono {a b : Nat} (h : a ≤ b) : itF a ≤ itF b := by
  have := itF_le a (b - a)
  rwa [show a + (b - a) = b by omega] at this
theorem itF_one (d : Nat) : 29 ≤ itF (d + 1) := itF_mono (a := 1) (by omega)
mutual
theorem itm_tm {n k : Nat} (hn : n ≤ 24) : ∀ t : Tm, okTm (Deed n) 3 k t → itm (tmD t) ≤ itF (dep t)
  | .doo d, h => by
    simp only [okTm] at h
    have h1 := h.few
    have h2 : ∀ l : List Nat, itmA (l.map fun x : Nat => PyData.int (x : Int)) = 0 := by
      intro l
      induction l with
      | nil => rfl
      | cons x l ih => simp only [List.map_cons, itmA, itm, ih]
    simp only [tmD, deedD, lotD, itm, itmA, h2, dep, List.length_cons, List.length_nil, List.length_map, itF]
    omega
  | .part j, h => by simp only [tmD, itm, itmA, dep, List.length_cons, List.length_nil, itF]; omega
  | .row ts, h => by
    simp only [okTm] at h
    have h1 : (tmDs ts).length = ts.length := by rw [tmDs_map, List.length_map]
    have h2 := itm_tms hn ts h.2
    have h3 : ts.length * itF (depL ts) ≤ 3 * itF (depL ts) := Nat.mul_le_mul_right _ h.1
    simp only [tmD, itm, itmA, dep, List.length_cons, List.length_nil, itF, h1]
    omega
  | .back t, h => by
    simp only [okTm] at h
    have h2 := itm_tm hn t h
    simp only [tmD, itm, itmA, dep, List.length_cons, List.length_nil, itF]
    omega
  | .times t m, h => by
    simp only [okTm] at h
    have h2 := itm_tm hn t h.2
    simp only [tmD, itm, itmA, dep, List.length_cons, List.length_nil, itF]
    omega
theorem itm_tms {n k : Nat} (hn : n ≤ 24) : ∀ ts : List Tm, okTms (Deed n) 3 k ts → itmA (tmDs ts) ≤ ts.length * itF (depL ts)
  | [], _ => by simp [tmDs, itmA]
  | t :: ts, h => by
    simp only [okTms] at h
    have h1 := itm_tm hn t h.1
    have h2 := itm_tms hn ts h.2
    have h3 : itF (dep t) ≤ itF (depL (t :: ts)) := itF_mono (Nat.le_max_left _ _)
    have h4 : ts.length * itF (depL ts) ≤ ts.length * itF (depL (t :: ts)) := Nat.mul_le_mul_left _ (itF_mono (Nat.le_max_right _ _))
    simp only [tmDs, itmA, List.length_cons, Nat.succ_mul]
    omega
end
theorem last_at {α : Type} (xs : List α) (y : α) : (xs ++ [y])[(xs ++ [y]).length - 1]? = some y := by simp
def sizesOf (ts : List Tm) : List Int := ts.map fun t => ((1 + itm (tmD t) : Nat) : Int)
theorem sizes_sum : ∀ ts : List Tm, (sizesOf ts).sum = ((itm (.tuple (ts.map tmD)) : Nat) : Int)
  | [] => rfl
  | t :: ts => by
    have ih := sizes_sum ts
    simp only [itm] at ih ⊢
    show ((1 + itm (tmD t) : Nat) : Int) + (sizesOf ts).sum = _
    rw [ih]
    simp only [List.map_cons, itmA, List.length_cons]
    omega
theorem mono_sum (K : PySem.W.Frag) : MonoL (rSum K) := fun _ _ _ _ h ⟨a, ns, x, y, q⟩ => ⟨a, ns, x, y, h _ _ q⟩
def spProg7 : Sp := fun vs H Q _ => ∃ (p l tl : Addr) (many most deep : Nat) (ks : List Nat), vs = [.ref p, .int (many : Int), .int (most : Int), .int (deep : Int), .ref tl] ∧ Deck H p l ∧ 3 ≤ many ∧ many ≤ 24 ∧ 1 ≤ most ∧ most ≤ 300 ∧ 1 ≤ deep ∧ deep ≤ 5 ∧ hid p l H tl = some (.lst (ks.map fun k : Nat => V.int (k : Int))) ∧ ks ≠ [] ∧ ks.length ≤ 100 ∧ (∀ k ∈ ks, k ≤ 10 ^ 30) ∧
  ∀ H' v ts, Deck H' p l → Ext p l H H' → Dq H' v (.tuple (ts.map tmD)) → PrOk (Deed many) 3 deep ts → itm (.tuple (ts.map tmD)) ≤ 3600 → ts.length ≤ most → Q v H'
section
variable {P : Program} {w : World} {K : PySem.W.Frag} {mg : Str → Option Value} {base : Heap}
abbrev n_lProg7 : List Str := ["deck", "many", "most", "deep", "times", "found", "spot", "sizes", "term"]
theorem sc_lProg7 : FnScope n_lProg7 ["deck", "many", "most", "deep", "times"] (defScope sLProgram) := ⟨rfl, rfl, rfl, by decide +kernel, rfl, by decide +kernel, by decide +kernel⟩
theorem o_lProg7 (D0 : Df K mg "_law_program" sLProgram ["deck", "many", "most", "deep", "times"]) (B : Bi mg) (dr : Ok P w K mg base 1 "_law_draw" ["deck", "many"] spDraw) (tm : Ok P w K mg base 8 "_law_term" ["deck", "many", "spot", "deep", "times"] (spTerm7 5)) (it : Ok P w K mg base 12 "_law_items" ["thing"] (spItems 12)) : Ok P w K mg base 13 "_law_program" ["deck", "many", "most", "deep", "times"] spProg7 := by
  refine D0.ok fun f fd F => F.ok sc_lProg7 (fun vs H Q E h => ?_) (fun cdv A outer s H vs Q E hr h => ?_)
  · obtain ⟨_, _, _, _, _, _, _, rfl, _⟩ := h
    rfl
  · obtain ⟨p, l, tl, many, most, deep, ks, rfl, Dk, m0, m1, mo0, mo1, d0, d1, htl, hk0, hkl, hkb, q⟩ := h
    have hr_dr := hr.mono (show 1 ≤ 12 by omega)
    have hr_tm := hr.mono (show 8 ≤ 12 by omega)
    have hr_it := hr.mono (show 12 ≤ 12 by omega)
    have hu : (cxOf CX0 P w K mg base n_lProg7 "_law_program" (defScope sLProgram) f cdv A outer s H E).A.units + 64 < cLine := hr.units
    have hu1 := hu_of hr
    refine ⟨_, pss_cons (ps_setLc (i := 5) (own := [("spot", 6)]) (g := gName 6) (tt := tYes) rfl sc_lProg7.nd rfl rfl (sw_true rfl rfl rfl (by decide +kernel)) (pi_range1 (by rfl) B.range (pa_cons (pe_op op_add pe_int (pe_fn dr hr_dr (by rfl) (pa_cons (pv 0) (pa_cons (pv 2) pa_nil)))) pa_nil)) (blkOk_by (own := [("spot", 6)]) (N := n_lProg7) (sc := defScope sLProgram) (by decide +kernel)) (fun _ _ _ _ _ => pg_name (i := 6) sc_lProg7.nd rfl (.inl rfl)) (fun _ _ _ _ _ => pts_nil) (fun _ _ _ _ _ => (pe_fn tm hr_tm (by rfl) (pa_cons (pv 0) (pa_cons (pv 1) (pa_cons (pv 6) (pa_cons (pv 3) (pa_cons (pv 4) pa_nil))))))))
      (pss_cons (ps_setLc (i := 7) (own := [("term", 8)]) (g := gName 8) (tt := tYes) rfl sc_lProg7.nd rfl rfl (sw_true rfl rfl rfl (by decide +kernel)) (pi_list (pv 5)) (blkOk_by (own := [("term", 8)]) (N := n_lProg7) (sc := defScope sLProgram) (by decide +kernel)) (fun _ _ _ _ _ => pg_name (i := 8) sc_lProg7.nd rfl (.inl rfl)) (fun _ _ _ _ _ => pts_nil) (fun _ _ _ _ _ => (pe_op op_add pe_int (pe_fn it hr_it (by rfl) (pa_cons (pv 8) pa_nil)))))
      (pss_cons (ps_while PassesOwn.never (pt_cmpR op_gt (pe_callB (cr_sum rfl) (by rfl) B.sum (by decide +kernel) (pa_cons (pv 7) pa_nil)) pe_int (nomark _))
        (pss_cons (ps_expr (pe_bm0 PySem.F.plainAttrs_list PySem.F.slot_list_pop PySem.F.type_list_pop mt_pop (pv 5)))
        (pss_one (ps_expr (pe_bm0 PySem.F.plainAttrs_list PySem.F.slot_list_pop PySem.F.type_list_pop mt_pop (pv 7))))))
      (pss_one (ps_ret (pe_callTy call_tuple_of (by rfl) B.tuple (by decide +kernel) (pa_cons (pv 5) pa_nil)))))), ?_⟩
    obtain ⟨ntp, ntl, htl0⟩ := hid_some htl
    refine ⟨.ref p, rfl, .int (most : Int), rfl, p, l, most, rfl, Dk, by omega, fun H1 r D1 E1 r0 r1 => ⟨_, _, rfl, rfl, 1 + r, rfl, by omega, by omega, fun D nD => ?_⟩⟩
    obtain ⟨mm, hmm, hk, hk1⟩ : ∃ mm : Nat, (1 + r).toNat = mm ∧ mm ≤ most ∧ 1 ≤ mm := ⟨(1 + r).toNat, rfl, by omega, by omega⟩
    rw [hmm]
    obtain ⟨nDp, nDl⟩ := D1.new nD
    have nD0 : H D = none := E1.free nD nDp nDl
    refine lc_it (walk_rg (n := mm)) (fun i G2 => ∃ (us : List V) (ts : List Tm), G2 D = some (.lst us) ∧ Deck G2 p l ∧ Ext p l H G2 ∧ us.length = i ∧ DqA G2 us (ts.map tmD) ∧ ∀ (j : Nat) t, ts[j]? = some t → okTm (Deed many) 3 j t ∧ dep t ≤ deep) ⟨[], [], upd_same, D1.mut nDp nDl, Ext.mut E1 nD0, rfl, .nil, (fun j t h => by simp at h)⟩ (fun _ _ _ _ => trivial) ?_ ?_
    · rintro i x _ G2 hi ⟨us, ts, hD, DG, EG, hul, qu, hts⟩ ⟨rfl, rfl⟩
      have htl2 : ts.length = us.length := by have := qu.len; rw [List.length_map] at this; exact this.symm
      refine ⟨rfl, ?_⟩
      dsimp only [tYes]
      rw [if_pos rfl]
      refine ⟨.ref p, rfl, .int (many : Int), rfl, .int (i : Int), rfl, .int (deep : Int), rfl, .ref tl, rfl, p, l, tl, many, i, deep, ks, rfl, DG, m0, m1, by omega, by omega, by omega, by rw [hid_ne ntp ntl]; exact Ext.at_ EG ntp ntl htl0, hk0, hkl, hkb, fun G3 v t D3 E3 hv hok hdt => ?_⟩
      have hD3 := E3.at_ nDp nDl hD
      have ts3 : TS G3 (upd G3 D (.lst (us ++ [v]))) := TS.lst hD3
      have fl := tms_flat ts
      rw [tmDs_map] at fl
      refine ⟨us, hD3, szm (by omega), us ++ [v], ts ++ [t], upd_same, D3.mut nDp nDl, Ext.mut (Same.trans EG E3) nD0, by rw [List.length_append, hul]; rfl, ?_, fun j y hy => ?_⟩
      · rw [List.map_append]
        exact dqa_snoc (DqA.upT ts3 fl (DqA.upT (TS.deck DG E3) fl qu)) (Dq.upT ts3 (tm_flat t) hv)
      · rcases Nat.lt_trichotomy j ts.length with c | c | c
        · rw [List.getElem?_append_left c] at hy
          exact hts j y hy
        · subst c
          rw [List.getElem?_append_right (Nat.le_refl _), Nat.sub_self] at hy
          cases Option.some.inj hy
          rw [htl2, hul]
          exact ⟨hok, hdt⟩
        · rw [List.getElem?_eq_none (by rw [List.length_append]; show _ + 1 ≤ _; omega)] at hy
          cases hy
    · rintro G ⟨us, ts, hD, DG, EG, hul, qu, hts⟩
      have htl2 : ts.length = us.length := by have := qu.len; rw [List.length_map] at this; exact this.symm
      dsimp only [tNext]
      refine ⟨.ref D, rfl, D, rfl, ⟨us, SqL.of hD⟩, fun S nS => ?_⟩
      obtain ⟨nSp, nSl⟩ := DG.new nS
      have nS0 : H S = none := EG.free nS nSp nSl
      have nSD : S ≠ D := (ne_of_none hD nS).symm
      refine lc_it (walk_list (K := K) (a := D) (xs := us)) (fun i G2 => G2 S = some (.lst ((sizesOf (ts.take i)).map V.int)) ∧ Same G G2) ⟨upd_same, same_new nS⟩ (fun _ _ _ ⟨_, sm⟩ => SqL.of (sm _ _ hD)) ?_ ?_
      · rintro i x _ G2 hi ⟨hS, sm⟩ ⟨rfl, hx⟩
        obtain ⟨d0, hd0, qd⟩ := qu.get hx
        rw [List.getElem?_map] at hd0
        obtain ⟨t, ht, rfl⟩ := Option.map_eq_some_iff.mp hd0
        obtain ⟨o1, o2⟩ := hts i t ht
        have o3 := tm_depth t
        refine ⟨rfl, ?_⟩
        dsimp only [tYes]
        rw [if_pos rfl]
        refine ⟨x, rfl, x, _, rfl, qd.up sm, tm_flat t, by omega, wid_tm m1 (by decide) t o1, fun G3 s3 => ⟨_, _, rfl, rfl, _, s3 _ _ hS, szm ?_, ?_, fun c o hc => ?_⟩⟩
        · rw [List.length_map]
          show (List.map _ _).length ≤ _
          rw [List.length_map, List.length_take]
          omega
        · rw [upd_same, List.take_add_one, ht]
          show some (HO.lst _) = some (HO.lst ((List.map _ (_ ++ _)).map _))
          rw [List.map_append, List.map_append]
          simp [sizesOf]
        · rw [upd_ne (ne_of_none hc nS)]
          exact s3 _ _ (sm _ _ hc)
      · rintro G2 ⟨hS, sm⟩
        rw [← htl2, List.take_length] at hS
        dsimp only [tNext]
        have fl := tms_flat ts
        rw [tmDs_map] at fl
        refine while_by (fun σ G3 => ∃ (us : List V) (ts : List Tm), σ = [some (.ref p), some (.int (many : Int)), some (.int (most : Int)), some (.int (deep : Int)), some (.ref tl), some (.ref D), none, some (.ref S), none] ∧ Deck G3 p l ∧ Ext p l H G3 ∧ G3 D = some (.lst us) ∧ DqA G3 us (ts.map tmD) ∧ G3 S = some (.lst ((sizesOf ts).map V.int)) ∧ 0 < ts.length ∧ ts.length ≤ most ∧ ∀ (j : Nat) t, ts[j]? = some t → okTm (Deed many) 3 j t ∧ dep t ≤ deep)
          (fun σ G3 => match G3 S with | some (.lst zs) => zs.length | _ => 0) ⟨us, ts, rfl, DG.up sm, Same.trans EG (Ext.of sm), sm _ _ hD, qu.up sm, hS, by omega, by omega, hts⟩ ?_ (mono_test (mono_op (mono_rI0 _) (mono_cb (mono_sum K) (mono_cons (mono_var 7) mono_nil)) (mono_c _)))
        rintro σ G3 ⟨us, ts, rfl, D3, E3, hD3, q3, hS3, h0, h3, ht3⟩
        refine ⟨.ref S, rfl, S, _, rfl, SqL.of hS3, _, _, rfl, rfl, _, rfl, ?_⟩
        rw [sizes_sum]
        have hpr : PrOk (Deed many) 3 deep ts := ⟨h0, by omega, ht3⟩
        have hul3 := q3.len
        rw [List.length_map] at hul3
        refine ite2 (fun c => ?_) (fun c => ?_)
        · have c1 : 3600 < itm (.tuple (ts.map tmD)) := by
            have := of_decide_eq_true c
            omega
          have h2 : 2 ≤ ts.length := by
            rcases Nat.lt_or_ge ts.length 2 with c2 | c2
            · exfalso
              obtain ⟨t, rfl⟩ : ∃ t, ts = [t] := by
                match ts, h0, c2 with
                | [t], _, _ => exact ⟨t, rfl⟩
                | _ :: _ :: _, _, c2 => exact absurd c2 (by simp)
              obtain ⟨o1, o2⟩ := ht3 0 t rfl
              have a1 := itm_tm m1 t o1
              have a2 : itF (dep t) ≤ itF 5 := itF_mono (by omega)
              have a3 : itF 5 = 2549 := by decide
              simp only [List.map_cons, List.map_nil, itm, itmA, List.length_cons, List.length_nil] at c1
              omega
            · exact c2
          obtain ⟨us0, u, rfl⟩ : ∃ us0 u, us = us0 ++ [u] := by
            have hne : us ≠ [] := fun z => by rw [z] at hul3; simp at hul3; omega
            exact ⟨us.dropLast, us.getLast hne, (List.dropLast_concat_getLast hne).symm⟩
          obtain ⟨ts0, t, rfl⟩ : ∃ ts0 t, ts = ts0 ++ [t] := by
            have hne : ts ≠ [] := fun z => by rw [z] at h0; simp at h0
            exact ⟨ts.dropLast, ts.getLast hne, (List.dropLast_concat_getLast hne).symm⟩
          refine ⟨.ref D, rfl, .inl ⟨rfl, _, SqL.of hD3⟩, D, _, u, rfl, rfl, hD3, last_at _ _, ?_⟩
          have t1 : TS G3 (upd G3 D (.lst (us0 ++ [u]).dropLast)) := TS.lst hD3
          have fl3 := tms_flat (ts0 ++ [t])
          rw [tmDs_map] at fl3
          have q4 := DqA.upT t1 fl3 q3
          have hS4 : upd G3 D (.lst (us0 ++ [u]).dropLast) S = some (.lst ((sizesOf (ts0 ++ [t])).map V.int)) := by rw [upd_ne nSD]; exact hS3
          have hD4 : upd G3 D (.lst (us0 ++ [u]).dropLast) D = some (.lst us0) := by rw [upd_same, List.dropLast_concat]
          have D4 := D3.mut (o := .lst (us0 ++ [u]).dropLast) nDp nDl
          have E4 : Ext p l H (upd G3 D (.lst (us0 ++ [u]).dropLast)) := Ext.mut E3 nD0
          generalize upd G3 D (.lst (us0 ++ [u]).dropLast) = G4 at q4 hS4 hD4 D4 E4
          dsimp only [tNext]
          have e5 : (sizesOf (ts0 ++ [t])).map V.int = (sizesOf ts0).map V.int ++ [.int ((1 + itm (tmD t) : Nat) : Int)] := by simp [sizesOf]
          rw [e5] at hS4
          refine ⟨.ref S, rfl, .inl ⟨rfl, _, SqL.of hS4⟩, S, _, _, rfl, rfl, hS4, last_at _ _, ?_⟩
          have t2 : TS G4 (upd G4 S (.lst ((sizesOf ts0).map V.int ++ [V.int ((1 + itm (tmD t) : Nat) : Int)]).dropLast)) := TS.lst hS4
          refine ⟨⟨us0, ts0, rfl, D4.mut nSp nSl, Ext.mut E4 nS0, by rw [upd_ne nSD.symm]; exact hD4, ?_, by rw [upd_same, List.dropLast_concat], by rw [List.length_append] at h2; simp at h2; omega, by rw [List.length_append] at h3; omega, fun j y hy => ht3 j y ?_⟩, ?_⟩
          · have fl0 := tms_flat ts0
            rw [tmDs_map] at fl0
            refine DqA.upT t2 fl0 ?_
            have := DqA.take us0.length q4
            rw [List.take_left, List.map_append, List.take_left' (by rw [List.length_map]; rw [List.length_append, List.length_append] at hul3; simp at hul3; omega)] at this
            exact this
          · have hj := (List.getElem?_eq_some_iff.mp hy).1
            rw [List.getElem?_append_left hj]
            exact hy
          · show (match upd G4 S _ S with | some (.lst zs) => zs.length | _ => 0) < (match G3 S with | some (.lst zs) => zs.length | _ => 0)
            rw [upd_same, hS3, e5]
            show (List.dropLast _).length < (_ ++ _ : List V).length
            rw [List.dropLast_concat, List.length_append]
            exact Nat.lt_succ_self _
        · have c1 : itm (.tuple (ts.map tmD)) ≤ 3600 := by
            have : ¬ (3600 : Int) < ((itm (.tuple (ts.map tmD)) : Nat) : Int) := fun z => c (decide_eq_true z)
            omega
          dsimp only [tNext]
          refine ⟨.ref D, rfl, D, _, rfl, .inl ⟨SqL.of hD3, fun t nt => ?_⟩⟩
          have s1 := same_new (o := .tup us) nt
          exact q _ _ ts (D3.up s1) (Same.trans E3 (Ext.of s1)) (.tup upd_same (q3.up s1)) hpr c1 h3
end
end Kr
namespace Kr
open PySem PySem.Spec PyProof.Rows L2
/-! ### for x in v, v a list or a tuple -/
def iLT (K : PySem.W.Frag) (tl : TE) : TI := fun σ H R => tl σ H fun x H1 => ∃ a, x = .ref a ∧ (((∃ xs, SqL K H1 a xs) ∧ R (Itl K a) H1) ∨ ((∃ xs, SqT K H1 a xs) ∧ R (Itt K a) H1))
theorem pi_lt {X : Cx} {tg l : Expr} {tl : TE} (hl : PE X l tl) : PI X tg l (iLT X.K tl) := by
  refine ⟨fun pins s σ H R I h => ?_⟩
  refine thn (hl.run pins s σ H _ I h) fun v s1 ⟨x, H1, I1, r1, q1⟩ => ?_
  obtain ⟨a, e, q1⟩ := q1
  subst e
  cases r1
  rcases q1 with ⟨⟨xs, hq⟩, q⟩ | ⟨⟨xs, hq⟩, q⟩
  · obtain ⟨its, rv, p, hz⟩ := I1.list hq
    refine wpAny_pyIter_list p.isList ?_
    refine ⟨s1.heap.objs.size, [s1.heap.objs.size], _, _, H1, rfl, I1.kept (t' := s1.toks) fun b o e => Heap.get?_push_of_some _ e, turn_list a _, ⟨_, Heap.get?_push_size _ rfl, rfl, rfl⟩, fun b hb => ?_, q⟩
    have e : b = s1.heap.objs.size := by simpa using hb
    subst e
    exact I1.fpOk (Nat.le_refl _) (I1.hok.fresh (Nat.le_refl _))
  · obtain ⟨its, rv, p, hz⟩ := I1.tuple hq
    refine wpAny_pyIter_tuple (show s1.heap.IsTuple a its.toArray from p) ?_
    refine ⟨s1.heap.objs.size, [s1.heap.objs.size], _, _, H1, rfl, I1.kept (t' := s1.toks) fun b o e => Heap.get?_push_of_some _ e, turn_tuple a _, ⟨_, Heap.get?_push_size _ rfl, rfl, rfl⟩, fun b hb => ?_, q⟩
    have e : b = s1.heap.objs.size := by simpa using hb
    subst e
    exact I1.fpOk (Nat.le_refl _) (I1.hok.fresh (Nat.le_refl _))
end Kr
namespace Kr
open PySem PySem.Spec PyProof.Rows L2
def isTl : PyData → Bool
  | .tuple _ | .list _ => true
  | _ => false
theorem kit_list {K : PySem.W.Frag} : ∀ d : PyData, PySem.W.kitOne K (.type (tyN d)) (.type "list") = some (match d with | .list _ => true | _ => false)
  | .none => kit_ty (show kitB "NoneType" "list" = some false by decide +kernel)
  | .bool _ => kit_ty (show kitB "bool" "list" = some false by decide +kernel)
  | .int _ => kit_ty (show kitB "int" "list" = some false by decide +kernel)
  | .str _ => kit_ty (show kitB "str" "list" = some false by decide +kernel)
  | .list _ => kit_ty (show kitB "list" "list" = some true by decide +kernel)
  | .tuple _ => kit_ty (show kitB "tuple" "list" = some false by decide +kernel)
  | .dict _ => kit_ty (show kitB "dict" "list" = some false by decide +kernel)
theorem kit_tlG {K : PySem.W.Frag} (d : PyData) : PySem.W.kitAny K (.type (tyN d)) [.type "tuple", .type "list"] = some (isTl d) := by
  have h1 := kit_tuple (K := K) d
  have h2 := kit_list (K := K) d
  unfold PySem.W.kitAny
  rw [h1]
  cases d <;> first | rfl | (simp only [isTu]; unfold PySem.W.kitAny; rw [h2]; rfl)
def spItemsG (n : Nat) : Sp := fun vs H Q _ => ∃ (v : V) (d : PyData), vs = [v] ∧ Dq H v d ∧ vB d = true ∧ d.depth < n ∧ ∀ H', Same H H' → Q (.int ((itg d : Nat) : Int)) H'
section
variable {P : Program} {w : World} {K : PySem.W.Frag} {mg : Str → Option Value} {base : Heap}
abbrev nIg : List Str := ["thing", "own"]
theorem scIg : FnScope nIg ["thing"] (defScope sLItems) := ⟨rfl, rfl, rfl, by decide +kernel, rfl, by decide +kernel, by decide +kernel⟩
theorem o_lItemsG (D0 : Df K mg "_law_items" sLItems ["thing"]) (B : Bi mg) : ∀ n, Ok P w K mg base n "_law_items" ["thing"] (spItemsG n)
  | 0 => D0.ok fun f fd F => by
    have no : ∀ vs H Q E, ¬ spItemsG 0 vs H Q E := fun vs H Q E h => by
      obtain ⟨_, _, _, _, _, hd, _⟩ := h
      exact Nat.not_lt_zero _ hd
    exact ⟨fun vs H Q E h => absurd h (no vs H Q E), fun A outer s H args us vs Q E _ _ _ _ h => absurd h (no vs H Q E)⟩
  | n + 1 => by
    have ih := o_lItemsG D0 B n
    refine D0.ok fun f fd F => F.ok scIg (fun vs H Q E h => ?_) (fun cdv A outer s H vs Q E hr h => ?_)
    · obtain ⟨_, _, rfl, _⟩ := h
      rfl
    · obtain ⟨v, d, rfl, hv, hf, hd, q⟩ := h
      refine ⟨_, pss_one (ps_ret (pe_ifExp (pt_val (pe_callB call_isiT (by rfl) B.isinstance (by decide +kernel) (pa_cons (pv 0) (pa_cons (pe_tup (pa_cons (pe_bltn (v := .ty "tuple") (by rfl) B.tuple (by decide +kernel) rfl) (pa_cons (pe_bltn (v := .ty "list") (by rfl) B.list (by decide +kernel) rfl) pa_nil))) pa_nil))))
        (pe_op op_add (pe_callB call_len_seq (by rfl) B.len boot_len (pa_cons (pv 0) pa_nil)) (pe_callB (cr_sum rfl) (by rfl) B.sum (by decide +kernel) (pa_cons (pe_lc (own := [("own", 1)]) (g := gName 1) (tt := tYes) rfl scIg.nd (pi_lt (pv 0)) (blkOk_by (own := [("own", 1)]) (N := nIg) (sc := defScope sLItems) (by decide +kernel)) (fun _ _ _ _ _ => pg_name (i := 1) scIg.nd rfl (.inl rfl)) (fun _ _ _ _ _ => pts_nil) (fun _ _ _ _ _ => pe_fn ih hr (by rfl) (pa_cons (pv 1) pa_nil))) pa_nil))) pe_int)), ?_⟩
      refine ⟨v, rfl, by show 2 ≤ sizeLine; decide, fun tp ntp => ?_⟩
      have s1 := same_new (o := .tup [.ty "tuple", .ty "list"]) ntp
      refine ⟨v, tp, _, _, _, isTl d, rfl, upd_same, .cons (.ty _) (.cons (.ty _) .nil), (hv.up s1).ty, kit_tlG d, isTl d, rfl, ?_⟩
      cases hT : isTl d with
      | false =>
        have e : itg d = 0 := by
          cases d <;> first | rfl | exact absurd hT (by simp [isTl])
        have h2 := q _ s1
        rw [e] at h2
        exact iteF h2
      | true =>
        have bd : ∀ ds : List PyData, (d = .tuple ds ∨ d = .list ds) → ds.length ≤ 500 ∧ vBA ds = true ∧ PyData.depthAll ds < n ∧ itg d = ds.length + itgA ds := by
          rintro ds (rfl | rfl)
          · simp only [vB, Bool.and_eq_true, decide_eq_true_eq] at hf
            simp only [PyData.depth] at hd
            exact ⟨hf.1, hf.2, by omega, by simp only [itg]⟩
          · simp only [vB, Bool.and_eq_true, decide_eq_true_eq] at hf
            simp only [PyData.depth] at hd
            exact ⟨hf.1, hf.2, by omega, by simp only [itg]⟩
        have fin : ∀ (a : Addr) (xs : List V) (ds : List PyData) (J : It) (GJ : Hp → Prop), Walk J xs.length GJ (YAt xs) → (∀ G, Same (upd H tp (.tup [.ty "tuple", .ty "list"])) G → GJ G) → ds.length ≤ 500 → vBA ds = true → PyData.depthAll ds < n → itg d = ds.length + itgA ds → DqA H xs ds → ∀ D, (upd H tp (.tup [.ty "tuple", .ty "list"])) D = none → ∀ σ, σ = [some (.ref a), none] →
            ∃ W : Nat → Nat → Hp → Prop, (∃ m, W 0 m (upd (upd H tp (.tup [.ty "tuple", .ty "list"])) D (.lst []))) ∧ ∀ i m H', W i m H' →
              (J.stop i H' ∧ ∃ ns : List Int, H' D = some (.lst (ns.map V.int)) ∧ ns.sum = ((itgA ds : Nat) : Int) ∧ Same (upd H tp (.tup [.ty "tuple", .ty "list"])) H') ∨ (J.go i H' ∧ ∃ Nx : Hp → Prop, (∀ H'', Nx H'' → ∃ m', m' < m ∧ W (i + 1) m' H'') ∧ ∀ x H'', J.yld i H' x H'' → gName 1 x (wipe σ [1]) H'' fun σ2 H2 => wipe σ2 [1] = wipe σ [1] ∧ tYes σ2 H2 fun b H3 => if b = true then (tCall (spItemsG n) [] E0 (tCons (tVar 1) tNil)) σ2 H3 fun y H4 => ∃ acc, H4 D = some (.lst acc) ∧ acc.length < sizeLine ∧ Nx (upd H4 D (.lst (acc ++ [y]))) else Nx H3) := by
          rintro a xs ds J GJ wk hG h5 hA hdp hit qx D nD σ rfl
          have hxl := qx.len
          refine lc_it wk (fun i G => G D = some (.lst ((((ds.take i).map itg).map fun a : Nat => (a : Int)).map V.int)) ∧ Same (upd H tp (.tup [.ty "tuple", .ty "list"])) G) ⟨upd_same, same_new nD⟩ (fun _ G _ ⟨_, sm⟩ => hG G sm) ?_ ?_
          · rintro i x _ G hi ⟨hD, sm⟩ ⟨rfl, hx⟩
            obtain ⟨d0, hd0, qd⟩ := qx.get hx
            have hmem := List.mem_of_getElem? hd0
            have hdd := depthAll_le hmem
            refine ⟨rfl, ?_⟩
            dsimp only [tYes]
            rw [if_pos rfl]
            refine ⟨x, rfl, x, d0, rfl, qd.up (s1.trans sm), vBA_mem hA d0 hmem, by omega, fun H' s2 => ?_⟩
            have hD' := s2 _ _ hD
            refine ⟨_, hD', szm (by rw [List.length_map, List.length_map, List.length_map, List.length_take]; omega), ?_, fun c o hc => ?_⟩
            · rw [upd_same, List.take_add_one, hd0]
              simp
            · rw [upd_ne (ne_of_none hc nD)]
              exact s2 _ _ (sm _ _ hc)
          · rintro G ⟨hD, sm⟩
            rw [hxl, List.take_length] at hD
            refine ⟨_, hD, ?_, sm⟩
            rw [sum_castC, ← itgA_map]
        obtain ⟨a, rfl⟩ : ∃ a, v = .ref a := by
          cases hv with
          | lst _ _ => exact ⟨_, rfl⟩
          | tup _ _ => exact ⟨_, rfl⟩
          | _ => exact absurd hT (by simp [isTl])
        have last : ∀ (xs : List V) (ds : List PyData), DqA H xs ds → itg d = ds.length + itgA ds → ∀ G (ns : List Int), ns.sum = ((itgA ds : Nat) : Int) → Same (upd H tp (.tup [.ty "tuple", .ty "list"])) G → Q (.int ((xs.length : Int) + ns.sum)) G := fun xs ds qx hit G ns hs sm => by
          have h2 := q G (s1.trans sm)
          rw [hs, qx.len]
          have e : ((ds.length : Nat) : Int) + ((itgA ds : Nat) : Int) = ((itg d : Nat) : Int) := by
            rw [hit]
            omega
          rw [e]
          exact h2
        cases hv with
        | @lst _ xs ds ha qx =>
          obtain ⟨b1, b2, b3, b4⟩ := bd ds (.inr rfl)
          have ha1 := s1 _ _ ha
          refine iteT ⟨.ref a, rfl, a, xs, rfl, .inl (SqL.of ha1), .ref a, rfl, a, rfl, .inl ⟨⟨_, SqL.of ha1⟩, fun D nD => ?_⟩⟩
          obtain ⟨W, hW, hk⟩ := fin a xs ds _ _ (walk_list (K := K) (a := a) (xs := xs)) (fun G sm => SqL.of (sm _ _ ha1)) b1 b2 b3 b4 qx D nD _ rfl
          refine ⟨W, hW, fun i m G hG => ?_⟩
          rcases hk i m G hG with ⟨k1, ns, k2, k3, k4⟩ | k
          · exact .inl ⟨k1, D, _, rfl, SqL.of k2, _, _, rfl, rfl, last xs ds qx b4 G ns k3 k4⟩
          · exact .inr k
        | @tup _ xs ds ha qx =>
          obtain ⟨b1, b2, b3, b4⟩ := bd ds (.inl rfl)
          have ha1 := s1 _ _ ha
          refine iteT ⟨.ref a, rfl, a, xs, rfl, .inr (SqT.of ha1), .ref a, rfl, a, rfl, .inr ⟨⟨_, SqT.of ha1⟩, fun D nD => ?_⟩⟩
          obtain ⟨W, hW, hk⟩ := fin a xs ds _ _ (walk_tup (K := K) (a := a) (xs := xs)) (fun G sm => SqT.of (sm _ _ ha1)) b1 b2 b3 b4 qx D nD _ rfl
          refine ⟨W, hW, fun i m G hG => ?_⟩
          rcases hk i m G hG with ⟨k1, ns, k2, k3, k4⟩ | k
          · exact .inl ⟨k1, D, _, rfl, SqL.of k2, _, _, rfl, rfl, last xs ds qx b4 G ns k3 k4⟩
          · exact .inr k
        | dic _ => cases hT
end
end Kr
namespace Kr
open PySem PySem.Spec PyProof.Rows L2
section
variable {P : Program} {w : World} {K : PySem.W.Frag} {mg : Str → Option Value} {base : Heap}
abbrev n_whole : List Str := ["value", "low", "high"]
theorem sc_whole : FnScope n_whole ["value", "low", "high"] (defScope sLIsWhole) := ⟨rfl, rfl, rfl, by decide +kernel, rfl, by decide +kernel, by decide +kernel⟩
theorem o_whole (D0 : Df K mg "_law_is_whole" sLIsWhole ["value", "low", "high"]) (B : Bi mg) : Ok P w K mg base 1 "_law_is_whole" ["value", "low", "high"] spB := by
  refine D0.ok fun f fd F => F.ok sc_whole (fun vs H Q E h => ?_) (fun cdv A outer s H vs Q E hr h => ?_)
  · obtain ⟨_, _, _, _, rfl, _⟩ := h
    rfl
  · obtain ⟨v, d, lo, hi, rfl, hd, q⟩ := h
    have hu : (cxOf CX0 P w K mg base n_whole "_law_is_whole" (defScope sLIsWhole) f cdv A outer s H E).A.units + 64 < cLine := hr.units
    have hu1 := hu_of hr
    refine ⟨_, pss_one (ps_ret (pe_and (pe_callB call_isi (by rfl) B.isinstance (by decide +kernel) (pa_cons (pv 0) (pa_cons (pe_bltn (v := .ty "int") (by rfl) B.int (by decide +kernel) rfl) pa_nil))) (pe_and (pe_not (pe_callB call_isi (by rfl) B.isinstance (by decide +kernel) (pa_cons (pv 0) (pa_cons (pe_bltn (v := .ty "bool") (by rfl) B.bool (by decide +kernel) rfl) pa_nil)))) (pe_one (pe_chain op_le op_le (pv 1) (pv 0) (pv 2)))))), ?_⟩
    refine ⟨v, rfl, v, .ty "int", _, _, isI d, rfl, .ty "int", hd.ty, kit_int d, isI d, rfl, ?_⟩
    by_cases hi1 : isI d = true
    · rw [hi1]
      refine iteT ?_
      refine ⟨v, rfl, v, .ty "bool", _, _, isBo d, rfl, .ty "bool", hd.ty, kit_bool d, isBo d, rfl, !isBo d, rfl, ?_⟩
      cases hd with
      | bl b => exact q
      | int i =>
        refine ⟨.int lo, rfl, .int i, rfl, _, _, rfl, rfl, decide (lo ≤ i), rfl, ?_⟩
        by_cases h1 : lo ≤ i
        · rw [decide_eq_true h1]
          refine iteT ⟨.int hi, rfl, _, _, rfl, rfl, ?_⟩
          have e : isB (.int i) lo hi = decide (i ≤ hi) := by simp [isB, h1]
          rw [e] at q
          exact q
        · rw [decide_eq_false h1]
          have e : isB (.int i) lo hi = false := by simp [isB, h1]
          rw [e] at q
          exact iteF q
      | _ => simp [isI] at hi1
    · rw [Bool.eq_false_iff.mpr hi1]
      have e : isB d lo hi = false := by cases d <;> first | rfl | exact absurd rfl hi1
      rw [e] at q
      exact iteF q
end
end Kr
namespace Kr
open PySem PySem.Spec PyProof.Rows L2
theorem deed_look (n : Int) (ls : List PyData) (xd yd : PyData) : isNo (deedErr n (.tuple [.tuple ls, xd, yd])) = ((ls ++ [xd, yd]).all (fun d => isB d 0 (n - 1)) && (asc (ls.map iv) && (decide (iv xd < iv yd) && (!decide (iv xd ∈ ls.map iv) && !decide (iv yd ∈ ls.map iv))))) := by
  show isNo (if lotOk n (.tuple ls) = true then (if plOk n (.tuple ls) xd yd = true then PyData.none else .str "places") else .str "lot") = _
  have h1 : lotOk n (.tuple ls) = (ls.all (fun d => isB d 0 (n - 1)) && asc (ls.map iv)) := rfl
  have h2 : plOk n (.tuple ls) xd yd = (isB xd 0 (n - 1) && isB yd 0 (n - 1) && decide (iv xd < iv yd) && !decide (iv xd ∈ ls.map iv) && !decide (iv yd ∈ ls.map iv)) := rfl
  rw [h1, h2, List.all_append]
  simp only [List.all_cons, List.all_nil, Bool.and_true]
  generalize ls.all (fun d => isB d 0 (n - 1)) = b1
  generalize asc (ls.map iv) = b2
  generalize isB xd 0 (n - 1) = b3
  generalize isB yd 0 (n - 1) = b4
  generalize decide (iv xd < iv yd) = b5
  generalize decide (iv xd ∈ ls.map iv) = b6
  generalize decide (iv yd ∈ ls.map iv) = b7
  cases b1 <;> cases b2 <;> cases b3 <;> cases b4 <;> cases b5 <;> cases b6 <;> cases b7 <;> rfl
def spIsDeed : Sp := fun vs H Q _ => ∃ (n : Int) (v : V) (d : PyData), vs = [.int n, v] ∧ Dq H v d ∧ vB d = true ∧ ∀ H', Same H H' → Q (.bl (isNo (deedErr n d))) H'
section
variable {P : Program} {w : World} {K : PySem.W.Frag} {mg : Str → Option Value} {base : Heap}
abbrev n_lIsDeed : List Str := ["many", "value", "lot", "a", "b", "item", "one", "other"]
theorem sc_lIsDeed : FnScope n_lIsDeed ["many", "value"] (defScope sLIsDeed) := ⟨rfl, rfl, rfl, by decide +kernel, rfl, by decide +kernel, by decide +kernel⟩
theorem o_lIsDeed (D0 : Df K mg "_law_is_deed" sLIsDeed ["many", "value"]) (B : Bi mg) (wh : Ok P w K mg base 1 "_law_is_whole" ["value", "low", "high"] spB) : Ok P w K mg base 2 "_law_is_deed" ["many", "value"] spIsDeed := by
  refine D0.ok fun f fd F => F.ok sc_lIsDeed (fun vs H Q E h => ?_) (fun cdv A outer s H vs Q E hr h => ?_)
  · obtain ⟨_, _, _, rfl, _⟩ := h
    rfl
  · obtain ⟨n, v, d, rfl, hv, hb, q⟩ := h
    have hr_wh := hr.mono (show 1 ≤ 1 by omega)
    have hu : (cxOf CX0 P w K mg base n_lIsDeed "_law_is_deed" (defScope sLIsDeed) f cdv A outer s H E).A.units + 64 < cLine := hr.units
    have hu1 := hu_of hr
    refine ⟨_, pss_cons (ps_if (PW.pt (pw_or (pt_not (pt_val (pe_callB call_isi (by rfl) B.isinstance (by decide +kernel) (pa_cons (pv 1) (pa_cons (pe_bltn (v := .ty "tuple") (by rfl) B.tuple (by decide +kernel) rfl) pa_nil))))) (pw_or (pt_cmpR op_ne (pe_callB call_len_seq (by rfl) B.len boot_len (pa_cons (pv 1) pa_nil)) pe_int (nomark _)) (pw_or1 (pt_not (pt_val (pe_callB call_isi (by rfl) B.isinstance (by decide +kernel) (pa_cons (pe_ix ix_tup (pv 1) pe_int (fun _ _ => rfl)) (pa_cons (pe_bltn (v := .ty "tuple") (by rfl) B.tuple (by decide +kernel) rfl) pa_nil))))))))) (pss_one (ps_ret pe_bl)) pss_nil)
      (pss_cons (ps_asg (pv 1) (pg_tup rfl (pgs_cons (pg_name (i := 2) sc_lIsDeed.nd rfl (.inl rfl)) (pgs_cons (pg_name (i := 3) sc_lIsDeed.nd rfl (.inl rfl)) (pgs_cons (pg_name (i := 4) sc_lIsDeed.nd rfl (.inl rfl)) pgs_nil)))))
      (pss_cons (ps_if (pt_cmpR (op_neN hu) (pe_lc (own := [("item", 5)]) (g := gName 5) rfl sc_lIsDeed.nd (pi_tup (pe_op op_catA (pv 2) (pe_tup (pa_cons (pv 3) (pa_cons (pv 4) pa_nil))))) (blkOk_by (own := [("item", 5)]) (N := n_lIsDeed) (sc := defScope sLIsDeed) (by decide +kernel)) (fun _ _ _ _ _ => pg_name (i := 5) sc_lIsDeed.nd rfl (.inl rfl)) (fun _ _ _ _ _ => pts_one (pt_not (pt_val (pe_fn wh hr_wh (by rfl) (pa_cons (pv 5) (pa_cons pe_int (pa_cons (pe_op op_sub (pv 0) pe_int) pa_nil))))))) (fun _ _ _ _ _ => pe_int)) (pe_lst pa_nil) (nomark _)) (pss_one (ps_ret pe_bl)) pss_nil)
      (pss_one (ps_ret (pe_and (pe_cmpR (op_eqN hu) (pe_lc (own := [("one", 6), ("other", 7)]) (g := gTup K 2 (gCons (gName 6) (gCons (gName 7) gNil))) rfl sc_lIsDeed.nd (RZ.pi_zipA (by rfl) B.zip (pa_cons (pv 2) (pa_cons (pe_slice sl_tupA (pv 2) (po_some pe_int) po_none) pa_nil))) (blkOk_by (own := [("one", 6), ("other", 7)]) (N := n_lIsDeed) (sc := defScope sLIsDeed) (by decide +kernel)) (fun _ _ _ _ _ => pg_tup rfl (pgs_cons (pg_name (i := 6) sc_lIsDeed.nd rfl (.inl rfl)) (pgs_cons (pg_name (i := 7) sc_lIsDeed.nd rfl (.inl rfl)) pgs_nil))) (fun _ _ _ _ _ => pts_one (pt_cmpR op_ge (pv 6) (pv 7) (nomark _))) (fun _ _ _ _ _ => pe_int)) (pe_lst pa_nil) (nomark _)) (pe_and (pe_cmpR op_lt (pv 3) (pv 4) (nomark _)) (pe_and (pe_cmpR (r := rIn K true) op_notIn_seq (pv 3) (pv 2) rfl) (pe_one (pe_cmpR (r := rIn K true) op_notIn_seq (pv 4) (pv 2) rfl))))))))), ?_⟩
    refine ⟨v, rfl, v, .ty "tuple", _, _, isTu d, rfl, .ty "tuple", hv.ty, kit_tuple d, isTu d, rfl, ?_⟩
    by_cases htu : isTu d = true
    rotate_left
    · rw [Bool.eq_false_iff.mpr htu]
      have e0 : isNo (deedErr n d) = false := by cases d <;> first | rfl | exact absurd rfl htu
      rw [e0] at q
      exact iteT (iteT (q _ (Same.refl _)))
    rw [htu]
    refine iteF ?_
    obtain ⟨ds, rfl⟩ : ∃ ds, d = .tuple ds := low_isTu htu
    obtain ⟨a, xs, rfl, ea, qa⟩ := Dq.tup_inv hv
    have hxl := qa.len
    have e3 : decide (V.int (xs.length : Int) = V.int 3) = isT (.tuple ds) 3 := by
      show _ = decide ((ds.length : Int) = 3)
      rw [← hxl]
      simp
    refine ⟨.ref a, rfl, a, xs, rfl, .inr (SqT.of ea), rfl, _, rfl, ?_⟩
    rw [e3]
    by_cases ht : isT (.tuple ds) 3 = true
    rotate_left
    · rw [Bool.eq_false_iff.mpr ht]
      rw [not3 (Bool.eq_false_iff.mpr ht)] at q
      exact iteT (iteT (q _ (Same.refl _)))
    rw [ht]
    refine iteF ?_
    obtain ⟨ld, xd, yd, e4⟩ := is3 ht
    cases e4
    obtain ⟨a', u1, u2, u3, e5, ea', q1, q2, q3⟩ := dq3 hv
    cases e5
    refine ⟨.ref a, rfl, a, [u1, u2, u3], 0, u1, rfl, rfl, SqT.of ea', rfl, u1, .ty "tuple", _, _, isTu ld, rfl, .ty "tuple", q1.ty, kit_tuple ld, isTu ld, rfl, ?_⟩
    by_cases htl : isTu ld = true
    rotate_left
    · rw [Bool.eq_false_iff.mpr htl]
      have e0 : isNo (deedErr n (.tuple [ld, xd, yd])) = false := by cases ld <;> first | rfl | exact absurd rfl htl
      rw [e0] at q
      exact iteT (q _ (Same.refl _))
    rw [htl]
    refine iteF ?_
    obtain ⟨ls, rfl⟩ : ∃ ds, ld = .tuple ds := low_isTu htl
    obtain ⟨la, ys, rfl, hla, qy⟩ := Dq.tup_inv q1
    have hyl := qy.len
    have hbl : ls.length ≤ 500 := by
      have := vBA_mem (by simp only [vB, Bool.and_eq_true] at hb; exact hb.2) (.tuple ls) (by simp)
      simp only [vB, Bool.and_eq_true, decide_eq_true_eq] at this
      exact this.1
    refine ⟨.ref a, rfl, a, _, rfl, SqT.of ea', rfl, .ref la, _, rfl, u2, _, rfl, u3, _, rfl, rfl, ?_⟩
    have eD : isNo (deedErr n (.tuple [.tuple ls, xd, yd])) = ((ls ++ [xd, yd]).all (fun d => isB d 0 (n - 1)) && (asc (ls.map iv) && (decide (iv xd < iv yd) && (!decide (iv xd ∈ ls.map iv) && !decide (iv yd ∈ ls.map iv))))) := deed_look n ls xd yd
    rw [eD] at q
    dsimp only [tNext]
    refine ⟨.ref la, rfl, u2, rfl, u3, rfl, by show 2 ≤ sizeLine; decide, fun t nt => ?_⟩
    have s1 := same_new (o := .tup [u2, u3]) nt
    refine catA_k (s1 _ _ hla) upd_same (by show ys.length + 2 ≤ 100000; omega) fun z H2 s2 hz => ⟨z, rfl, ⟨_, SqT.of hz⟩, fun Da nDa => ?_⟩
    have s12 := s1.trans s2
    have qz : DqA H2 (ys ++ [u2, u3]) (ls ++ [xd, yd]) := (qy.up s12).app (.cons (q2.up s12) (.cons (q3.up s12) .nil))
    have hzl := qz.len
    have hl2 : (ls ++ [xd, yd]).length = ls.length + 2 := by rw [List.length_append]; rfl
    refine lc_tup (K := K) (xs := ys ++ [u2, u3]) (fun i G2 => ∃ zs : List V, G2 Da = some (.lst zs) ∧ Same H2 G2 ∧ zs.length ≤ i ∧ zs.isEmpty = ((ls ++ [xd, yd]).take i).all (fun d => isB d 0 (n - 1)))
      ⟨[], upd_same, same_new nDa, Nat.le_refl _, rfl⟩ (fun i G2 _ ⟨_, _, sm, _⟩ => SqT.of (sm _ _ hz)) ?_ ?_
    · rintro j x G2 hx ⟨zs, hDa, sm, hl, he⟩
      obtain ⟨dx, hdx, hqx⟩ := qz.get hx
      have etk : ((ls ++ [xd, yd]).take (j + 1)).all (fun d => isB d 0 (n - 1)) = (((ls ++ [xd, yd]).take j).all (fun d => isB d 0 (n - 1)) && isB dx 0 (n - 1)) := by
        rw [List.take_add_one, hdx, List.all_append]
        simp
      refine ⟨rfl, x, rfl, .int n, rfl, n, 1, rfl, rfl, x, dx, 0, n - 1, rfl, hqx.up sm, isB dx 0 (n - 1), rfl, ?_⟩
      by_cases hb : isB dx 0 (n - 1) = true
      · rw [hb]
        refine iteF ⟨zs, hDa, sm, by omega, ?_⟩
        rw [etk, hb, Bool.and_true]
        exact he
      · rw [Bool.eq_false_iff.mpr hb]
        have hjl := (List.getElem?_eq_some_iff.mp hx).1
        refine iteT ⟨zs, hDa, ?_, zs ++ [.int 1], upd_same, fun b o hb' => ?_, by rw [List.length_append]; show _ + 1 ≤ _; omega, ?_⟩
        · exact szl (by omega)
        · rw [upd_ne (ne_of_none hb' nDa)]
          exact sm _ _ hb'
        · rw [etk, Bool.eq_false_iff.mpr hb, Bool.and_false]
          cases zs <;> rfl
    · rintro G2 ⟨zs, hDa, sm, hl, he⟩
      rw [List.take_of_length_le (by omega)] at he
      refine ⟨by show 0 ≤ sizeLine; decide, fun b nb => ⟨Da, b, zs, rfl, rfl, same_new nb _ _ hDa, upd_same, _, rfl, ?_⟩⟩
      have sm2 := (s12.trans sm).trans (same_new (o := .lst []) nb)
      generalize upd G2 b (.lst []) = G3 at sm2
      rw [he]
      by_cases ha : (ls ++ [xd, yd]).all (fun d => isB d 0 (n - 1)) = true
      rotate_left
      · rw [Bool.eq_false_iff.mpr ha] at q ⊢
        exact iteT (q _ sm2)
      rw [ha] at q ⊢
      refine iteF ?_
      obtain ⟨ns, ez, emap⟩ := dqa_isB qz ha
      obtain ⟨i, rfl, _⟩ : ∃ i, xd = .int i ∧ True := by
        obtain ⟨i, e, _⟩ := isB_bd (List.all_eq_true.mp ha xd (by simp))
        exact ⟨i, e, trivial⟩
      obtain ⟨j, rfl, _⟩ : ∃ i, yd = .int i ∧ True := by
        obtain ⟨i, e, _⟩ := isB_bd (List.all_eq_true.mp ha yd (by simp))
        exact ⟨i, e, trivial⟩
      cases q2
      cases q3
      obtain ⟨ms, rfl, ems⟩ := dqa_isB (n := n) qy (by rw [List.all_append, Bool.and_eq_true] at ha; exact ha.1)
      rw [ems] at q
      rw [List.length_map] at hyl
      have e3 := sm2 _ _ hla
      dsimp only [tNext, tRet, tOp, tLc, RZ.iZipA, tAndV]
      refine zip_args (K := K) (i := 2) (a := la) (xs := ms.map V.int) ?_ e3 fun b3 H3 s3 hb3 => ?_
      · rfl
      have sm3 := sm2.trans s3
      refine ⟨la, b3, _, _, rfl, .inr ⟨SqT.of (sm3 _ _ hla), SqT.of hb3, fun Db nDb => ?_⟩⟩
      refine lc_it (walk_zipT (K := K) rfl) (fun i G => ∃ zs : List V, G Db = some (.lst zs) ∧ Same H3 G ∧ zs.length ≤ i ∧ (zs.isEmpty = true ↔ ∀ (j : Nat) (x y : Int), j < i → ms[j]? = some x → ms[j + 1]? = some y → x < y))
        ⟨[], upd_same, same_new nDb, Nat.le_refl _, by simp⟩ (fun i G _ ⟨_, _, s, _⟩ => ⟨SqT.of (s _ _ (sm3 _ _ hla)), SqT.of (s _ _ hb3)⟩) ?_ ?_
      · rintro k _ G _ hk ⟨zs, hDb, s, hl, hz⟩ ⟨T, x, y, rfl, nT, rfl, f1, f2⟩
        dsimp only at f1 f2
        obtain ⟨u, hu1, rfl⟩ : ∃ u, ms[k]? = some u ∧ x = V.int u := by
          rw [List.getElem?_map] at f1
          cases g : ms[k]? with
          | none => rw [g] at f1; cases f1
          | some u => rw [g] at f1; exact ⟨u, rfl, (Option.some.inj f1).symm⟩
        obtain ⟨t, ht1, rfl⟩ : ∃ t, ms[k + 1]? = some t ∧ y = V.int t := by
          rw [List.getElem?_drop, List.getElem?_map, Nat.add_comm 1 k] at f2
          cases g : ms[k + 1]? with
          | none => rw [g] at f2; cases f2
          | some u => rw [g] at f2; exact ⟨u, rfl, (Option.some.inj f2).symm⟩
        have hil : k < ms.length := (List.getElem?_eq_some_iff.mp hu1).1
        have sT : Same G (upd G T (.tup [.int u, .int t])) := same_new nT
        have hDb2 := sT _ _ hDb
        refine ⟨T, [.int u, .int t], rfl, SqT.of upd_same, rfl, .int u, [.int t], rfl, .int t, [], rfl, rfl, rfl, .int u, rfl, .int t, rfl, u, t, rfl, rfl, _, rfl, ite2 (fun c => ?_) (fun c => ?_)⟩
        · have c2 : t ≤ u := of_decide_eq_true c
          refine ⟨zs, hDb2, szl (by omega), zs ++ [.int 1], upd_same, fun b o hb => ?_, by rw [List.length_append]; show _ + 1 ≤ _; omega, ?_⟩
          · rw [upd_ne (ne_of_none hb nDb)]
            exact sT _ _ (s _ _ hb)
          · constructor
            · intro z
              cases zs <;> cases z
            · intro z
              have := z k u t (Nat.lt_succ_self k) hu1 ht1
              omega
        · have c2 : u < t := Int.not_le.mp fun z => c (decide_eq_true z)
          refine ⟨zs, hDb2, s.trans sT, by omega, hz.trans ⟨fun g j x y hj h1 h2 => ?_, fun g j x y hj h1 h2 => g j x y (by omega) h1 h2⟩⟩
          by_cases e : j = k
          · subst e
            have e1 : u = x := Option.some.inj (hu1.symm.trans h1)
            have e2 : t = y := Option.some.inj (ht1.symm.trans h2)
            omega
          · exact g j x y (by omega) h1 h2
      · rintro G ⟨zs, hDb, s, hl, hz⟩
        refine ⟨by show 0 ≤ sizeLine; decide, fun b nb => ⟨Db, b, zs, rfl, rfl, same_new nb _ _ hDb, upd_same, ?_⟩⟩
        have e0 : asc ms = zs.isEmpty := by
          rw [Bool.eq_iff_iff, hz, asc_iff]
          constructor
          · intro g j x y _ h1 h2
            exact g j x y h1 h2
          · intro g j x y h1 h2
            have := (List.getElem?_eq_some_iff.mp h2).1
            refine g j x y ?_ h1 h2
            rw [List.length_drop, List.length_map]
            omega
        have sm4 := sm3.trans (s.trans (same_new (o := .lst []) nb))
        have hla4 := sm4 _ _ hla
        generalize upd G b (.lst []) = G4 at sm4 hla4
        have hfin : ∀ bb : Bool, bb = (asc ms && (decide (i < j) && (!decide (i ∈ ms) && !decide (j ∈ ms)))) → Q (.bl bb) G4 := fun bb hbb => by
          rw [hbb]
          exact q _ sm4
        clear q
        refine ⟨zs.isEmpty, rfl, ?_⟩
        rw [← e0]
        cases h1 : asc ms with
        | false => exact iteF (hfin _ (by rw [h1]; rfl))
        | true =>
          refine iteT ⟨.int i, rfl, .int j, rfl, i, j, rfl, rfl, _, rfl, ?_⟩
          by_cases hij : i < j
          · rw [decide_eq_true hij]
            refine iteT ⟨.int i, rfl, .ref la, rfl, la, _, rfl, .inr (SqT.of hla4), rfl, flat_ints ms, _, rfl, ?_⟩
            rw [show (if true = true then !inV (V.int i) (ms.map V.int) else inV (V.int i) (ms.map V.int)) = !decide (i ∈ ms) from congrArg (fun z => !z) (inV_ints i ms)]
            by_cases hi : i ∈ ms
            · rw [decide_eq_true hi]
              exact iteF (hfin _ (by rw [h1, decide_eq_true hij, decide_eq_true hi]; rfl))
            · rw [decide_eq_false hi]
              refine iteT ⟨.int j, rfl, .ref la, rfl, la, _, rfl, .inr (SqT.of hla4), rfl, flat_ints ms, ?_⟩
              rw [show (if true = true then !inV (V.int j) (ms.map V.int) else inV (V.int j) (ms.map V.int)) = !decide (j ∈ ms) from congrArg (fun z => !z) (inV_ints j ms)]
              exact hfin _ (by rw [h1, decide_eq_true hij, decide_eq_false hi]; rfl)
          · rw [decide_eq_false hij]
            exact iteF (hfin _ (by rw [h1, decide_eq_false hij]; rfl))
end
end Kr
namespace Kr
open PySem PySem.Spec PyProof.Rows L2
def isSt : PyData → Bool
  | .str _ => true
  | _ => false
theorem kit_str {K : PySem.W.Frag} : ∀ d : PyData, PySem.W.kitOne K (.type (tyN d)) (.type "str") = some (isSt d)
  | .none => kit_ty (show kitB "NoneType" "str" = some false by decide +kernel)
  | .bool _ => kit_ty (show kitB "bool" "str" = some false by decide +kernel)
  | .int _ => kit_ty (show kitB "int" "str" = some false by decide +kernel)
  | .str _ => kit_ty (show kitB "str" "str" = some true by decide +kernel)
  | .list _ => kit_ty (show kitB "list" "str" = some false by decide +kernel)
  | .tuple _ => kit_ty (show kitB "tuple" "str" = some false by decide +kernel)
  | .dict _ => kit_ty (show kitB "dict" "str" = some false by decide +kernel)
theorem form_len {ds : List PyData} (h : ¬ (ds.length = 2 ∨ ds.length = 3)) : hasForm (.tuple ds) = false := by
  match ds, h with
  | [], _ => rfl
  | [_], _ => rfl
  | [_, _], h => exact absurd (.inl rfl) h
  | [_, _, _], h => exact absurd (.inr rfl) h
  | _ :: _ :: _ :: _ :: _, _ => rfl
theorem form_str {w : PyData} {r : List PyData} (h : isSt w = false) : hasForm (.tuple (w :: r)) = false := by
  have e : ∀ s, isW w s = false := fun s => by cases w <;> first | rfl | exact absurd h (by simp [isSt])
  match r with
  | [] => rfl
  | [_] =>
    show (["do", "row", "back", "part"].any fun s => isW w s) = false
    simp [e]
  | [_, _] => exact e _
  | _ :: _ :: _ :: _ => rfl
theorem words_in (s : Str) : inV (.str s) [.str "do", .str "row", .str "back", .str "part"] = ([("do" : Str), "row", "back", "part"].any fun w => isW (.str s) w) := by
  have e : ∀ a b : Str, (a == b) = (b == a) := fun a b => by
    rw [Bool.eq_iff_iff, beq_iff_eq, beq_iff_eq]
    exact ⟨Eq.symm, Eq.symm⟩
  simp only [inV, List.any_cons, List.any_nil, eqV, isW]
  rw [e "do", e "row", e "back", e "part"]
section
variable {P : Program} {w : World} {K : PySem.W.Frag} {mg : Str → Option Value} {base : Heap}
abbrev n_lFault : List Str := ["many", "spot", "value", "deep", "word", "item", "found"]
theorem sc_lFault : FnScope n_lFault ["many", "spot", "value", "deep"] (defScope sLFault) := ⟨rfl, rfl, rfl, by decide +kernel, rfl, by decide +kernel, by decide +kernel⟩
theorem o_lFault (m k : Nat) {spX : Sp} (hs : ∀ j, m = j + 1 → (∀ vs H Q E, spFault j vs H Q E → spX vs H Q E)) (D0 : Df K mg "_law_fault" sLFault ["many", "spot", "value", "deep"]) (B : Bi mg) (isd : Ok P w K mg base 2 "_law_is_deed" ["many", "value"] spIsDeed) (wh : Ok P w K mg base 1 "_law_is_whole" ["value", "low", "high"] spB) (te : Ok P w K mg base (k+3) "_law_fault" ["many", "spot", "value", "deep"] spX) : Ok P w K mg base (k+4) "_law_fault" ["many", "spot", "value", "deep"] (spFault m) := by
  refine D0.ok fun f fd F => F.ok sc_lFault (fun vs H Q E h => ?_) (fun cdv A outer s H vs Q E hr h => ?_)
  · obtain ⟨_, _, _, _, rfl, _⟩ := h
    rfl
  · obtain ⟨n, i, v, d, rfl, hv, hb, q⟩ := h
    have hr_isd := hr.mono (show 2 ≤ (k+4) - 1 by omega)
    have hr_wh := hr.mono (show 1 ≤ (k+4) - 1 by omega)
    have hr_te := hr.mono (show (k+3) ≤ (k+4) - 1 by omega)
    have hu : (cxOf CX0 P w K mg base n_lFault "_law_fault" (defScope sLFault) f cdv A outer s H E).A.units + 64 < cLine := hr.units
    have hu1 := hu_of hr
    refine ⟨_, pss_cons (ps_if (pt_cmpR op_gt (pv 3) pe_int (nomark _)) (pss_one (ps_ret pe_str)) pss_nil)
      (pss_cons (ps_if (PW.pt (pw_or (pt_not (pt_val (pe_callB call_isi (by rfl) B.isinstance (by decide +kernel) (pa_cons (pv 2) (pa_cons (pe_bltn (v := .ty "tuple") (by rfl) B.tuple (by decide +kernel) rfl) pa_nil))))) (pw_or (pt_cmpR (r := rIn K true) op_notIn_seq (pe_callB call_len_seq (by rfl) B.len boot_len (pa_cons (pv 2) pa_nil)) (pe_tup (pa_cons pe_int (pa_cons pe_int pa_nil))) rfl) (pw_or1 (pt_not (pt_val (pe_callB call_isi (by rfl) B.isinstance (by decide +kernel) (pa_cons (pe_ix ix_tup (pv 2) pe_int (fun _ _ => rfl)) (pa_cons (pe_bltn (v := .ty "str") (by rfl) B.str (by decide +kernel) rfl) pa_nil))))))))) (pss_one (ps_ret pe_str)) pss_nil)
      (pss_cons (ps_set (i := 4) sc_lFault.nd rfl (.inl rfl) (pe_ix ix_tup (pv 2) pe_int (fun _ _ => rfl)))
      (pss_cons (ps_if (PW.pt (pw_or (PW.pt (pw_and (pt_cmpR op_eq (pe_callB call_len_seq (by rfl) B.len boot_len (pa_cons (pv 2) pa_nil)) pe_int (nomark _)) (pw_and1 (pt_cmpR op_ne (pv 4) pe_str (nomark _))))) (pw_or1 (PW.pt (pw_and (pt_cmpR op_eq (pe_callB call_len_seq (by rfl) B.len boot_len (pa_cons (pv 2) pa_nil)) pe_int (nomark _)) (pw_and1 (pt_cmpR (r := rIn K true) op_notIn_seq (pv 4) (pe_tup (pa_cons pe_str (pa_cons pe_str (pa_cons pe_str (pa_cons pe_str pa_nil))))) rfl))))))) (pss_one (ps_ret pe_str)) pss_nil)
      (pss_cons (ps_if (pt_cmpR op_eq (pv 4) pe_str (nomark _)) (pss_one (ps_ret (pe_ifExp (pt_val (pe_fn isd hr_isd (by rfl) (pa_cons (pv 0) (pa_cons (pe_ix ix_tup (pv 2) pe_int (fun _ _ => rfl)) pa_nil)))) pe_non pe_str))) pss_nil)
      (pss_cons (ps_if (pt_cmpR op_eq (pv 4) pe_str (nomark _)) (pss_one (ps_ret (pe_ifExp (pt_val (pe_fn wh hr_wh (by rfl) (pa_cons (pe_ix ix_tup (pv 2) pe_int (fun _ _ => rfl)) (pa_cons pe_int (pa_cons (pe_op op_sub (pv 1) pe_int) pa_nil))))) pe_non pe_str))) pss_nil)
      (pss_cons (ps_if (PW.pt (pw_and (pt_cmpR op_eq (pv 4) pe_str (nomark _)) (pw_and1 (pt_not (pt_val (pe_fn wh hr_wh (by rfl) (pa_cons (pe_ix ix_tup (pv 2) pe_int (fun _ _ => rfl)) (pa_cons pe_int (pa_cons (pe_op op_pow pe_int pe_int) pa_nil))))))))) (pss_one (ps_ret pe_str)) pss_nil)
      (pss_cons (ps_if (pt_cmpR op_ne (pv 4) pe_str (nomark _)) (pss_one (ps_ret (pe_fn te hr_te (by rfl) (pa_cons (pv 0) (pa_cons (pv 1) (pa_cons (pe_ix ix_tup (pv 2) pe_int (fun _ _ => rfl)) (pa_cons (pe_op op_add (pv 3) pe_int) pa_nil))))))) pss_nil)
      (pss_cons (ps_if (PW.pt (pw_or (pt_not (pt_val (pe_callB call_isi (by rfl) B.isinstance (by decide +kernel) (pa_cons (pe_ix ix_tup (pv 2) pe_int (fun _ _ => rfl)) (pa_cons (pe_bltn (v := .ty "tuple") (by rfl) B.tuple (by decide +kernel) rfl) pa_nil))))) (pw_or1 (pt_cmpR op_gt (pe_callB call_len_seq (by rfl) B.len boot_len (pa_cons (pe_ix ix_tup (pv 2) pe_int (fun _ _ => rfl)) pa_nil)) pe_int (nomark _))))) (pss_one (ps_ret pe_str)) pss_nil)
      (pss_cons (ps_for PassesOwn.never rfl (pi_tup (pe_ix ix_tup (pv 2) pe_int (fun _ _ => rfl))) (pg_name (i := 5) sc_lFault.nd rfl (.inl rfl))
        (pss_cons (ps_set (i := 6) sc_lFault.nd rfl (.inl rfl) (pe_fn te hr_te (by rfl) (pa_cons (pv 0) (pa_cons (pv 1) (pa_cons (pv 5) (pa_cons (pe_op op_add (pv 3) pe_int) pa_nil))))))
        (pss_one (ps_if (pt_cmpR op_notN (pv 6) pe_non (nomark _)) (pss_one (ps_ret (pv 6))) pss_nil))))
      (pss_one (ps_ret pe_non))))))))))), ?_⟩
    cases m with
    | zero =>
      refine ⟨_, rfl, _, _, rfl, rfl, _, rfl, iteT (q _ _ (Same.refl _) ?_)⟩
      exact .str _
    | succ m =>
      have hX := hs m rfl
      refine ⟨_, rfl, _, _, rfl, rfl, _, rfl, ite2 (fun c => ?_) (fun c => ?_)⟩
      · exfalso
        have := of_decide_eq_true c
        omega
      dsimp only [tNext]
      have term : hasForm d = false → ∀ G, Same H G → Q (.str "term") G := fun hF G s1 => q _ _ s1 (by rw [fault_term hF]; exact .str _)
      refine ⟨v, rfl, v, .ty "tuple", _, _, isTu d, rfl, .ty "tuple", hv.ty, kit_tuple d, isTu d, rfl, ?_⟩
      by_cases ht : isTu d = true
      rotate_left
      · rw [Bool.eq_false_iff.mpr ht]
        refine iteT (iteT (term ?_ _ (Same.refl _)))
        cases d with
        | tuple _ => exact absurd rfl ht
        | _ => rfl
      rw [ht]
      refine iteF ?_
      obtain ⟨ds, rfl⟩ : ∃ ds, d = .tuple ds := low_isTu ht
      obtain ⟨a, xs, rfl, ha, qx⟩ := Dq.tup_inv hv
      have hxl := qx.len
      refine ⟨.ref a, rfl, a, xs, rfl, .inr (SqT.of ha), by show 2 ≤ sizeLine; decide, fun t nt => ⟨t, [V.int 2, .int 3], rfl, .inr (SqT.of upd_same), rfl, rfl, _, rfl, ?_⟩⟩
      have s1 := same_new (o := .tup [V.int 2, .int 3]) nt
      have ha1 := s1 _ _ ha
      have qx1 := qx.up s1
      have hv1 := hv.up s1
      clear ha qx hv nt
      generalize upd H t (.tup [V.int 2, .int 3]) = H1 at s1 ha1 qx1 hv1
      rw [show (if true = true then !inV (V.int (xs.length : Int)) [V.int 2, .int 3] else inV (V.int (xs.length : Int)) [V.int 2, .int 3]) = !decide ((xs.length : Int) ∈ [(2 : Int), 3]) from congrArg (fun z => !z) (inV_ints (xs.length : Int) [2, 3])]
      by_cases hlen : ds.length = 2 ∨ ds.length = 3
      rotate_left
      · rw [decide_eq_false (fun z => hlen (by simp only [List.mem_cons, List.not_mem_nil, or_false] at z; omega))]
        exact iteT (iteT (term (form_len hlen) _ s1))
      rw [decide_eq_true (by simp only [List.mem_cons, List.not_mem_nil, or_false]; omega)]
      refine iteF ?_
      obtain ⟨wd, r, rfl⟩ : ∃ w r, ds = w :: r := by
        match ds, hlen with
        | [], h => exact absurd h (by simp)
        | w :: r, _ => exact ⟨w, r, rfl⟩
      obtain ⟨u1, us, rfl⟩ : ∃ w r, xs = w :: r := by
        cases qx1 with
        | cons _ _ => exact ⟨_, _, rfl⟩
      have q1 : Dq H1 u1 wd := by
        cases qx1 with
        | cons h _ => exact h
      refine ⟨.ref a, rfl, a, u1 :: us, 0, u1, rfl, rfl, SqT.of ha1, atI_int (Int.le_refl 0) rfl, u1, .ty "str", _, _, isSt wd, rfl, .ty "str", q1.ty, kit_str wd, isSt wd, rfl, ?_⟩
      by_cases hst : isSt wd = true
      rotate_left
      · rw [Bool.eq_false_iff.mpr hst]
        exact iteT (term (form_str (Bool.eq_false_iff.mpr hst)) _ s1)
      rw [hst]
      refine iteF ?_
      obtain ⟨ws, rfl⟩ : ∃ s, wd = .str s := by
        cases wd with
        | str s => exact ⟨s, rfl⟩
        | _ => cases hst
      cases q1
      refine ⟨.ref a, rfl, a, _, 0, _, rfl, rfl, SqT.of ha1, atI_int (Int.le_refl 0) rfl, ?_⟩
      dsimp only [tNext]
      -- the words
      have hgo : ∀ Q' : Bool → Hp → Prop, (∀ G, Same H G → SqT K G a (V.str ws :: us) → G a = some (.tup (V.str ws :: us)) → Dq G (.ref a) (.tuple (.str ws :: r)) → Q' (!hasForm (.tuple (.str ws :: r))) G) → tOr (tAnd (tTest (tOp rEq (tCB (fun xs H_1 Q => ∃ p ys, xs = [V.ref p] ∧ (SqL K H_1 p ys ∨ SqT K H_1 p ys) ∧ Q (V.int ys.length) H_1) (tCons (tVar 2) tNil)) (tC (V.int 3)))) (tTest (tOp rNe (tVar 4) (tC (V.str "times")))))
          (tAnd (tTest (tOp rEq (tCB (fun xs H_1 Q => ∃ p ys, xs = [V.ref p] ∧ (SqL K H_1 p ys ∨ SqT K H_1 p ys) ∧ Q (V.int ys.length) H_1) (tCons (tVar 2) tNil)) (tC (V.int 2)))) (tTest (tOp (rIn K true) (tVar 4) (tTup (tCons (tC (V.str "do")) (tCons (tC (V.str "row")) (tCons (tC (V.str "back")) (tCons (tC (V.str "part")) tNil)))))))) [some (.int n), some (.int i), some (.ref a), some (.int (13 - ((m + 1 : Nat) : Int))), some (.str ws), none, none] H1 Q' := fun Q' k => by
        rcases hlen with hl | hl
        · obtain ⟨x, rfl⟩ : ∃ x, r = [x] := List.length_eq_one_iff.mp (by simpa using hl)
          have hl2 : (V.str ws :: us).length = 2 := by rw [hxl, hl]
          refine ⟨.ref a, rfl, a, _, rfl, .inr (SqT.of ha1), rfl, _, rfl, ?_⟩
          rw [hl2]
          refine iteFd (by decide +kernel) (iteF ⟨.ref a, rfl, a, _, rfl, .inr (SqT.of ha1), rfl, _, rfl, ?_⟩)
          rw [hl2]
          refine iteTd (by decide +kernel) ⟨_, rfl, by show 4 ≤ sizeLine; decide, fun t nt => ⟨t, [V.str "do", .str "row", .str "back", .str "part"], rfl, .inr (SqT.of upd_same), rfl, rfl, _, rfl, ?_⟩⟩
          have s2 := same_new (o := .tup [V.str "do", .str "row", .str "back", .str "part"]) nt
          rw [show (if true = true then !inV (V.str ws) [V.str "do", .str "row", .str "back", .str "part"] else inV (V.str ws) [V.str "do", .str "row", .str "back", .str "part"]) = !hasForm (.tuple [.str ws, x]) from congrArg (fun z => !z) (words_in ws)]
          exact k _ (s1.trans s2) (SqT.of (s2 _ _ ha1)) (s2 _ _ ha1) (hv1.up s2)
        · obtain ⟨x, y, rfl⟩ : ∃ x y, r = [x, y] := by
            match r, hl with
            | [x, y], _ => exact ⟨x, y, rfl⟩
          have hl2 : (V.str ws :: us).length = 3 := by rw [hxl, hl]
          refine ⟨.ref a, rfl, a, _, rfl, .inr (SqT.of ha1), rfl, _, rfl, ?_⟩
          rw [hl2]
          refine iteTd (by decide +kernel) ⟨_, rfl, rfl, _, rfl, ?_⟩
          have e : (!decide (V.str ws = V.str "times")) = !hasForm (.tuple [.str ws, x, y]) := by
            show (!decide (V.str ws = V.str "times")) = !(ws == "times")
            congr 1
            rw [Bool.eq_iff_iff, beq_iff_eq, decide_eq_true_eq]
            exact ⟨fun h => V.str.inj h, fun h => by rw [h]⟩
          rw [e]
          cases hF : hasForm (.tuple [.str ws, x, y]) with
          | false =>
            have := k _ s1 (SqT.of ha1) ha1 hv1
            rw [hF] at this
            exact iteT this
          | true =>
            refine iteF ⟨.ref a, rfl, a, _, rfl, .inr (SqT.of ha1), rfl, _, rfl, ?_⟩
            rw [hl2]
            have := k _ s1 (SqT.of ha1) ha1 hv1
            rw [hF] at this
            exact iteFd (by decide +kernel) this
      refine hgo _ fun G sG _ haG hvG => ?_
      by_cases hF : hasForm (.tuple (.str ws :: r)) = true
      rotate_left
      · rw [Bool.eq_false_iff.mpr hF]
        exact iteT (term (Bool.eq_false_iff.mpr hF) _ sG)
      rw [hF]
      refine iteF ?_
      clear hgo ha1 qx1 hv1 s1 term
      rcases hasForm_inv hF with ⟨x, e⟩ | ⟨x, e⟩ | ⟨x, e⟩ | ⟨x, e⟩ | ⟨x, k, e⟩
      · cases e
        obtain ⟨a2, u1, u2, e2, ha, q1, q2⟩ := dq2 hvG
        cases e2
        cases q1
        clear haG
        rw [fault_do] at q
        have hbx : vB x = true := vBA_mem (by simp only [vB, Bool.and_eq_true] at hb; exact hb.2) x (by simp)
        dsimp only [tNext]
        refine ⟨_, rfl, rfl, _, rfl, iteTd (by decide +kernel) ⟨.int n, rfl, .ref a, rfl, a, [_, u2], 1, u2, rfl, rfl, SqT.of ha, rfl, n, u2, x, rfl, q2, hbx, fun H2 s2 => ⟨_, rfl, ?_⟩⟩⟩
        by_cases hn : isNo (deedErr n x) = true
        · rw [if_pos hn] at q
          rw [hn]
          exact iteT (q _ _ (sG.trans s2) .non)
        · rw [if_neg hn] at q
          rw [Bool.eq_false_iff.mpr hn]
          exact iteF (q _ _ (sG.trans s2) (.str _))
      · cases e
        obtain ⟨a2, u1, u2, e2, ha, q1, q2⟩ := dq2 hvG
        cases e2
        cases q1
        clear haG
        rw [fault_part] at q
        have hbx : vB x = true := vBA_mem (by simp only [vB, Bool.and_eq_true] at hb; exact hb.2) x (by simp)
        dsimp only [tNext]
        refine ⟨_, rfl, rfl, _, rfl, iteFd (by decide +kernel) ?_⟩
        dsimp only [tNext]
        refine ⟨_, rfl, rfl, _, rfl, iteTd (by decide +kernel) ⟨.ref a, rfl, a, [_, u2], 1, u2, rfl, rfl, SqT.of ha, rfl, .int i, rfl, _, _, rfl, rfl, u2, x, 0, i - 1, rfl, q2, isB x 0 (i - 1), rfl, ?_⟩⟩
        by_cases hn : isB x 0 (i - 1) = true
        · rw [if_pos hn] at q
          rw [hn]
          exact iteT (q _ _ sG .non)
        · rw [if_neg hn] at q
          rw [Bool.eq_false_iff.mpr hn]
          exact iteF (q _ _ sG (.str _))
      · cases e
        obtain ⟨a2, u1, u2, e2, ha, q1, q2⟩ := dq2 hvG
        cases e2
        cases q1
        clear haG
        rw [fault_row] at q
        have hbx : vB x = true := vBA_mem (by simp only [vB, Bool.and_eq_true] at hb; exact hb.2) x (by simp)
        dsimp only [tNext]
        refine ⟨_, rfl, rfl, _, rfl, iteFd (by decide +kernel) ?_⟩
        dsimp only [tNext]
        refine ⟨_, rfl, rfl, _, rfl, iteFd (by decide +kernel) ?_⟩
        dsimp only [tNext]
        refine ⟨_, rfl, rfl, _, rfl, iteFd (by decide +kernel) (iteF ?_)⟩
        dsimp only [tNext]
        refine ⟨_, rfl, rfl, _, rfl, iteFd (by decide +kernel) ?_⟩
        dsimp only [tNext]
        refine ⟨.ref a, rfl, a, [_, u2], 1, u2, rfl, rfl, SqT.of ha, rfl, u2, .ty "tuple", _, _, isTu x, rfl, .ty "tuple", q2.ty, kit_tuple x, isTu x, rfl, ?_⟩
        by_cases htx : isTu x = true
        rotate_left
        · rw [Bool.eq_false_iff.mpr htx]
          refine iteT (iteT (q _ _ sG ?_))
          cases x with
          | tuple _ => exact absurd rfl htx
          | _ => exact .str _
        rw [htx]
        refine iteF ?_
        obtain ⟨ds, rfl⟩ : ∃ ds, x = .tuple ds := low_isTu htx
        obtain ⟨b, zs, rfl, hbz, qz⟩ := Dq.tup_inv q2
        have hzl := qz.len
        refine ⟨.ref a, rfl, a, [_, .ref b], 1, .ref b, rfl, rfl, SqT.of ha, rfl, b, zs, rfl, .inr (SqT.of hbz), _, _, rfl, rfl, _, rfl, ite2 (fun c => ?_) (fun c => ?_)⟩
        · have c1 : ¬ ds.length ≤ 400 := by
            have := of_decide_eq_true c
            omega
          refine q _ _ sG ?_
          simp only [rowF, if_neg c1]
          exact .str _
        · have c1 : ds.length ≤ 400 := by
            have : ¬ (400 : Int) < (zs.length : Int) := fun z => c (decide_eq_true z)
            omega
          have hbA : vBA ds = true := by
            simp only [vB, Bool.and_eq_true] at hbx
            exact hbx.2
          simp only [rowF, if_pos c1] at q
          refine ⟨.ref a, rfl, a, [_, .ref b], 1, .ref b, rfl, rfl, SqT.of ha, rfl, b, rfl, ⟨_, SqT.of hbz⟩, for_it (walk_tup (K := K) (a := b) (xs := zs)) (fun j σ G2 => ∃ y5 y6 : Option V, σ = [some (.int n), some (.int i), some (.ref a), some (.int (13 - ((m + 1 : Nat) : Int))), some (.str "row"), y5, y6] ∧ Same G G2 ∧ firstF (fault n i m) ds = firstF (fault n i m) (ds.drop j)) ⟨none, none, rfl, Same.refl _, rfl⟩ (fun _ _ _ _ ⟨_, _, _, sm, _⟩ => SqT.of (sm _ _ hbz)) ?_ ?_⟩
          · rintro j z σ G2 _ hj ⟨y5, y6, rfl, sm, e⟩ ⟨rfl, hx⟩
            obtain ⟨t, ht1, qt⟩ := qz.get hx
            have ed : ds.drop j = t :: ds.drop (j + 1) := by
              have := List.getElem?_eq_some_iff.mp ht1
              rw [List.drop_eq_getElem_cons this.1, this.2]
            refine ⟨.int n, rfl, .int i, rfl, z, rfl, _, rfl, _, 1, rfl, rfl, hX _ _ _ _ ⟨n, i, z, t, ?_, qt.up sm, vBA_mem hbA t (List.mem_of_getElem? ht1), fun H2 r s2 hr2 => ?_⟩⟩
            · show [V.int n, V.int i, z, V.int (13 - ((m + 1 : Nat) : Int) + 1)] = _
              rw [show (13 - ((m + 1 : Nat) : Int)) + 1 = 13 - (m : Int) by omega]
            dsimp only [tNext]
            refine ⟨r, rfl, rfl, _, rfl, ?_⟩
            have hno := hr2.no
            rw [hno]
            by_cases hn : isNo (fault n i m t) = true
            · rw [hn]
              refine iteF ⟨_, _, rfl, sm.trans s2, ?_⟩
              rw [e, ed]
              simp only [firstF, if_pos hn]
            · rw [Bool.eq_false_iff.mpr hn]
              refine iteT ⟨r, rfl, q _ _ ((sG.trans sm).trans s2) ?_⟩
              rw [e, ed]
              simp only [firstF, if_neg hn]
              exact hr2
          · rintro σ G2 ⟨y5, y6, rfl, sm, e⟩
            refine q _ _ (sG.trans sm) ?_
            rw [e, hzl, List.drop_length]
            exact .non
      · cases e
        obtain ⟨a2, u1, u2, e2, ha, q1, q2⟩ := dq2 hvG
        cases e2
        cases q1
        clear haG
        rw [fault_back] at q
        have hbx : vB x = true := vBA_mem (by simp only [vB, Bool.and_eq_true] at hb; exact hb.2) x (by simp)
        dsimp only [tNext]
        refine ⟨_, rfl, rfl, _, rfl, iteFd (by decide +kernel) ?_⟩
        dsimp only [tNext]
        refine ⟨_, rfl, rfl, _, rfl, iteFd (by decide +kernel) ?_⟩
        dsimp only [tNext]
        refine ⟨_, rfl, rfl, _, rfl, iteFd (by decide +kernel) (iteF ?_)⟩
        dsimp only [tNext]
        refine ⟨_, rfl, rfl, _, rfl, iteTd (by decide +kernel) ⟨.int n, rfl, .int i, rfl, .ref a, rfl, a, [_, u2], 1, u2, rfl, rfl, SqT.of ha, rfl, _, rfl, _, _, rfl, rfl, hX _ _ _ _ ⟨n, i, u2, x, ?_, q2, hbx, fun H2 r s2 hr2 => q _ _ (sG.trans s2) hr2⟩⟩⟩
        show [V.int n, V.int i, u2, V.int (13 - ((m + 1 : Nat) : Int) + 1)] = _
        rw [show (13 - ((m + 1 : Nat) : Int)) + 1 = 13 - (m : Int) by omega]
      · cases e
        obtain ⟨a2, u1, u2, u3, e2, ha, q1, q2, q3⟩ := dq3 hvG
        cases e2
        cases q1
        clear haG
        rw [fault_times] at q
        have hbx : vB x = true := vBA_mem (by simp only [vB, Bool.and_eq_true] at hb; exact hb.2) x (by simp)
        dsimp only [tNext]
        refine ⟨_, rfl, rfl, _, rfl, iteFd (by decide +kernel) ?_⟩
        dsimp only [tNext]
        refine ⟨_, rfl, rfl, _, rfl, iteFd (by decide +kernel) ?_⟩
        dsimp only [tNext]
        refine ⟨_, rfl, rfl, _, rfl, iteTd (by decide +kernel) ⟨.ref a, rfl, a, [_, u2, u3], 2, u3, rfl, rfl, SqT.of ha, rfl, 10, 30, rfl, rfl, ⟨by decide, by decide, by decide⟩, u3, k, 0, 10 ^ 30, rfl, q3, isB k 0 (10 ^ 30), rfl, ?_⟩⟩
        by_cases hn : isB k 0 (10 ^ 30) = true
        rotate_left
        · rw [if_neg hn] at q
          rw [Bool.eq_false_iff.mpr hn]
          exact iteT (q _ _ sG (.str _))
        rw [if_pos hn] at q
        rw [hn]
        refine iteF ?_
        dsimp only [tNext]
        refine ⟨_, rfl, rfl, _, rfl, iteTd (by decide +kernel) ⟨.int n, rfl, .int i, rfl, .ref a, rfl, a, [_, u2, u3], 1, u2, rfl, rfl, SqT.of ha, rfl, _, rfl, _, _, rfl, rfl, hX _ _ _ _ ⟨n, i, u2, x, ?_, q2, hbx, fun H2 r s2 hr2 => q _ _ (sG.trans s2) hr2⟩⟩⟩
        show [V.int n, V.int i, u2, V.int (13 - ((m + 1 : Nat) : Int) + 1)] = _
        rw [show (13 - ((m + 1 : Nat) : Int)) + 1 = 13 - (m : Int) by omega]
theorem o_lFaults (D0 : Df K mg "_law_fault" sLFault ["many", "spot", "value", "deep"]) (B : Bi mg) (isd : Ok P w K mg base 2 "_law_is_deed" ["many", "value"] spIsDeed) (wh : Ok P w K mg base 1 "_law_is_whole" ["value", "low", "high"] spB) :
    ∀ m, Ok P w K mg base (2 * m + 4) "_law_fault" ["many", "spot", "value", "deep"] (spFault m)
  | 0 => o_lFault 0 0 (spX := spNo) (fun j h => nomatch h) D0 B isd wh D0.no
  | m + 1 => o_lFault (m + 1) (2 * m + 2) (spX := spFault m) (fun j h => by
      cases h
      exact fun _ _ _ _ h => h) D0 B isd wh ((o_lFaults D0 B isd wh m).mono (by omega))
end
end Kr
namespace Kr
open PySem PySem.Spec PyProof.Rows L2
section
variable {P : Program} {w : World} {K : PySem.W.Frag} {mg : Str → Option Value} {base : Heap}
abbrev n_lProgDue : List Str := ["many", "value", "spot", "term", "found"]
theorem sc_lProgDue : FnScope n_lProgDue ["many", "value"] (defScope sLProgramDue) := ⟨rfl, rfl, rfl, by decide +kernel, rfl, by decide +kernel, by decide +kernel⟩
theorem o_lProgDue (D0 : Df K mg "_law_program_due" sLProgramDue ["many", "value"]) (B : Bi mg) (te : Ok P w K mg base 28 "_law_fault" ["many", "spot", "value", "deep"] (spFault 12)) : Ok P w K mg base 29 "_law_program_due" ["many", "value"] (spErrV progErr) := by
  refine D0.ok fun f fd F => F.ok sc_lProgDue (fun vs H Q E h => ?_) (fun cdv A outer s H vs Q E hr h => ?_)
  · obtain ⟨_, _, _, rfl, _⟩ := h
    rfl
  · obtain ⟨n, v, d, rfl, hv, hb, q⟩ := h
    have hr_te := hr.mono (show 28 ≤ 28 by omega)
    have hu : (cxOf CX0 P w K mg base n_lProgDue "_law_program_due" (defScope sLProgramDue) f cdv A outer s H E).A.units + 64 < cLine := hr.units
    have hu1 := hu_of hr
    refine ⟨_, pss_cons (ps_if (PW.pt (pw_or (pt_not (pt_val (pe_callB call_isi (by rfl) B.isinstance (by decide +kernel) (pa_cons (pv 1) (pa_cons (pe_bltn (v := .ty "tuple") (by rfl) B.tuple (by decide +kernel) rfl) pa_nil))))) (pw_or1 (pt_not (pt_chain op_le op_le pe_int (pe_callB call_len_seq (by rfl) B.len boot_len (pa_cons (pv 1) pa_nil)) pe_int))))) (pss_one (ps_ret pe_str)) pss_nil)
      (pss_cons (ps_for PassesOwn.never rfl (pi_enumT (by rfl) B.enumerate (pa_cons (pv 1) pa_nil)) (pg_tup rfl (pgs_cons (pg_name (i := 2) sc_lProgDue.nd rfl (.inl rfl)) (pgs_cons (pg_name (i := 3) sc_lProgDue.nd rfl (.inl rfl)) pgs_nil)))
        (pss_cons (ps_set (i := 4) sc_lProgDue.nd rfl (.inl rfl) (pe_fn te hr_te (by rfl) (pa_cons (pv 0) (pa_cons (pv 2) (pa_cons (pv 3) (pa_cons pe_int pa_nil))))))
        (pss_one (ps_if (pt_cmpR op_notN (pv 4) pe_non (nomark _)) (pss_one (ps_ret (pe_tup (pa_cons (pv 2) (pa_cons (pv 4) pa_nil))))) pss_nil))))
      (pss_one (ps_ret pe_non))), ?_⟩
    refine ⟨v, rfl, v, .ty "tuple", _, _, isTu d, rfl, .ty "tuple", hv.ty, kit_tuple d, isTu d, rfl, ?_⟩
    by_cases ht : isTu d = true
    rotate_left
    · rw [Bool.eq_false_iff.mpr ht]
      refine iteT (iteT (q _ _ (Same.refl _) ?_))
      cases d with
      | tuple _ => exact absurd rfl ht
      | _ => exact .str _
    rw [ht]
    refine iteF ?_
    obtain ⟨ds, rfl⟩ : ∃ ds, d = .tuple ds := low_isTu ht
    obtain ⟨a, xs, rfl, ha, qx⟩ := Dq.tup_inv hv
    have hxl := qx.len
    have hbA : ds.length ≤ 500 ∧ vBA ds = true := by
      simp only [vB, Bool.and_eq_true, decide_eq_true_eq] at hb
      exact hb
    have form : ¬ (1 ≤ ds.length ∧ ds.length ≤ 400) → ∀ G, Same H G → Q (.str "form") G := fun c G s1 => by
      refine q _ _ s1 ?_
      simp only [progErr, if_neg c]
      exact .str _
    refine ⟨.ref a, rfl, a, xs, rfl, .inr (SqT.of ha), 1, _, rfl, rfl, _, rfl, ?_⟩
    rw [hxl]
    by_cases c1 : (1 : Int) ≤ (ds.length : Int)
    rotate_left
    · rw [decide_eq_false c1]
      exact iteF ⟨false, rfl, iteT (form (by omega) _ (Same.refl _))⟩
    rw [decide_eq_true c1]
    refine iteT ⟨_, 400, rfl, rfl, _, rfl, ?_⟩
    by_cases c2 : (ds.length : Int) ≤ 400
    rotate_left
    · rw [decide_eq_false c2]
      exact iteT (form (by omega) _ (Same.refl _))
    rw [decide_eq_true c2]
    have hstart : progErr n (.tuple ds) = progGo n 0 (ds.drop 0) := by
      show (if 1 ≤ ds.length ∧ ds.length ≤ 400 then progGo n 0 ds else eForm) = _
      rw [if_pos (by omega)]
      rfl
    refine iteF ⟨.ref a, rfl, a, xs, rfl, SqT.of ha, for_it walk_enumT (fun j σ G => ∃ y2 y3 y4 : Option V, σ = [some (.int n), some (.ref a), y2, y3, y4] ∧ Same H G ∧ progErr n (.tuple ds) = progGo n j (ds.drop j)) ⟨none, none, none, rfl, Same.refl _, hstart⟩ (fun _ _ _ _ ⟨_, _, _, _, sm, _⟩ => SqT.of (sm _ _ ha)) ?_ ?_⟩
    · rintro j _ σ G _ hj ⟨y2, y3, y4, rfl, sm, e⟩ ⟨T, x, y, rfl, nT, rfl, e1, e2⟩
      cases Option.some.inj e1
      obtain ⟨t, ht1, qt⟩ := qx.get e2
      have sT : Same G (upd G T (.tup [.int (j : Nat), y])) := same_new nT
      have ed : ds.drop j = t :: ds.drop (j + 1) := by
        have := List.getElem?_eq_some_iff.mp ht1
        rw [List.drop_eq_getElem_cons this.1, this.2]
      refine ⟨T, [.int (j : Nat), y], rfl, SqT.of upd_same, rfl, .int (j : Nat), [y], rfl, y, [], rfl, rfl, ?_⟩
      refine ⟨.int n, rfl, .int (j : Nat), rfl, y, rfl, n, (j : Nat), y, t, rfl, qt.up (sm.trans sT), vBA_mem hbA.2 t (List.mem_of_getElem? ht1), fun H2 r s2 hr2 => ?_⟩
      dsimp only [tNext]
      refine ⟨r, rfl, rfl, _, rfl, ?_⟩
      have hno := hr2.no
      rw [hno]
      have sm2 := (sm.trans sT).trans s2
      by_cases hn : isNo (fault n j 12 t) = true
      · rw [hn]
        refine iteF ⟨_, _, _, rfl, sm2, ?_⟩
        rw [e, ed]
        simp only [progGo, if_pos hn]
      · rw [Bool.eq_false_iff.mpr hn]
        refine iteT ⟨.int (j : Nat), rfl, r, rfl, by show 2 ≤ sizeLine; decide, fun p np => ?_⟩
        have s3 := same_new (o := .tup [.int (j : Nat), r]) np
        refine q _ _ (sm2.trans s3) ?_
        rw [e, ed]
        simp only [progGo, if_neg hn]
        exact .tup upd_same (.cons (.int _) (.cons (hr2.up s3) .nil))
    · rintro σ G ⟨y2, y3, y4, rfl, sm, e⟩
      refine q _ _ sm ?_
      rw [e, List.drop_of_length_le (by rw [← hxl]; exact Nat.le_refl _)]
      exact .non
end
end Kr
namespace Kr
open PySem PySem.Spec PyProof.Rows L2
section
variable {P : Program} {w : World} {K : PySem.W.Frag} {mg : Str → Option Value} {base : Heap}
abbrev n_progErr : List Str := ["n", "value", "i", "term", "word"]
theorem sc_progErr : FnScope n_progErr ["n", "value"] (defScope sProgramError) := ⟨rfl, rfl, rfl, by decide +kernel, rfl, by decide +kernel, by decide +kernel⟩
theorem f_progErr (hT : ∃ t, mg "MAX_TERMS" = some (.int 400 t)) {f : Addr} {fd : FuncData} (F : Fun K "program_error" "program_error" sProgramError f fd) (B : Bi mg) (te : Ok P w K mg base 28 "_term_error" ["n", "i", "term", "deep"] (spFault 12)) : FnOk P w K mg base CX0 29 f fd ["n", "value"] (spErrV progErr) := by
  refine F.ok sc_progErr (fun vs H Q E h => ?_) (fun cdv A outer s H vs Q E hr h => ?_)
  · obtain ⟨_, _, _, rfl, _⟩ := h
    rfl
  · obtain ⟨n, v, d, rfl, hv, hb, q⟩ := h
    have hr_te := hr.mono (show 28 ≤ 28 by omega)
    have hu : (cxOf CX0 P w K mg base n_progErr "program_error" (defScope sProgramError) f cdv A outer s H E).A.units + 64 < cLine := hr.units
    have hu1 := hu_of hr
    obtain ⟨_, gT⟩ := hT
    refine ⟨_, pss_cons (ps_if (PW.pt (pw_or (pt_not (pt_val (pe_callB call_isi (by rfl) B.isinstance (by decide +kernel) (pa_cons (pv 1) (pa_cons (pe_bltn (v := .ty "tuple") (by rfl) B.tuple (by decide +kernel) rfl) pa_nil))))) (pw_or1 (pt_not (pt_chain op_le op_le pe_int (pe_callB call_len_seq (by rfl) B.len boot_len (pa_cons (pv 1) pa_nil)) (pe_glob (v := .int 400) (by rfl) gT ⟨_, rfl⟩)))))) (pss_one (ps_ret pe_str)) pss_nil)
      (pss_cons (ps_for PassesOwn.never rfl (pi_enumT (by rfl) B.enumerate (pa_cons (pv 1) pa_nil)) (pg_tup rfl (pgs_cons (pg_name (i := 2) sc_progErr.nd rfl (.inl rfl)) (pgs_cons (pg_name (i := 3) sc_progErr.nd rfl (.inl rfl)) pgs_nil)))
        (pss_cons (ps_set (i := 4) sc_progErr.nd rfl (.inl rfl) (pe_fn te hr_te (by rfl) (pa_cons (pv 0) (pa_cons (pv 2) (pa_cons (pv 3) (pa_cons pe_int pa_nil))))))
        (pss_one (ps_if (pt_cmpR op_notN (pv 4) pe_non (nomark _)) (pss_one (ps_ret (pe_tup (pa_cons (pv 2) (pa_cons (pv 4) pa_nil))))) pss_nil))))
      (pss_one (ps_ret pe_non))), ?_⟩
    refine ⟨v, rfl, v, .ty "tuple", _, _, isTu d, rfl, .ty "tuple", hv.ty, kit_tuple d, isTu d, rfl, ?_⟩
    by_cases ht : isTu d = true
    rotate_left
    · rw [Bool.eq_false_iff.mpr ht]
      refine iteT (iteT (q _ _ (Same.refl _) ?_))
      cases d with
      | tuple _ => exact absurd rfl ht
      | _ => exact .str _
    rw [ht]
    refine iteF ?_
    obtain ⟨ds, rfl⟩ : ∃ ds, d = .tuple ds := low_isTu ht
    obtain ⟨a, xs, rfl, ha, qx⟩ := Dq.tup_inv hv
    have hxl := qx.len
    have hbA : ds.length ≤ 500 ∧ vBA ds = true := by
      simp only [vB, Bool.and_eq_true, decide_eq_true_eq] at hb
      exact hb
    have form : ¬ (1 ≤ ds.length ∧ ds.length ≤ 400) → ∀ G, Same H G → Q (.str "form") G := fun c G s1 => by
      refine q _ _ s1 ?_
      simp only [progErr, if_neg c]
      exact .str _
    refine ⟨.ref a, rfl, a, xs, rfl, .inr (SqT.of ha), 1, _, rfl, rfl, _, rfl, ?_⟩
    rw [hxl]
    by_cases c1 : (1 : Int) ≤ (ds.length : Int)
    rotate_left
    · rw [decide_eq_false c1]
      exact iteF ⟨false, rfl, iteT (form (by omega) _ (Same.refl _))⟩
    rw [decide_eq_true c1]
    refine iteT ⟨_, 400, rfl, rfl, _, rfl, ?_⟩
    by_cases c2 : (ds.length : Int) ≤ 400
    rotate_left
    · rw [decide_eq_false c2]
      exact iteT (form (by omega) _ (Same.refl _))
    rw [decide_eq_true c2]
    have hstart : progErr n (.tuple ds) = progGo n 0 (ds.drop 0) := by
      show (if 1 ≤ ds.length ∧ ds.length ≤ 400 then progGo n 0 ds else eForm) = _
      rw [if_pos (by omega)]
      rfl
    refine iteF ⟨.ref a, rfl, a, xs, rfl, SqT.of ha, for_it walk_enumT (fun j σ G => ∃ y2 y3 y4 : Option V, σ = [some (.int n), some (.ref a), y2, y3, y4] ∧ Same H G ∧ progErr n (.tuple ds) = progGo n j (ds.drop j)) ⟨none, none, none, rfl, Same.refl _, hstart⟩ (fun _ _ _ _ ⟨_, _, _, _, sm, _⟩ => SqT.of (sm _ _ ha)) ?_ ?_⟩
    · rintro j _ σ G _ hj ⟨y2, y3, y4, rfl, sm, e⟩ ⟨T, x, y, rfl, nT, rfl, e1, e2⟩
      cases Option.some.inj e1
      obtain ⟨t, ht1, qt⟩ := qx.get e2
      have sT : Same G (upd G T (.tup [.int (j : Nat), y])) := same_new nT
      have ed : ds.drop j = t :: ds.drop (j + 1) := by
        have := List.getElem?_eq_some_iff.mp ht1
        rw [List.drop_eq_getElem_cons this.1, this.2]
      refine ⟨T, [.int (j : Nat), y], rfl, SqT.of upd_same, rfl, .int (j : Nat), [y], rfl, y, [], rfl, rfl, ?_⟩
      refine ⟨.int n, rfl, .int (j : Nat), rfl, y, rfl, n, (j : Nat), y, t, rfl, qt.up (sm.trans sT), vBA_mem hbA.2 t (List.mem_of_getElem? ht1), fun H2 r s2 hr2 => ?_⟩
      dsimp only [tNext]
      refine ⟨r, rfl, rfl, _, rfl, ?_⟩
      have hno := hr2.no
      rw [hno]
      have sm2 := (sm.trans sT).trans s2
      by_cases hn : isNo (fault n j 12 t) = true
      · rw [hn]
        refine iteF ⟨_, _, _, rfl, sm2, ?_⟩
        rw [e, ed]
        simp only [progGo, if_pos hn]
      · rw [Bool.eq_false_iff.mpr hn]
        refine iteT ⟨.int (j : Nat), rfl, r, rfl, by show 2 ≤ sizeLine; decide, fun p np => ?_⟩
        have s3 := same_new (o := .tup [.int (j : Nat), r]) np
        refine q _ _ (sm2.trans s3) ?_
        rw [e, ed]
        simp only [progGo, if_neg hn]
        exact .tup upd_same (.cons (.int _) (.cons (hr2.up s3) .nil))
    · rintro σ G ⟨y2, y3, y4, rfl, sm, e⟩
      refine q _ _ sm ?_
      rw [e, List.drop_of_length_le (by rw [← hxl]; exact Nat.le_refl _)]
      exact .non
end
end Kr
namespace Kr
open PySem PySem.Spec PyProof.Rows L2
/-! ### zip of a list and a tuple -/
section
variable {prog : Program} {w : World} {A : Around} {E : Value → Shared → Prop} {s : Shared}
abbrev Rest (h h' : Heap) (z TO i1 i2 : Addr) : Prop := ∀ c o, c ≠ z → c ≠ TO → c ≠ i1 → c ≠ i2 → h.get? c = some o → h'.get? c = some o
theorem zlt_item {z TI TO i1 i2 l1 l2 : Addr} {k : Nat} {xs ys : Array Value} {x y a b : Value} {W : Value → Shared → Prop} (D : ZipApart z TI TO i1 i2 l1 l2) (gz : IsZip s.heap z TI TO .none) (gI : IsPair s.heap TI (.ref i1) (.ref i2)) (gO : IsPair s.heap TO a b)
    (f1 : s.heap.IsListIter i1 l1 k) (f2 : s.heap.IsTupleIter i2 l2 k) (c1 : s.heap.IsList l1 xs) (c2 : s.heap.IsTuple l2 ys) (ex : xs[k]? = some x) (ey : ys[k]? = some y)
    (fin : ∀ h', IsZip h' z TI TO (rawInt s.heap.objs.size) → IsPair h' TO x y → h'.IsListIter i1 l1 (k + 1) → h'.IsTupleIter i2 l2 (k + 1) → IsPair h' s.heap.objs.size x y → h'.objs.size = s.heap.objs.size + 1 → Rest s.heap h' z TO i1 i2 → W (.ref s.heap.objs.size) { s with heap := h' }) :
    wpAny (model prog w) A (Builtin.«zip.__next__» ⟨[.ref z], []⟩) (fun f s' => ∃ v, f = .done (.ret v) ∧ W v s') E s := by
  show wpAny _ _ (field (.ref z) 2 >>= _) _ _ _; refine wpAny_bind (wpAny_field gz rfl (x := .bool false) rfl ?_)
  show wpAny _ _ (field (.ref z) 3 >>= _) _ _ _; refine wpAny_bind (wpAny_field gz rfl (x := .ref TI) rfl (wpAny_bind (wpAny_seqItems gI rfl ?_)))
  show wpAny _ _ (Builtin.SmallTypes.ownedTupleIsFree (.ref z) >>= _) _ _ _; refine wpAny_bind ?_; unfold Builtin.SmallTypes.ownedTupleIsFree
  refine wpAny_bind (wpAny_field gz rfl (x := .none) rfl (wpAny_pure ?_)); simp only [if_true]
  refine wpAny_bind (wpAny_rule (wpAny_bind (wpAny_field gz rfl (x := .ref TO) rfl (wpAny_bind (wpAny_setField_rec gz (by simp) fun ha ga ea => ?_)))))
  replace ga : IsZip ha z TI TO .ellipsis := ga
  refine wpAny_bind ?_; simp only [List.zipIdx_cons, List.zipIdx_nil, List.forIn_cons, List.forIn_nil]
  refine wpAny_bind (wpAny_bind (wpAny_onRaise ?_)); show wpAny _ _ (Builtin.SmallTypes.nextOf (.ref i1) >>= _) _ _ _
  refine wpAny_bind (wpAny_nextOf_list_item (f1.extBut ea.extBut D.i1z) (c1.extBut ea.extBut D.l1z) ex fun hb fb eb => wpAny_pure ?_)
  have gb : IsPair hb TO a b := eb.extBut _ _ D.TOi1 (ea.extBut _ _ D.TOz gO)
  refine wpAny_bind (wpAny_seqItems gb rfl (wpAny_bind (wpAny_updateSeq_pair gb fun hc gc ec => wpAny_bind (wpAny_letGo (wpAny_pure ?_)))))
  replace gc : IsPair hc TO x b := gc
  refine wpAny_bind (wpAny_bind (wpAny_onRaise ?_)); show wpAny _ _ (Builtin.SmallTypes.nextOf (.ref i2) >>= _) _ _ _
  refine wpAny_bind (RZ.nextOf_tuple_item (((f2.extBut ea.extBut D.i2z).extBut eb.extBut D.i12.symm).extBut ec.extBut D.TOi2.symm) (((c2.extBut ea.extBut D.l2z).extBut eb.extBut D.l2i1).extBut ec.extBut D.l2TO) ey fun hd fd ed => wpAny_pure ?_)
  have gd : IsPair hd TO x b := ed.extBut _ _ D.TOi2 gc
  refine wpAny_bind (wpAny_seqItems gd rfl (wpAny_bind (wpAny_updateSeq_pair gd fun he ge ee => wpAny_bind (wpAny_letGo (wpAny_pure (wpAny_pure ?_))))))
  replace ge : IsPair he TO x y := ge
  refine wpAny_bind (wpAny_seqItems ge rfl (wpAny_bind (wpAny_newTuple ?_)))
  have size0 : he.objs.size = s.heap.objs.size := by rw [ee.1, ed.1, ec.1, eb.1, ea.1]
  have gz5 : IsZip he z TI TO .ellipsis := ee.extBut _ _ D.TOz.symm (ed.extBut _ _ D.i2z.symm (ec.extBut _ _ D.TOz.symm (eb.extBut _ _ D.i1z.symm ga)))
  have rest5 : Rest s.heap he z TO i1 i2 := fun c o n1 n2 n3 n4 q => ee.extBut _ _ n2 (ed.extBut _ _ n4 (ec.extBut _ _ n2 (eb.extBut _ _ n3 (ea.extBut _ _ n1 q))))
  have fa5 : he.IsListIter i1 l1 (k + 1) := ((fb.extBut ec.extBut D.TOi1.symm).extBut ed.extBut D.i12).extBut ee.extBut D.TOi1.symm
  have fb5 : he.IsTupleIter i2 l2 (k + 1) := fd.extBut ee.extBut D.TOi2.symm
  have ltz : z < he.objs.size := Heap.lt_size gz5
  show wpAny _ _ (Builtin.SmallTypes.ownedTupleHandOut (.ref z) (.ref he.objs.size) >>= _) _ _ _; refine wpAny_bind ?_; unfold Builtin.SmallTypes.ownedTupleHandOut
  have gz6 : IsZip (he.push { cls := .type "tuple", data := .seq #[x, y] }) z TI TO .ellipsis := Heap.get?_push_of_some _ gz5
  refine wpAny_bind (wpAny_setField_rec gz6 (by simp) fun hf gf ef => ?_)
  replace gf : IsZip hf z TI TO (rawInt he.objs.size) := gf
  refine wpAny_setField_rec gf (by simp) fun hg gg eg => ?_
  replace gg : IsZip hg z TI TO (rawInt he.objs.size) := gg
  have lift : ∀ c o, c ≠ z → he.get? c = some o → hg.get? c = some o := fun c o n q => eg.extBut _ _ n (ef.extBut _ _ n (Heap.get?_push_of_some _ q))
  have gT : IsPair hg he.objs.size x y := eg.extBut _ _ (Nat.ne_of_gt ltz) (ef.extBut _ _ (Nat.ne_of_gt ltz) (Heap.get?_push_size _ rfl))
  have sz8 : hg.objs.size = he.objs.size + 1 := by rw [eg.1, ef.1, Heap.size_push]
  rw [size0] at gg gT sz8
  refine wpAny_pure ⟨_, rfl, ?_⟩; show W (.ref he.objs.size) _; rw [size0]
  exact fin hg gg (lift _ _ D.TOz ge) (fa5.at fun o q => lift _ o D.i1z q) (fb5.at fun o q => lift _ o D.i2z q) gT sz8 fun c o n1 n2 n3 n4 q => lift c o n1 (rest5 c o n1 n2 n3 n4 q)
theorem zlt_end {z TI TO i1 i2 l1 l2 : Addr} {k : Nat} {xs ys : Array Value} {a b : Value} {W : Fin → Shared → Prop} (hh : A.handled = none) (D : ZipApart z TI TO i1 i2 l1 l2) (gz : IsZip s.heap z TI TO .none) (gI : IsPair s.heap TI (.ref i1) (.ref i2)) (gO : IsPair s.heap TO a b)
    (f1 : s.heap.IsListIter i1 l1 k) (f2 : s.heap.IsTupleIter i2 l2 k) (c1 : s.heap.IsList l1 xs) (c2 : s.heap.IsTuple l2 ys) (stop : xs[k]? = none ∨ ys[k]? = none)
    (out : ∀ h' e, Rest s.heap h' z TO i1 i2 → (∃ o, h'.get? e = some o ∧ o.cls = .type "StopIteration") → E (.ref e) { s with heap := h' }) : wpAny (model prog w) A (Builtin.«zip.__next__» ⟨[.ref z], []⟩) W E s := by
  show wpAny _ _ (field (.ref z) 2 >>= _) _ _ _; refine wpAny_bind (wpAny_field gz rfl (x := .bool false) rfl ?_)
  show wpAny _ _ (field (.ref z) 3 >>= _) _ _ _; refine wpAny_bind (wpAny_field gz rfl (x := .ref TI) rfl (wpAny_bind (wpAny_seqItems gI rfl ?_)))
  show wpAny _ _ (Builtin.SmallTypes.ownedTupleIsFree (.ref z) >>= _) _ _ _; refine wpAny_bind ?_; unfold Builtin.SmallTypes.ownedTupleIsFree
  refine wpAny_bind (wpAny_field gz rfl (x := .none) rfl (wpAny_pure ?_)); simp only [if_true]
  refine wpAny_bind (wpAny_rule (wpAny_bind (wpAny_field gz rfl (x := .ref TO) rfl (wpAny_bind (wpAny_setField_rec gz (by simp) fun ha ga ea => ?_)))))
  replace ga : IsZip ha z TI TO .ellipsis := ga
  refine wpAny_bind ?_; simp only [List.zipIdx_cons, List.zipIdx_nil, List.forIn_cons, List.forIn_nil]
  refine wpAny_bind (wpAny_bind (wpAny_onRaise ?_)); show wpAny _ _ (Builtin.SmallTypes.nextOf (.ref i1) >>= _) _ _ _
  cases ex : xs[k]? with
  | none =>
    refine wpAny_bind (wpAny_nextOf_list_end hh (f1.extBut ea.extBut D.i1z) (c1.extBut ea.extBut D.l1z) ex fun hb e eb stp => ?_)
    obtain ⟨oe, goe, ce⟩ := stp
    have gb : IsZip hb z TI TO .ellipsis := eb _ _ D.i1z.symm ga
    have nez : e ≠ z := fun q => by subst q; rw [gb] at goe; cases goe; simp at ce
    exact wpAny_setField_rec gb (by simp) fun hc _ ec => out hc e (fun c o n1 _ n3 _ q => ec.extBut _ _ n1 (eb _ _ n3 (ea.extBut _ _ n1 q))) ⟨oe, ec.extBut _ _ nez goe, ce⟩
  | some x =>
    have ey : ys[k]? = none := by rcases stop with q | q; rw [ex] at q; cases q; exact q
    refine wpAny_bind (wpAny_nextOf_list_item (f1.extBut ea.extBut D.i1z) (c1.extBut ea.extBut D.l1z) ex fun hb fb eb => wpAny_pure ?_)
    have gb : IsPair hb TO a b := eb.extBut _ _ D.TOi1 (ea.extBut _ _ D.TOz gO)
    refine wpAny_bind (wpAny_seqItems gb rfl (wpAny_bind (wpAny_updateSeq_pair gb fun hc gc ec => wpAny_bind (wpAny_letGo (wpAny_pure ?_)))))
    refine wpAny_bind (wpAny_bind (wpAny_onRaise ?_)); show wpAny _ _ (Builtin.SmallTypes.nextOf (.ref i2) >>= _) _ _ _
    refine wpAny_bind (RZ.nextOf_tuple_end hh (((f2.extBut ea.extBut D.i2z).extBut eb.extBut D.i12.symm).extBut ec.extBut D.TOi2.symm) (((c2.extBut ea.extBut D.l2z).extBut eb.extBut D.l2i1).extBut ec.extBut D.l2TO) ey fun hd e ed stp => ?_)
    obtain ⟨oe, goe, ce⟩ := stp
    have gd : IsZip hd z TI TO .ellipsis := ed _ _ D.i2z.symm (ec.extBut _ _ D.TOz.symm (eb.extBut _ _ D.i1z.symm ga))
    have nez : e ≠ z := fun q => by subst q; rw [gd] at goe; cases goe; simp at ce
    exact wpAny_setField_rec gd (by simp) fun he _ ee => out he e (fun c o n1 n2 n3 n4 q => ee.extBut _ _ n1 (ed _ _ n4 (ec.extBut _ _ n2 (eb.extBut _ _ n3 (ea.extBut _ _ n1 q))))) ⟨oe, ee.extBut _ _ nez goe, ce⟩
/-- the zip object -/
abbrev q1 (h : Heap) (l1 : Addr) : Heap := h.push { cls := .type "list_iterator", data := .fields #[.ref l1, .int 0 0] }
abbrev q2 (h : Heap) (l1 l2 : Addr) : Heap := (q1 h l1).push { cls := .type "tuple_iterator", data := .fields #[.ref l2, .int 0 0] }
abbrev q3 (h : Heap) (l1 l2 : Addr) : Heap := (q2 h l1 l2).push { cls := .type "tuple", data := .seq #[.ref h.objs.size, .ref (q1 h l1).objs.size] }
abbrev q4 (h : Heap) (l1 l2 : Addr) : Heap := (q3 h l1 l2).push { cls := .type "tuple", data := .seq #[.none, .none] }
abbrev q5 (h : Heap) (l1 l2 : Addr) : Heap := (q4 h l1 l2).push { cls := .type "zip", data := .fields #[.none, .bool false, .bool false, .ref (q2 h l1 l2).objs.size, .ref (q3 h l1 l2).objs.size] }
theorem meets_zlt (l1 l2 : Addr) (xs ys : Array Value) : Meets (Builtin.«zip.__new__» ⟨[.type "zip", .ref l1, .ref l2], []⟩) (fun _ R s => s.heap.IsList l1 xs ∧ s.heap.IsTuple l2 ys ∧ R (.ok (.ret (.ref (q4 s.heap l1 l2).objs.size))) { s with heap := q5 s.heap l1 l2 }) :=
  .of_wp fun prog w A R s h => by
    obtain ⟨hp, g, d, tk, os⟩ := s; obtain ⟨c1, c2, h⟩ := h
    have hsub := sub_zip
    have L1 : Heap.IsList (Shared.heap ⟨hp, g, d, tk, os⟩) l1 xs := c1
    have L2 : Heap.IsTuple (Shared.heap ⟨hp.push { cls := .type "list_iterator", data := .fields #[.ref l1, .int 0 0] }, g, d, tk, os⟩) l2 ys := Heap.IsTuple.push c2 _
    wp_walk using wpAny_pyIter_list L1, wpAny_pyIter_tuple L2
    exact ⟨_, rfl, h⟩
theorem call_zlt {l1 l2 : Addr} {xs ys : Array Value} {W : Value → Shared → Prop} (c1 : s.heap.IsList l1 xs) (c2 : s.heap.IsTuple l2 ys)
    (h : ∀ h', IsZip h' (s.heap.objs.size + 4) (s.heap.objs.size + 2) (s.heap.objs.size + 3) .none → IsPair h' (s.heap.objs.size + 2) (.ref s.heap.objs.size) (.ref (s.heap.objs.size + 1)) → IsPair h' (s.heap.objs.size + 3) .none .none → h'.IsListIter s.heap.objs.size l1 0 → h'.IsTupleIter (s.heap.objs.size + 1) l2 0 →
      (∀ c o, s.heap.get? c = some o → h'.get? c = some o) → W (.ref (s.heap.objs.size + 4)) { s with heap := h' }) : wpAny (model prog w) A (call (.type "zip") [.ref l1, .ref l2]) W E s := by
  refine callType_new F.called_zip (by decide) (F.typeCall_zip_2 _ _) (F.newCall_zip_2 _ _) (fun ob => F.args_object_init_3 ob _ _) F.entry_zip_new (meets_zlt l1 l2 xs ys) ⟨c1, c2, ?_⟩
  have n1 : (q1 s.heap l1).objs.size = s.heap.objs.size + 1 := Heap.size_push ..
  have n2 : (q2 s.heap l1 l2).objs.size = s.heap.objs.size + 2 := by rw [Heap.size_push, n1]
  have n3 : (q3 s.heap l1 l2).objs.size = s.heap.objs.size + 3 := by rw [Heap.size_push, n2]
  have n4 : (q4 s.heap l1 l2).objs.size = s.heap.objs.size + 4 := by rw [Heap.size_push, n3]
  have p5 : (q5 s.heap l1 l2).get? (q4 s.heap l1 l2).objs.size = some _ := Heap.get?_push_size _ rfl
  have p4 : (q5 s.heap l1 l2).get? (q3 s.heap l1 l2).objs.size = some _ := Heap.get?_push_of_some _ (Heap.get?_push_size _ rfl)
  have p3 : (q5 s.heap l1 l2).get? (q2 s.heap l1 l2).objs.size = some _ := Heap.get?_push_of_some _ (Heap.get?_push_of_some _ (Heap.get?_push_size _ rfl))
  have p2 : (q5 s.heap l1 l2).get? (q1 s.heap l1).objs.size = some _ := Heap.get?_push_of_some _ (Heap.get?_push_of_some _ (Heap.get?_push_of_some _ (Heap.get?_push_size _ rfl)))
  have p1 : (q5 s.heap l1 l2).get? s.heap.objs.size = some _ := Heap.get?_push_of_some _ (Heap.get?_push_of_some _ (Heap.get?_push_of_some _ (Heap.get?_push_of_some _ (Heap.get?_push_size _ rfl))))
  show _ ∧ _; rw [n2, n3, n4] at p5; rw [n1, n2] at p3; rw [n3] at p4; rw [n1] at p2; rw [n4]
  exact ⟨⟨_, p5, rfl⟩, h _ p5 p3 p4 ⟨_, p1, rfl, rfl⟩ ⟨_, p2, rfl, rfl⟩ fun c o x => Heap.get?_push_of_some _ (Heap.get?_push_of_some _ (Heap.get?_push_of_some _ (Heap.get?_push_of_some _ (Heap.get?_push_of_some _ x))))⟩
end
/-- the walk of it: a new pair each turn -/
def ItzM (K : PySem.W.Frag) (a b : Addr) : It :=
  ⟨fun i H => ∃ (xs ys : List V) (x y : V), SqL K H a xs ∧ SqT K H b ys ∧ xs[i]? = some x ∧ ys[i]? = some y,
    fun i H v H' => ∃ T x y, v = .ref T ∧ H T = none ∧ H' = upd H T (.tup [x, y]) ∧ (∀ xs, SqL K H a xs → xs[i]? = some x) ∧ ∀ ys, SqT K H b ys → ys[i]? = some y,
    fun i H => ∃ xs ys : List V, SqL K H a xs ∧ SqT K H b ys ∧ (xs.length ≤ i ∨ ys.length ≤ i)⟩
theorem turn_zlt {P : Program} {w : World} {K : PySem.W.Frag} {elts : List Expr} {kk : Nat} {tpos : Pos} {a b z TI TO i1 i2 : Addr} (D : ZipApart z TI TO i1 i2 a b) :
    Turn P w K (.Tuple elts kk tpos) (ItzM K a b) [z, TI, TO, i1, i2] z (fun i h => IsZip h z TI TO .none ∧ IsPair h TI (.ref i1) (.ref i2) ∧ (∃ x y, IsPair h TO x y) ∧ h.IsListIter i1 a i ∧ h.IsTupleIter i2 b i) where
  mem := by simp
  obj := fun i h st c hc => by
    obtain ⟨gz, gI, ⟨x, y, gO⟩, ⟨o1, e1, _, d1⟩, ⟨o2, e2, _, d2⟩⟩ := st
    have cases5 : c = z ∨ c = TI ∨ c = TO ∨ c = i1 ∨ c = i2 := by simpa using hc
    exact cases5.elim (fun e => e ▸ ⟨_, gz, fun v q => nomatch q⟩) fun r => r.elim (fun e => e ▸ ⟨_, gI, fun v q => nomatch q⟩) fun r => r.elim (fun e => e ▸ ⟨_, gO, fun v q => nomatch q⟩) fun r => r.elim (fun e => e ▸ ⟨o1, e1, fun v q => by rw [d1] at q; cases q⟩) fun e => e ▸ ⟨o2, e2, fun v q => by rw [d2] at q; cases q⟩
  keep := fun i h h' ⟨gz, gI, ⟨x, y, gO⟩, f1, f2⟩ k => ⟨k z (by simp) _ gz, k TI (by simp) _ gI, ⟨x, y, k TO (by simp) _ gO⟩, f1.at fun o q => k i1 (by simp) o q, f2.at fun o q => k i2 (by simp) o q⟩
  item := by
    intro X eP ew eK calm i pins s σ H E I fp st hg
    subst eP ew eK
    obtain ⟨gz, gI, ⟨x0, y0, gO⟩, f1, f2⟩ := st
    obtain ⟨xs, ys, x, y, qx, qy, ex, ey⟩ := hg
    obtain ⟨its, rv, p, _⟩ := I.list qx
    obtain ⟨its2, rv2, p2, _⟩ := I.tuple qy
    obtain ⟨u, hu, ru⟩ := rv.get ex
    obtain ⟨u2, hu2, ru2⟩ := rv2.get ey
    have zl : z < s.heap.objs.size := Heap.lt_size gz
    have hT : s.TypeIs (.ref z) "zip" := ⟨_, gz, rfl⟩
    unfold pyNext
    refine wpAny_bind (wpAny_attempt (wpAny_callSpecial?_slot (name := Str.ofString "__next__") hT F.slot_zip_next (wpAny_call_entry F.slot_zip_next hT F.entry_zip_next (zlt_item D gz gI gO f1 f2 p.isList p2 (x := u) (y := u2) (by simpa using hu) (by simpa using hu2) fun h' z' o' w1 w2 gT gs rst => wpAny_pure ?_) (F.args_zip_next_1 _))))
    refine ⟨_, rfl, wpAny_letOwnedTupleGo_zip (s := { s with heap := h' }) z' fun h'' z'' sb => ?_⟩
    have gT2 : h''.get? s.heap.objs.size = some { cls := .type "tuple", data := .seq #[u, u2] } := (sb.2 _ (Nat.ne_of_gt zl)).trans gT
    have rst2 : ∀ c o, c ∉ [z, TI, TO, i1, i2] → s.heap.get? c = some o → h''.get? c = some o := fun c o nb q => by
      simp only [List.mem_cons, List.not_mem_nil, or_false, not_or] at nb
      exact (sb.2 c nb.1).trans (rst c o nb.1 nb.2.2.1 nb.2.2.2.1 nb.2.2.2.2 q)
    have I1 : Inv X pins σ (upd H s.heap.objs.size (.tup [x, y])) { s with heap := h'' } :=
      I.turnedNew (t' := s.toks) (ch := [z, TI, TO, i1, i2]) rst2 fp (Nat.le_refl _) ⟨by show 2 ≤ sizeLine; decide, [u, u2], .cons ru (.cons ru2 .nil), ⟨_, gT2, rfl, _, rfl⟩⟩
    refine ⟨.ref s.heap.objs.size, _, I1, rfl, ⟨_, x, y, rfl, I.hok.fresh (Nat.le_refl _), rfl, fun l hl => by rw [I.list_inj hl qx]; exact ex, fun l hl => by rw [I.tuple_inj hl qy]; exact ey⟩, ⟨z'', (sb.2 _ D.TIz).trans (rst _ _ D.TIz D.TITO D.TIi1 D.TIi2 gI), ⟨u, u2, (sb.2 _ D.TOz).trans o'⟩, w1.at fun o q => (sb.2 _ D.i1z).trans q, w2.at fun o q => (sb.2 _ D.i2z).trans q⟩, fun c hcm => ?_⟩
    have lt : c < s.heap.objs.size := by
      have cases5 : c = z ∨ c = TI ∨ c = TO ∨ c = i1 ∨ c = i2 := by simpa using hcm
      obtain ⟨_, e1, _⟩ := f1
      obtain ⟨_, e2, _⟩ := f2
      exact cases5.elim (fun e => e ▸ zl) fun r => r.elim (fun e => e ▸ Heap.lt_size gI) fun r => r.elim (fun e => e ▸ Heap.lt_size gO) fun r => r.elim (fun e => e ▸ Heap.lt_size e1) fun e => e ▸ Heap.lt_size e2
    rw [upd_ne (Nat.ne_of_lt lt)]
    exact (fp c hcm).1
  done := by
    intro X eP ew eK calm i pins s σ H E I fp st hg
    subst eP ew eK
    obtain ⟨gz, gI, ⟨x0, y0, gO⟩, f1, f2⟩ := st
    obtain ⟨xs, ys, qx, qy, stop⟩ := hg
    obtain ⟨its, rv, p, _⟩ := I.list qx
    obtain ⟨its2, rv2, p2, _⟩ := I.tuple qy
    have l1 := rv.length
    have l2 := rv2.length
    have he : its.toArray[i]? = none ∨ its2.toArray[i]? = none := stop.elim (fun q => .inl (by simp; omega)) fun q => .inr (by simp; omega)
    have hT : s.TypeIs (.ref z) "zip" := ⟨_, gz, rfl⟩
    unfold pyNext
    refine wpAny_bind (wpAny_attempt (wpAny_callSpecial?_slot (name := Str.ofString "__next__") hT F.slot_zip_next (wpAny_call_entry F.slot_zip_next hT F.entry_zip_next (zlt_end (I.ok.hd calm) D gz gI gO f1 f2 p.isList p2 he fun h' e rst stp => ?_) (F.args_zip_next_1 _))))
    obtain ⟨o, ho, hc⟩ := stp
    refine wpAny_bind (wpAny_isInstance (T := "StopIteration") (b := true) ⟨o, ho, hc⟩ isSubtype_stop (wpAny_pure ⟨rfl, I.turnedL (t' := s.toks) (ch := [z, TI, TO, i1, i2]) (fun c o nb q => ?_) fp⟩))
    simp only [List.mem_cons, List.not_mem_nil, or_false, not_or] at nb
    exact rst c o nb.1 nb.2.2.1 nb.2.2.2.1 nb.2.2.2.2 q
  self := fun A i s Q E st h => wpAny_pyIter_zip st.1 h
def iZipM (K : PySem.W.Frag) (ta : TA) : TI := fun σ H R => ta σ H fun vs H1 => ∃ a b xs ys, vs = [.ref a, .ref b] ∧ SqL K H1 a xs ∧ SqT K H1 b ys ∧ R (ItzM K a b) H1
theorem pi_zipM {X : Cx} {e e2 : Expr} {ta : TA} {p pos tpos : Pos} {elts : List Expr} {kk : Nat} (hg : Gl X "zip") (hm : X.mg "zip" = none) (ha : PA X [e, e2] ta)
    (hs : starEach [e, e2] X.env = (false, eval e X.env) :: starEach [e2] X.env := by rfl) (hpl : (backTo pos (starEach [e2] X.env)).any (·.1) = false := by rfl) : PI X (.Tuple elts kk tpos) (.Call (.Name "zip" p) [e, e2] [] pos) (iZipM X.K ta) := by
  refine ⟨fun pn sh st hp R Iv hh => Call_ (ld_blt Iv hg hm PyProof.Rows.boot_zip (PyProof.Rows.callWith_type1 (thn (ha.run pos pn sh st hp _ Iv hh) fun us s1 ⟨vs, H1, I1, r1, q1⟩ => ?_) hs hpl))⟩
  obtain ⟨a, b, xs, ys, rfl, qx, qy, q⟩ := q1
  cases r1 with
  | cons r rr =>
    cases rr with
    | cons r' rr =>
      cases rr; cases r; cases r'
      obtain ⟨its, rv, p1, _⟩ := I1.list qx
      obtain ⟨its2, rv2, p2, _⟩ := I1.tuple qy
      obtain ⟨o2, ho2, _⟩ := id p2
      refine call_zlt p1.isList p2 fun h' gz gI gO f1 f2 hk => wpAny_pyIter_zip gz ?_
      have I2 : Inv X pn st H1 { s1 with heap := h' } := I1.kept (t' := s1.toks) hk
      refine ⟨s1.heap.objs.size + 4, [s1.heap.objs.size + 4, s1.heap.objs.size + 2, s1.heap.objs.size + 3, s1.heap.objs.size, s1.heap.objs.size + 1], _, _, H1, rfl, I2, turn_zlt (PySem.W.ktu_apart s1.heap.objs.size a b p1.lt (Heap.lt_size ho2)), ⟨gz, gI, ⟨_, _, gO⟩, f1, f2⟩, fun c hcm => ?_, q⟩
      have le : s1.heap.objs.size ≤ c := by
        have cases5 : c = s1.heap.objs.size + 4 ∨ c = s1.heap.objs.size + 2 ∨ c = s1.heap.objs.size + 3 ∨ c = s1.heap.objs.size ∨ c = s1.heap.objs.size + 1 := by simpa using hcm
        rcases cases5 with q | q | q | q | q <;> rw [q] <;> first | exact Nat.le_add_right _ _ | exact Nat.le_refl _
      exact I1.fpOk le (I1.hok.fresh le)
theorem walk_zlt {K : PySem.W.Frag} {a b : Addr} {xs ys : List V} {n : Nat} (hn : n = min xs.length ys.length) : Walk (ItzM K a b) n (fun H => SqL K H a xs ∧ SqT K H b ys) (YPair (fun i => xs[i]?) (fun i => ys[i]?)) := by
  subst hn
  refine ⟨fun i _ hi q => ?_, fun _ ⟨g1, g2⟩ => ⟨xs, ys, g1, g2, (by omega)⟩, fun i H v H' _ ⟨g1, g2⟩ ⟨T, x, z, t1, t2, t3, t4, t5⟩ => ⟨T, x, z, t1, t2, t3, t4 _ g1, t5 _ g2⟩⟩
  obtain ⟨m1, m2⟩ := Nat.lt_min.mp hi
  exact ⟨xs, ys, xs[i], ys[i], q.1, q.2, List.getElem?_eq_getElem m1, List.getElem?_eq_getElem m2⟩
end Kr
namespace Kr
open PySem PySem.Spec PyProof.Rows L2
def spLaw (K : PySem.W.Frag) : Sp := fun vs H Q _ => ∃ (a : Addr) (ns : List Int), vs = [.ref a] ∧ SqL K H a (ns.map V.int) ∧ ns.length ≤ 63 ∧ ∀ H', Q (.bl true) H'
section
variable {S : List Addr} {p l : Addr} {σ : L2.St} {H : Hp} {K : PySem.W.Frag} {T R : PyData → Prop} {te tb : TE} {ta : TA}
theorem arg_cc {a b : V} {Q : List V → Hp → Prop} (h : te σ H fun v H1 => Q [a, b, v] H1) : tCons (tC a) (tCons (tC b) (tCons te tNil)) σ H Q := h
theorem lst4 {A B C D : TE} {Q : VK} (h : A σ H fun v0 G0 => B σ G0 fun v1 G1 => C σ G1 fun v2 G2 => D σ G2 fun v3 G3 => [v0, v1, v2, v3].length ≤ sizeLine ∧ ∀ q, G3 q = none → Q (.ref q) (upd G3 q (.lst [v0, v1, v2, v3]))) : tLst (tCons A (tCons B (tCons C (tCons D tNil)))) σ H Q := h
theorem sq_parR {i k : Nat} {te2 : TE} {u : L2.TS} {D : Ends} (h : te σ H fun v H1 => rRepr [v] H1 fun s H2 => te2 σ H2 fun v2 H3 => ∃ x y, [s, v2] = [x, y] ∧ u D ((σ.set i (some x)).set k (some y)) H3) : tSeq (tPar i k (tCons (tCB rRepr (tCons te tNil)) (tCons te2 tNil))) u D σ H := h
theorem arg_1 {Q : List V → Hp → Prop} (h : te σ H fun v H1 => Q [v] H1) : tCons te tNil σ H Q := h
theorem Wl.mutIn {va : Addr} {G : Hp} {us : List V} (w : Wl (va :: S) p l G) (hp : p ∈ S) (hl : l ∈ S) (n : va ∉ S) : Wl (va :: S) p l (upd G va (.lst us)) := ((w.less hp hl).mut n).cons upd_same
theorem hidS_into {D : Addr} {G G2 : Hp} (hp : p ∈ S) (hl : l ∈ S) (n : G D = none) (e : Ext p l G G2) : Same (hidS S G) (hidS (D :: S) G2) := fun b o h => by
  obtain ⟨h1, h2⟩ := hidS_some h
  have hb : b ≠ D := ne_of_none h2 n
  rw [hidS_ne (fun z => by
    rcases List.mem_cons.mp z with z | z
    · exact hb z
    · exact h1 z)]
  exact e.at_ (fun z => h1 (by rw [z]; exact hp)) (fun z => h1 (by rw [z]; exact hl)) h2
theorem evq_drawQ {a : Nat} {C : Int} (h0 : σ[a]? = some (some (.ref p))) (hC : C < 1073741824) (h : EvQ S p l te σ H fun d => ∃ c : Int, d = .int c ∧ 1 ≤ c ∧ c ≤ C) : EvQ S p l (tCall spDraw [] E0 (tCons (tVar a) (tCons te tNil))) σ H fun d => ∃ z : Nat, d = .int (z : Int) ∧ (z : Int) < C := fun G w e Q q =>
  ⟨_, h0, h G w e _ fun v1 G1 d1 w1 e1 h1 ⟨c, ed, c1, c2⟩ => by
    subst ed
    cases h1
    exact ⟨p, l, c, rfl, w1.D, by omega, fun H2 z D2 e2 z0 z1 => q _ _ _ (w1.ext e2 D2) (Same.trans e1 e2) (.int _) ⟨z.toNat, by rw [Int.toNat_of_nonneg z0], by rw [Int.toNat_of_nonneg z0]; omega⟩⟩⟩
theorem evq_addQ {k : Nat} {C : Int} (h : EvQ S p l te σ H fun d => ∃ z : Nat, d = .int (z : Int) ∧ (z : Int) < C) : EvQ S p l (tOp (rI0 fun i j => .int (i + j)) (tC (.int (k : Nat))) te) σ H fun d => ∃ z : Nat, d = .int (z : Int) ∧ k ≤ z ∧ (z : Int) < k + C := fun G w e Q q => h G w e _ fun v1 G1 d1 w1 e1 h1 ⟨z, ed, z1⟩ => by
  subst ed
  cases h1
  exact ⟨_, _, rfl, rfl, q _ _ _ w1 e1 (.int _) ⟨k + z, by rw [Int.natCast_add], by omega, by omega⟩⟩
theorem nat_list {N : Nat} {H : Hp} : ∀ {xs : List V} {ds : List PyData}, DqA H xs ds → (∀ d ∈ ds, ∃ k : Nat, d = .int (k : Int) ∧ k ≤ N) → ∃ ks : List Nat, xs = ks.map (fun k : Nat => V.int (k : Int)) ∧ ks.length = ds.length ∧ ∀ k ∈ ks, k ≤ N
  | _, _, .nil, _ => ⟨[], rfl, rfl, fun _ h => nomatch h⟩
  | _, _, .cons h t, hd => by
    obtain ⟨ks, rfl, h2, h3⟩ := nat_list t fun d hx => hd d (List.mem_cons_of_mem _ hx)
    obtain ⟨k, rfl, hk⟩ := hd _ List.mem_cons_self
    cases h
    exact ⟨k :: ks, rfl, by rw [List.length_cons, List.length_cons, h2], fun x hx => by
      rcases List.mem_cons.mp hx with rfl | hx
      · exact hk
      · exact h3 x hx⟩
theorem hidS_newcons {G : Hp} {va : Addr} {o : HO} (n : G va = none) : Same (hidS S G) (hidS (va :: S) (upd G va o)) := fun b x h => by
  obtain ⟨h1, h2⟩ := hidS_some h
  have hb : b ≠ va := ne_of_none h2 n
  rw [hidS_ne (fun z => by
    rcases List.mem_cons.mp z with z | z
    · exact hb z
    · exact h1 z), upd_ne hb]
  exact h2
theorem evq_ixL {j i : Nat} {va : Addr} {xs : List V} {v : V} {d : PyData} (hj : σ[j]? = some (some (.ref va))) (hva : H va = some (.lst xs)) (n1 : va ≠ p) (n2 : va ≠ l) (hx : xs[i]? = some v) (hd : Dq (hidS S H) v d) (r : R d) : EvQ S p l (tOp (rIxL K) (tVar j) (tC (.int (i : Nat)))) σ H R := fun G w e Q q =>
  ⟨_, hj, va, xs, i, v, rfl, rfl, SqL.of (e.at_ n1 n2 hva), atI_nat hx, q _ _ _ w Ext.rfl (hd.up (hidS_ext w.p w.l e)) r⟩
theorem evq_spoK {n a b c many spot : Nat} {t' : Tm} (h0 : σ[a]? = some (some (.ref p))) (h1 : σ[b]? = some (some (.int (many : Int)))) (h2 : σ[c]? = some (some (.int (spot : Int)))) (m0 : 3 ≤ many) (m1 : many ≤ 24) (hs : spot ≤ 400) (ho : okTm (Deed many) 3 spot t') (hd : dep t' ≤ n) (hd7 : dep t' ≤ 4) (hte : EvQ S p l te σ H fun d => d = tmD t') : EvQ S p l (tCall (spSpo n) [] E0 (tCons (tVar a) (tCons (tVar b) (tCons (tVar c) (tCons te (tCons (tC (.int 1)) tNil)))))) σ H (Vd 35) := fun G w e Q q =>
  ⟨_, h0, _, h1, _, h2, hte G w e _ fun v2 G2 d2 w2 e2 hv2 hd2 => by
    subst hd2
    exact ⟨S, p, l, v2, many, spot, 1, t', rfl, w2, m0, m1, hs, hv2, ho, hd, Nat.le_refl _, by omega, fun H' r' d' w' e' hr' hd' => q _ _ _ w' (Same.trans e2 e') hr' (hd'.mono (by omega))⟩⟩
end
section
variable {P : Program} {w : World} {K : PySem.W.Frag} {mg : Str → Option Value} {base : Heap}
abbrev n_Law : List Str := ["script", "deck", "turn", "many", "program", "spot", "wrong", "values", "other", "more", "own", "kept", "less", "place", "value", "told"]
theorem sc_Law : FnScope n_Law ["script"] (defScope sLaw) := ⟨rfl, rfl, rfl, by decide +kernel, rfl, by decide +kernel, by decide +kernel⟩
theorem ok_law {f : Addr} {fd : FuncData} (F : Fun K "law" "law" sLaw f fd) (B : Bi mg) (dk : Ok P w K mg base 1 "_law_deck" ["script"] (spDeck K)) (dr : Ok P w K mg base 1 "_law_draw" ["deck", "many"] spDraw) (pr : Ok P w K mg base 13 "_law_program" ["deck", "many", "most", "deep", "times"] spProg7) (sp : Ok P w K mg base 9 "_law_spoilt" ["deck", "many", "spot", "term", "deep"] (spSpo 4)) (ed : Ok P w K mg base 5 "_law_edge" ["deck", "many"] spEdge) (it : Ok P w K mg base 40 "_law_items" ["thing"] (spItemsG 40)) (pe : OkN P w K mg base 29 "program_error" ["n", "value"] ["value", "n"] (spErrV progErr)) (du : Ok P w K mg base 29 "_law_program_due" ["many", "value"] (spErrV progErr)) : FnG P w K mg base CX0 60 f fd ["script"] (spLaw K) := by
  refine okG F sc_Law (fun vs H Q E h => ?_) (fun cdv A outer s H vs Q E hg hr h => ?_)
  · obtain ⟨_, _, rfl, _⟩ := h
    rfl
  · obtain ⟨a, ns, rfl, hS, hlen, q⟩ := h
    have hr_dk := hr.mono (show 1 ≤ 59 by omega)
    have hr_dr := hr.mono (show 1 ≤ 59 by omega)
    have hr_pr := hr.mono (show 13 ≤ 59 by omega)
    have hr_sp := hr.mono (show 9 ≤ 59 by omega)
    have hr_ed := hr.mono (show 5 ≤ 59 by omega)
    have hr_it := hr.mono (show 40 ≤ 59 by omega)
    have hr_pe := hr.mono (show 29 ≤ 59 by omega)
    have hr_du := hr.mono (show 29 ≤ 59 by omega)
    have hu : (cxOf CX0 P w K mg base n_Law "law" (defScope sLaw) f cdv A outer s H E).A.units + 64 < cLine := hr.units
    have hu1 := hu_of hr
    have cr := call_repr (X := (cxOf CX0 P w K mg base n_Law "law" (defScope sLaw) f cdv A outer s H E).nox) hg hr.units
    refine ⟨_, pss_cons (ps_set (i := 1) sc_Law.nd rfl (.inl rfl) (pe_fn dk hr_dk (by rfl) (pa_cons (pv 0) pa_nil)))
      (pss_cons (ps_for PassesOwn.never rfl (pi_range1 (by rfl) B.range (pa_cons pe_int pa_nil)) (pg_name (i := 2) sc_Law.nd rfl (.inl rfl))
        (pss_cons (ps_set (i := 3) sc_Law.nd rfl (.inl rfl) (pe_op op_add pe_int (pe_fn dr hr_dr (by rfl) (pa_cons (pv 1) (pa_cons (pe_ifExp (pt_cmpR op_lt (pv 2) pe_int (nomark _)) pe_int pe_int) pa_nil)))))
        (pss_cons (ps_set (i := 4) sc_Law.nd rfl (.inl rfl) (pe_fn pr hr_pr (by rfl) (pa_cons (pv 1) (pa_cons (pv 3) (pa_cons pe_int (pa_cons pe_int (pa_cons (pe_lst (pa_cons pe_int (pa_cons pe_int (pa_cons pe_int (pa_cons (pe_op op_pow pe_int pe_int) (pa_cons (pe_fn dr hr_dr (by rfl) (pa_cons (pv 1) (pa_cons pe_int pa_nil))) pa_nil)))))) pa_nil)))))))
        (pss_cons (ps_set (i := 5) sc_Law.nd rfl (.inl rfl) (pe_fn dr hr_dr (by rfl) (pa_cons (pv 1) (pa_cons (pe_callB call_len_seq (by rfl) B.len boot_len (pa_cons (pv 4) pa_nil)) pa_nil))))
        (pss_cons (ps_set (i := 6) sc_Law.nd rfl (.inl rfl) (pe_fn sp hr_sp (by rfl) (pa_cons (pv 1) (pa_cons (pv 3) (pa_cons (pv 5) (pa_cons (pe_ix ix_tup (pv 4) (pv 5) (fun _ _ => rfl)) (pa_cons pe_int pa_nil)))))))
        (pss_cons (ps_set (i := 7) sc_Law.nd rfl (.inl rfl) (pe_lst (pa_cons (pv 4) (pa_cons (pe_op op_catA (pe_op op_catA (pe_slice sl_tupA (pv 4) po_none (po_some (pv 5))) (pe_tup (pa_cons (pv 6) pa_nil))) (pe_slice sl_tupA (pv 4) (po_some (pe_op op_add (pv 5) pe_int)) po_none)) (pa_cons (pe_slice sl_tupA (pv 4) (po_some (pv 5)) po_none) (pa_cons (pe_fn ed hr_ed (by rfl) (pa_cons (pv 1) (pa_cons (pv 3) pa_nil))) pa_nil))))))
        (pss_cons (ps_set (i := 8) sc_Law.nd rfl (.inl rfl) (pe_fn dr hr_dr (by rfl) (pa_cons (pv 1) (pa_cons (pe_callB call_len_seq (by rfl) B.len boot_len (pa_cons (pv 4) pa_nil)) pa_nil))))
        (pss_cons (ps_set (i := 9) sc_Law.nd rfl (.inl rfl) (pe_fn sp hr_sp (by rfl) (pa_cons (pv 1) (pa_cons (pv 3) (pa_cons (pv 8) (pa_cons (pe_ix ix_tup (pv 4) (pv 8) (fun _ _ => rfl)) (pa_cons pe_int pa_nil)))))))
        (pss_cons (ps_expr (pe_bm PySem.F.plainAttrs_list PySem.F.slot_list_append PySem.F.type_list_append mt_append (pv 7) (pa_cons (pe_op op_catA (pe_op op_catA (pe_slice sl_tupA (pe_ix ix_list (pv 7) pe_int (fun _ _ => rfl)) po_none (po_some (pv 8))) (pe_tup (pa_cons (pv 9) pa_nil))) (pe_slice sl_tupA (pe_ix ix_list (pv 7) pe_int (fun _ _ => rfl)) (po_some (pe_op op_add (pv 8) pe_int)) po_none)) pa_nil)))
        (pss_cons (ps_setLc (i := 7) (own := [("own", 10)]) (g := gName 10) (tt := tYes) rfl sc_Law.nd rfl rfl (sw_true rfl rfl rfl (by decide +kernel)) (pi_list (pv 7)) (blkOk_by (own := [("own", 10)]) (N := n_Law) (sc := defScope sLaw) (by decide +kernel)) (fun _ _ _ _ _ => pg_name (i := 10) sc_Law.nd rfl (.inl rfl)) (fun _ _ _ _ _ => pts_nil) (fun _ _ _ _ _ => (pe_ifExp (pt_cmpR op_le (pe_fn it hr_it (by rfl) (pa_cons (pv 10) pa_nil)) pe_int (nomark _)) (pv 10) (pe_tup pa_nil))))
        (pss_cons (ps_par (i := 11) (j := 12) rfl sc_Law.nd rfl rfl (by decide) rfl rfl (pa_cons (pe_callB cr (by rfl) B.repr (by decide +kernel) (pa_cons (pv 7) pa_nil)) (pa_cons (pe_op op_add pe_int (pe_fn dr hr_dr (by rfl) (pa_cons (pv 1) (pa_cons (pe_callB (call_min2 rfl) (by rfl) B.min (by decide +kernel) (pa_cons (pv 3) (pa_cons pe_int pa_nil))) pa_nil)))) pa_nil)) (by rfl))
        (pss_cons (ps_for PassesOwn.never rfl (pi_enum (by rfl) B.enumerate (pa_cons (pv 7) pa_nil)) (pg_tup rfl (pgs_cons (pg_name (i := 13) sc_Law.nd rfl (.inl rfl)) (pgs_cons (pg_name (i := 14) sc_Law.nd rfl (.inl rfl)) pgs_nil)))
          (pss_cons (ps_set (i := 15) sc_Law.nd rfl (.inl rfl) (pe_ifExp (pt_cmpR op_eq (pv 13) (pv 2) (nomark _)) (pe_fnN pe hr_pe (by rfl) (pk_cons (pv 14) (pk_cons (pv 3) pk_nil))) (pe_fn pe.ok hr_pe (by rfl) (pa_cons (pv 3) (pa_cons (pv 14) pa_nil)))))
          (pss_one (ps_if (pt_cmpR op_ne (pe_callB cr (by rfl) B.repr (by decide +kernel) (pa_cons (pe_lst (pa_cons (pv 15) (pa_cons (pe_fn pe.ok hr_pe (by rfl) (pa_cons (pv 3) (pa_cons (pv 14) pa_nil))) pa_nil))) pa_nil)) (pe_callB cr (by rfl) B.repr (by decide +kernel) (pa_cons (pe_op op_rep (pe_lst (pa_cons (pe_fn du hr_du (by rfl) (pa_cons (pv 3) (pa_cons (pv 14) pa_nil))) pa_nil)) pe_int) pa_nil)) (nomark _)) (pss_one (ps_ret pe_bl)) pss_nil))))
        (pss_one (ps_if (PW.pt (pw_or (pt_cmpR op_ne (pe_callB cr (by rfl) B.repr (by decide +kernel) (pa_cons (pe_fn pe.ok hr_pe (by rfl) (pa_cons (pv 12) (pa_cons (pv 4) pa_nil))) pa_nil)) (pe_callB cr (by rfl) B.repr (by decide +kernel) (pa_cons (pe_fn du hr_du (by rfl) (pa_cons (pv 12) (pa_cons (pv 4) pa_nil))) pa_nil)) (nomark _)) (pw_or1 (pt_cmpR op_ne (pe_callB cr (by rfl) B.repr (by decide +kernel) (pa_cons (pv 7) pa_nil)) (pv 11) (nomark _))))) (pss_one (ps_ret pe_bl)) pss_nil))))))))))))))
      (pss_one (ps_ret pe_bl))), ?_⟩
    refine ⟨.ref a, rfl, a, ns, rfl, hS, by omega, fun H1 p l s1 np nl D1 => ?_⟩
    dsimp only [tNext]
    refine ⟨7, rfl, by decide, by decide, for_it (walk_rg (n := 7)) (fun i σ G => ∃ y2 y3 y4 y5 y6 y7 y8 y9 y10 y11 y12 y13 y14 y15 : Option V, σ = [some (.ref a), some (.ref p), y2, y3, y4, y5, y6, y7, y8, y9, y10, y11, y12, y13, y14, y15] ∧ Deck G p l) ⟨_, _, _, _, _, _, _, _, _, _, _, _, _, _, rfl, D1⟩ (fun _ _ _ _ _ => trivial) ?_ ?_⟩
    rotate_left
    · rintro σ G ⟨y2, y3, y4, y5, y6, y7, y8, y9, y10, y11, y12, y13, y14, y15, rfl, DG⟩
      exact q G
    rintro i x σ _ G hi ⟨y2, y3, y4, y5, y6, y7, y8, y9, y10, y11, y12, y13, y14, y15, rfl, DG⟩ ⟨rfl, rfl⟩
    have w0 := Wl.two DG
    clear hS hlen s1 np nl D1
    refine sq_asgE ?_
    refine evq_at (evq_addQ (k := 3) (evq_drawQ (C := 22) rfl (by decide) fun G1 w1 e1 Q1 q1 => ⟨.int (i : Nat), rfl, _, _, rfl, rfl, _, rfl, ite2 (fun _ => q1 _ _ _ w1 Ext.rfl (.int _) ⟨22, rfl, by decide, by decide⟩) (fun _ => q1 _ _ _ w1 Ext.rfl (.int _) ⟨5, rfl, by decide, by decide⟩)⟩)) w0 ?_
    rintro v1 G1 d1 w1 e1 h1 ⟨many, rfl, m0, m1⟩
    cases h1
    have m1 : many ≤ 24 := by omega
    refine sq_asgE ?_
    refine ⟨.ref p, rfl, .int (many : Int), rfl, ?_⟩
    refine arg_cc ?_
    refine evq_at (R := OfL (fun d => ∃ k : Nat, d = .int (k : Int) ∧ k ≤ 10 ^ 30) 5) (evq_L (T := fun d => ∃ k : Nat, d = .int (k : Int) ∧ k ≤ 10 ^ 30) (n := 5) (eqa_cons (evq_n (i := 0) en_c ⟨0, rfl, by decide⟩) (eqa_cons (evq_n (i := 1) en_c ⟨1, rfl, by decide⟩) (eqa_cons (evq_n (i := 2) en_c ⟨2, rfl, by decide⟩) (eqa_cons (evq_n (i := 10 ^ (30 : Int).toNat) (en_pow en_c en_c ⟨by decide, by decide, by decide⟩) ⟨10 ^ 30, by rfl, Nat.le_refl _⟩) (eqa_cons ((evq_drawQ (C := 99) rfl (by decide) (evq_n en_c ⟨99, rfl, by decide, by decide⟩)).mono ?_) eqa_nil))))) (by decide) (by decide)) w1 ?_
    · rintro d ⟨z, rfl, hz⟩
      exact ⟨z, rfl, Nat.le_trans (show z ≤ 99 by omega) (by decide +kernel)⟩
    rintro v2 G2 d2 w2 e2 h2 ⟨dk, rfl, ⟨k0, k1⟩, hk⟩
    cases h2 with
    | @lst tl xs _ htl qtl => ?_
    obtain ⟨ks, rfl, hkl, hkb⟩ := nat_list qtl hk
    refine ⟨p, l, tl, many, 6, 4, ks, rfl, w2.D, m0, m1, by decide, by decide, by decide, by decide, hidS_hid w2 htl, fun z => by subst z; simp at hkl; omega, by omega, hkb, fun G3 vp ts D3 E3 hvp hpr _ hts6 => ?_⟩
    have w3 := w2.ext E3 D3
    have hflat : flatT (.tuple (ts.map tmD)) = true := by
      have := tms_flat ts
      rw [tmDs_map] at this
      simpa only [flatT] using this
    have hp3 := w3.flat hflat hvp
    clear hvp htl qtl hk hkl hkb k0 k1 E3 D3 e2 w2 e1 w1 w0 DG
    have hts0 := hpr.ne
    have htm : ∀ t ∈ ts, Vd 35 (tmD t) := fun t ht => by
      obtain ⟨i, hi⟩ := List.getElem?_of_mem ht
      obtain ⟨h1, h2⟩ := hpr.tm i t hi
      exact (VdTm m1 (by decide) (show i ≤ 400 by have := (List.getElem?_eq_some_iff.mp hi).1; omega) h1).mono (by omega)
    have hpd : Vd 36 (.tuple (ts.map tmD)) := Vd.tup (fun d hd => by
      obtain ⟨t, ht, rfl⟩ := List.mem_map.mp hd
      exact htm t ht) (by rw [List.length_map]; omega)
    have hpm : ∀ d ∈ ts.map tmD, Vd 35 d := fun d hd => by
      obtain ⟨t, ht, rfl⟩ := List.mem_map.mp hd
      exact htm t ht
    obtain ⟨pa, pxs, rfl, hpa, qpx⟩ := Dq.tup_inv hp3
    have hpl := qpx.len
    rw [List.length_map] at hpl
    dsimp only [tNext]
    refine ⟨.ref p, rfl, .ref pa, rfl, pa, pxs, rfl, .inr (SqT.of (hidS_some hpa).2), p, l, _, rfl, w3.D, by omega, fun G4 z D4 E4 z0 z1 => ?_⟩
    obtain ⟨spot, rfl, hsp⟩ : ∃ s : Nat, z = (s : Int) ∧ s < ts.length := ⟨z.toNat, by omega, by omega⟩
    have w4 := w3.ext E4 D4
    have hp4 := hp3.up (w3.hid E4)
    clear hp3 hpa qpx z0 z1 E4 D4 w3
    have tmAt : ∀ s : Nat, s < ts.length → ∃ t', ts[s]? = some t' ∧ (ts.map tmD)[s]? = some (tmD t') ∧ okTm (Deed many) 3 s t' ∧ dep t' ≤ 4 := fun s hs => by
      obtain ⟨t', ht'⟩ : ∃ t', ts[s]? = some t' := ⟨_, List.getElem?_eq_getElem hs⟩
      obtain ⟨h1, h2⟩ := hpr.tm s t' ht'
      exact ⟨t', ht', by rw [List.getElem?_map, ht']; rfl, h1, h2⟩
    obtain ⟨t1, ht1, hx1, ho1, hd1⟩ := tmAt spot hsp
    dsimp only [tNext]
    refine sq_asgE ?_
    refine evq_at (evq_spoK (many := many) (spot := spot) rfl rfl rfl m0 m1 (by omega) ho1 hd1 hd1 (evq_ixG (i := spot) (evq_var rfl hp4 rfl) (en_v rfl) hx1 rfl)) w4 ?_
    intro vw G5 dw w5 e5 hw rw5
    have hp5 := hp4.up (w4.hid e5)
    clear hp4 w4 e5
    refine sq_asgE ?_
    refine lst4 ⟨.ref pa, rfl, ?_⟩
    refine evq_at (R := OfT (Vd 35) 13) (evq_catT (n := 6 + 1) (m := 6) (evq_catT (n := 6) (m := 1) (evq_sl (evq_varT (T := Vd 35) (n := 6) rfl hp5 hpm (by rw [List.length_map]; exact hts6)) part_0 (part_n (en_v rfl))) (evq_T (eqa_cons (evq_var rfl hw rw5) eqa_nil) (by decide)) (by decide)) (evq_sl (evq_varT (T := Vd 35) (n := 6) rfl hp5 hpm (by rw [List.length_map]; exact hts6)) (part_n (en_add (en_v rfl) en_c)) part_0) (by decide)) w5 ?_
    intro vB G6 dB w6 e6 hB rB
    have hp6 := hp5.up (w5.hid e6)
    refine evq_at (R := OfT (Vd 35) 6) (evq_sl (evq_varT (T := Vd 35) (n := 6) rfl hp6 hpm (by rw [List.length_map]; exact hts6)) (part_n (en_v rfl)) part_0) w6 ?_
    intro vC G7 dC w7 e7 hC rC
    have hp7 := hp6.up (w6.hid e7)
    have hB7 := hB.up (w6.hid e7)
    refine ⟨.ref p, rfl, .int (many : Int), rfl, [p, l], p, l, many, rfl, w7, m0, m1, fun G8 vE dE w8 e8 hE rE => ⟨by show 4 ≤ sizeLine; decide, fun va nva => ?_⟩⟩
    have nS := w8.o.new nva
    obtain ⟨n1, n2⟩ := w8.D.new nva
    have nc := hidS_newcons (S := [p, l]) (o := .lst [.ref pa, vB, vC, vE]) nva
    have hP := (hp7.up (w7.hid e8)).up nc
    replace hB := (hB7.up (w7.hid e8)).up nc
    replace hC := (hC.up (w7.hid e8)).up nc
    replace hE := hE.up nc
    have w9 : Wl [va, p, l] p l (upd G8 va (.lst [.ref pa, vB, vC, vE])) := (w8.mut nS).cons upd_same
    have hva : upd G8 va (.lst [.ref pa, vB, vC, vE]) va = some (.lst [.ref pa, vB, vC, vE]) := upd_same
    generalize upd G8 va (.lst [.ref pa, vB, vC, vE]) = G9 at hP hB hC hE w9 hva
    clear hp5 hp6 hp7 hB7 nc nva w5 e6 w6 e7 w7 e8 w8 hw rw5
    obtain ⟨pb, pys, epb, hpb, qpy⟩ := Dq.tup_inv hP
    cases epb
    have hpyl := qpy.len
    rw [List.length_map] at hpyl
    refine sq_asgE ?_
    refine ⟨.ref p, rfl, .ref pa, rfl, pa, pys, rfl, .inr (SqT.of (hidS_some hpb).2), p, l, _, rfl, w9.D, by omega, fun G10 z D10 E10 z0 z1 => ?_⟩
    obtain ⟨oth, rfl, hoth⟩ : ∃ s : Nat, z = (s : Int) ∧ s < ts.length := ⟨z.toNat, by omega, by omega⟩
    have w10 := w9.ext E10 D10
    replace hP := hP.up (w9.hid E10)
    replace hB := hB.up (w9.hid E10)
    replace hC := hC.up (w9.hid E10)
    replace hE := hE.up (w9.hid E10)
    replace hva := E10.at_ n1 n2 hva
    clear hpb qpy w9 E10 D10 z0 z1
    obtain ⟨t2, ht2, hx2, ho2, hd2⟩ := tmAt oth hoth
    refine sq_asgE ?_
    refine evq_at (evq_spoK (many := many) (spot := oth) rfl rfl rfl m0 m1 (by omega) ho2 hd2 hd2 (evq_ixG (i := oth) (evq_var rfl hP rfl) (en_v rfl) hx2 rfl)) w10 ?_
    intro vM G11 dM w11 e11 hM rM
    replace hP := hP.up (w10.hid e11)
    replace hB := hB.up (w10.hid e11)
    replace hC := hC.up (w10.hid e11)
    replace hE := hE.up (w10.hid e11)
    replace hva := e11.at_ n1 n2 hva
    clear w10 e11
    refine ⟨.ref va, rfl, .inl ⟨rfl, _, SqL.of hva⟩, ?_⟩
    refine arg_1 ?_
    refine evq_at (R := OfT (Vd 35) 27) (evq_catT (n := 13 + 1) (m := 13) (evq_catT (n := 13) (m := 1) (evq_sl (evq_ixL (i := 1) (R := OfT (Vd 35) 13) rfl hva n1 n2 rfl hB rB) part_0 (part_n (en_v rfl))) (evq_T (eqa_cons (evq_var rfl hM rM) eqa_nil) (by decide)) (by decide)) (evq_sl (evq_ixL (i := 1) (R := OfT (Vd 35) 13) rfl hva n1 n2 rfl hB rB) (part_n (en_add (en_v rfl) en_c)) part_0) (by decide)) w11 ?_
    intro vN G12 dN w12 e12 hN rN
    replace hP := hP.up (w11.hid e12)
    replace hB := hB.up (w11.hid e12)
    replace hC := hC.up (w11.hid e12)
    replace hE := hE.up (w11.hid e12)
    replace hva := e12.at_ n1 n2 hva
    clear w11 e12 hM rM
    refine ⟨va, _, vN, rfl, rfl, hva, by show 4 < sizeLine; decide, ?_⟩
    have hsS : hidS [va, p, l] (upd G12 va (.lst ([.ref pa, vB, vC, vE] ++ [vN]))) = hidS [va, p, l] G12 := hidS_upd List.mem_cons_self
    rw [← hsS] at hP hB hC hE hN
    have w13 : Wl [va, p, l] p l (upd G12 va (.lst ([.ref pa, vB, vC, vE] ++ [vN]))) := w12.mutIn (by simp) (by simp) nS
    have hva13 : upd G12 va (.lst ([.ref pa, vB, vC, vE] ++ [vN])) va = some (.lst [.ref pa, vB, vC, vE, vN]) := upd_same
    generalize upd G12 va (.lst ([.ref pa, vB, vC, vE] ++ [vN])) = G13 at hP hB hC hE hN w13 hva13
    have qx : DqA (hidS [va, p, l] G13) [.ref pa, vB, vC, vE, vN] [.tuple (ts.map tmD), dB, dC, dE, dN] := .cons hP (.cons hB (.cons hC (.cons hE (.cons hN .nil))))
    have hVd : ∀ d ∈ [.tuple (ts.map tmD), dB, dC, dE, dN], Vd 36 d := fun d hd => by
      simp only [List.mem_cons, List.not_mem_nil, or_false] at hd
      rcases hd with rfl | rfl | rfl | rfl | rfl
      · exact hpd
      · exact rB.vd (by decide)
      · exact rC.vd (by decide)
      · exact rE.mono (by decide)
      · exact rN.vd (by decide)
    clear hB hC hE hN rB rC rE rN hsS w12 hva
    obtain ⟨xs, exs, hx5⟩ : ∃ xs : List V, [.ref pa, vB, vC, vE, vN] = xs ∧ xs.length = 5 := ⟨_, rfl, rfl⟩
    rw [exs] at qx hva13
    generalize [.tuple (ts.map tmD), dB, dC, dE, dN] = ds at qx hVd
    dsimp only [tNext]
    refine sq_asgE ?_
    refine ⟨.ref va, rfl, va, rfl, ⟨_, SqL.of hva13⟩, fun D nD => ?_⟩
    obtain ⟨nDp, nDl⟩ := w13.D.new nD
    have nDS := w13.o.new nD
    refine lc_it (walk_list (K := K) (a := va) (xs := xs)) (fun i G2 => ∃ (us : List V) (es : List PyData), G2 D = some (.lst us) ∧ Wl [va, p, l] p l G2 ∧ Ext p l G13 G2 ∧ us.length = i ∧ DqA (hidS (D :: [va, p, l]) G2) us es ∧ ∀ d ∈ es, Vd 36 d ∧ itg d ≤ 4000) ⟨[], [], upd_same, w13.mut nDS, Ext.mut Ext.rfl nD, rfl, .nil, fun _ h => nomatch h⟩ (fun _ _ _ ⟨_, _, _, _, e2, _⟩ => SqL.of (e2.at_ n1 n2 hva13)) ?_ ?_
    · rintro i x _ G2 hi ⟨us, es, hD, w2, e2, hul, qu, hes⟩ ⟨rfl, hx⟩
      obtain ⟨d0, hd0, hq0⟩ := qx.get hx
      have hv0 := hVd d0 (List.mem_of_getElem? hd0)
      have hq2 := hq0.up (hidS_into (D := D) (by simp) (by simp) nD e2)
      refine ⟨rfl, ?_⟩
      dsimp only [tYes]
      rw [if_pos rfl]
      have app : ∀ (y : V) (G3 : Hp) (d : PyData), Same G2 G3 → Dq (hidS (D :: [va, p, l]) G3) y d → Vd 36 d → itg d ≤ 4000 → ∃ acc, G3 D = some (.lst acc) ∧ acc.length < sizeLine ∧ ∃ (us : List V) (es : List PyData), upd G3 D (.lst (acc ++ [y])) D = some (.lst us) ∧ Wl [va, p, l] p l (upd G3 D (.lst (acc ++ [y]))) ∧ Ext p l G13 (upd G3 D (.lst (acc ++ [y]))) ∧ us.length = i + 1 ∧ DqA (hidS (D :: [va, p, l]) (upd G3 D (.lst (acc ++ [y])))) us es ∧ ∀ d ∈ es, Vd 36 d ∧ itg d ≤ 4000 := fun y G3 d s3 hy h1 h2 => by
        have hD3 := s3 _ _ hD
        refine ⟨us, hD3, szm (by omega), us ++ [y], es ++ [d], upd_same, (w2.up s3).mut nDS, Ext.mut (Same.trans e2 (Ext.of s3)) nD, by rw [List.length_append, hul]; rfl, ?_, fun z hz => ?_⟩
        · rw [hidS_upd List.mem_cons_self]
          exact dqa_snoc (qu.up (hidS_up s3)) hy
        · rcases List.mem_append.mp hz with hz | hz
          · exact hes z hz
          · rw [List.mem_singleton.mp hz]
            exact ⟨h1, h2⟩
      refine ⟨x, rfl, x, d0, rfl, hq2.up (hidS_same _ _), hv0.b, by have := hv0.dp; omega, fun G3 s3 => ⟨_, _, rfl, rfl, _, rfl, ite2 (fun c => ⟨x, rfl, app x G3 d0 s3 (hq2.up (hidS_up s3)) hv0 ?_⟩) (fun c => ⟨by show 0 ≤ sizeLine; decide, fun t nt => ?_⟩)⟩⟩
      · have := of_decide_eq_true c
        omega
      · have s4 := same_new (o := .tup []) nt
        have w4 := (w2.cons hD).up (s3.trans s4)
        refine app (.ref t) _ (.tuple []) (s3.trans s4) (.tup (w4.o.tup upd_same) .nil) (Vd.tup (k := 35) (fun _ h => nomatch h) (by decide)) (by decide)
    rintro G14 ⟨us, es, hD14, w14, e14, hul, qu, hes⟩
    have hP14 := hP.up (w13.hid e14)
    have qu14 : DqA G14 us es := qu.up (hidS_same _ _)
    have quS : DqA (hidS [va, p, l] G14) us es := qu.up hidS_less
    have heL : es.length = 5 := by rw [← qu14.len, hul, hx5]
    have hesum : itgA es ≤ 4000 * es.length := by
      have : ∀ zs : List PyData, (∀ d ∈ zs, itg d ≤ 4000) → itgA zs ≤ 4000 * zs.length := by
        intro zs
        induction zs with
        | nil => intro _; exact Nat.le_refl _
        | cons z zs ih =>
          intro h
          have h1 := h z List.mem_cons_self
          have h2 := ih fun d hd => h d (List.mem_cons_of_mem _ hd)
          simp only [itgA, List.length_cons]
          omega
      exact this es fun d hd => (hes d hd).2
    have hLv : Vd 37 (.list es) := Vd.lst (fun d hd => (hes d hd).1) (by omega)
    have hLi : itg (.list es) ≤ 300000 := by
      simp only [itg]
      omega
    clear qu qx hVd hP w13 hva13 nDS
    refine sq_parR ?_
    refine ⟨.ref D, rfl, repr_v (.lst hD14 qu14) hLv (by decide) hLi fun kx hkx => ?_⟩
    refine evq_at (evq_addQ (k := 3) (evq_drawQ (C := 22) rfl (by decide) fun G1 w1 e1 Q1 q1 => ⟨.int (many : Int), rfl, _, _, rfl, q1 _ _ _ w1 Ext.rfl (.int _) ⟨_, rfl, by split <;> omega, by split <;> omega⟩⟩)) w14 ?_
    rintro vL G15 dL w15 e15 hL ⟨less, rfl, l0, l1⟩
    cases hL
    refine ⟨_, _, rfl, ?_⟩
    have hD15 := e15.at_ nDp nDl hD14
    have qu15 : DqA G15 us es := (quS.up (w14.hid e15)).up (hidS_same _ _)
    have hP15 : Dq G15 (.ref pa) (.tuple (ts.map tmD)) := (hP14.up (w14.hid e15)).up (hidS_same _ _)
    have D15 := w15.D
    clear quS hP14 e15 w14 w15 e14 qu14 hD14 nD hx5 exs
    have two : ∀ e : PyData, Vd 1 e → itg e ≤ 2 → Vd 2 (.list [e, e]) ∧ itg (.list [e, e]) ≤ 300000 := fun e h1 h2 => ⟨Vd.lst (fun d hd => by
      simp only [List.mem_cons, List.not_mem_nil, or_false] at hd
      rcases hd with rfl | rfl <;> exact h1) (show 2 ≤ 500 by decide), by
      simp only [itg, itgA, List.length_cons, List.length_nil]
      omega⟩
    refine ⟨.ref D, rfl, D, us, rfl, SqL.of hD15, for_it walk_enum (fun j σ G => ∃ y13 y14 y15 : Option V, σ = [some (.ref a), some (.ref p), some (.int (i : Nat)), some (.int (many : Int)), some (.ref pa), some (.int (spot : Int)), some vw, some (.ref D), some (.int (oth : Int)), some vM, y10, some (.str kx), some (.int (less : Int)), y13, y14, y15] ∧ Same G15 G) ⟨_, _, _, rfl, Same.refl _⟩ (fun _ _ _ _ ⟨_, _, _, _, sm⟩ => SqL.of (sm _ _ hD15)) ?_ ?_⟩
    · rintro j _ σ G _ hj ⟨y13, y14, y15, rfl, sm⟩ ⟨T, x, y, rfl, nT, rfl, f1, f2⟩
      cases Option.some.inj f1
      obtain ⟨dy, hdy, hqy⟩ := qu15.get f2
      obtain ⟨hvy, _⟩ := hes dy (List.mem_of_getElem? hdy)
      have sT : Same G (upd G T (.tup [.int (j : Nat), y])) := same_new nT
      have s2 := sm.trans sT
      have hy2 := hqy.up s2
      refine ⟨T, [.int (j : Nat), y], rfl, SqT.of upd_same, rfl, .int (j : Nat), [y], rfl, y, [], rfl, rfl, ?_⟩
      generalize upd G T (.tup [.int (j : Nat), y]) = G16 at s2 hy2
      refine sq_asgE ?_
      refine ⟨.int (j : Nat), rfl, .int (i : Nat), rfl, rfl, _, rfl, ?_⟩
      refine ifE_join (R := fun v G' => Same G16 G' ∧ Dq G' v (progErr many dy)) (fun v G' hR => ?_) (fun _ Q' k => ?_) (fun _ Q' k => ?_)
      · obtain ⟨s3, hr3⟩ := hR
        have s23 := s2.trans s3
        refine ne_repr ?_
        refine ⟨v, rfl, .int (many : Int), rfl, y, rfl, many, y, dy, rfl, hqy.up s23, hvy.b, fun G17 r2 s4 hr2 => ⟨by show 2 ≤ sizeLine; decide, fun L nL => ?_⟩⟩
        have s5 := same_new (o := .lst [v, r2]) nL
        obtain ⟨t1, t2⟩ := two _ (progErr_vd many dy) (progErr_itg many dy)
        refine repr_v (.lst upd_same (.cons ((hr3.up s4).up s5) (.cons (hr2.up s5) .nil))) t1 (by decide) t2 fun xt hxt => ?_
        have s25 := s23.trans (s4.trans s5)
        generalize upd G17 L (.lst [v, r2]) = G18 at s25
        refine ⟨.int (many : Int), rfl, y, rfl, many, y, dy, rfl, hqy.up s25, hvy.b, fun G19 r3 s6 hr3 => ⟨by show 1 ≤ sizeLine; decide, fun L2 nL2 => ?_⟩⟩
        have s7 := same_new (o := .lst [r3]) nL2
        refine ⟨L2, 2, [r3], rfl, rfl, upd_same, by decide, by decide, by show 1 * 2 ≤ sizeLine; decide, fun L3 nL3 => ?_⟩
        have s8 := same_new (o := .lst (List.replicate (2 : Int).toNat [r3]).flatten) nL3
        refine repr_vne hxt (.lst upd_same (.cons (hr3.up (s7.trans s8)) (.cons (hr3.up (s7.trans s8)) .nil))) t1 (by decide) t2 ?_
        exact iteF ⟨_, _, _, rfl, s25.trans (s6.trans (s7.trans s8))⟩
      · refine ⟨y, rfl, .int (many : Int), rfl, rfl, many, y, dy, rfl, hy2, hvy.b, fun G17 r2 s4 hr2 => k _ _ ⟨s4, hr2⟩⟩
      · refine ⟨.int (many : Int), rfl, y, rfl, many, y, dy, rfl, hy2, hvy.b, fun G17 r2 s4 hr2 => k _ _ ⟨s4, hr2⟩⟩
    · rintro σ G ⟨y13, y14, y15, rfl, sm⟩
      have hpv := hpd.b
      dsimp only
      refine ne_repr ?_
      refine ⟨.int (less : Int), rfl, .ref pa, rfl, less, .ref pa, _, rfl, hP15.up sm, hpv, fun G17 r2 s4 hr2 => ?_⟩
      refine repr_v hr2 (progErr_vd _ _) (by decide) (Nat.le_trans (progErr_itg _ _) (by decide)) fun xt hxt => ?_
      refine ⟨.int (less : Int), rfl, .ref pa, rfl, less, .ref pa, _, rfl, hP15.up (sm.trans s4), hpv, fun G18 r3 s5 hr3 => ?_⟩
      refine repr_vne hxt hr3 (progErr_vd _ _) (by decide) (Nat.le_trans (progErr_itg _ _) (by decide)) ?_
      have s6 := sm.trans (s4.trans s5)
      refine iteF ?_
      refine ne_reprV ?_
      refine ⟨.ref D, rfl, repr_v (.lst (s6 _ _ hD15) (qu15.up s6)) hLv (by decide) hLi fun x2 hx2 => ⟨.str kx, rfl, ?_⟩⟩
      refine txt_ne hx2 hkx ?_
      exact iteF ⟨_, _, _, _, _, _, _, _, _, _, _, _, _, _, rfl, D15.up s6⟩
end
end Kr
namespace Kr
open PySem PySem.Spec PyProof.Rows L2
/-! ### what the head has written -/
theorem df_mk {K : PySem.W.Frag} {h : Heap} {mg : Str → Option Value} {x : Str} {st : Stmt} {f : Addr} {ps : List Str} {oc : Value} {od an : Option Addr} {osl : Array (Option Value)} {kV doc pm cdv ct : Value} (X : K.In h) (G : h.Ns mainGlobals mg)
    (a : PySem.W.nsIn K mainGlobals x = some (some (.ref f))) (l : K.lookup f = some ⟨oc, od, .func (PySem.W.fnOf x x (defArgs st) (defBody st) (defScope st) .none kV doc pm an cdv ct), osl⟩) (c : PySem.W.codeIn K cdv x = true) (k : PySem.W.keepIn K (.ref f) = true)
    (hb : ∀ (kV doc pm : Value) (an : Option Addr) (cdv ct : Value) (us : List Value), us.length = ps.length → bindArgs (PySem.W.fnOf x x (defArgs st) (defBody st) (defScope st) .none kV doc pm an cdv ct) ⟨us, []⟩ = pure (ps.zip us)) : Df K mg x st ps :=
  ⟨_, _, fun_mk l c k, (fun_mk l c k).binds hb, PySem.W.mg_of X G a⟩
theorem all_mk {l : PySem.W.OpenLaw} {w : World} {K : PySem.W.Frag} {h : Heap} {mg : Str → Option Value} {fa : Addr} (X : K.In h) (G : h.Ns mainGlobals mg) (hfa : mg "law" = some (.ref fa))
    {f1 : Addr} {oc1 kV1 dc1 pm1 cd1 ct1 : Value} {od1 an1 : Option Addr} {sl1 : Array (Option Value)}
    {f2 : Addr} {oc2 kV2 dc2 pm2 cd2 ct2 : Value} {od2 an2 : Option Addr} {sl2 : Array (Option Value)}
    {f3 : Addr} {oc3 kV3 dc3 pm3 cd3 ct3 : Value} {od3 an3 : Option Addr} {sl3 : Array (Option Value)}
    {f4 : Addr} {oc4 kV4 dc4 pm4 cd4 ct4 : Value} {od4 an4 : Option Addr} {sl4 : Array (Option Value)}
    {f5 : Addr} {oc5 kV5 dc5 pm5 cd5 ct5 : Value} {od5 an5 : Option Addr} {sl5 : Array (Option Value)}
    {f6 : Addr} {oc6 kV6 dc6 pm6 cd6 ct6 : Value} {od6 an6 : Option Addr} {sl6 : Array (Option Value)}
    {f7 : Addr} {oc7 kV7 dc7 pm7 cd7 ct7 : Value} {od7 an7 : Option Addr} {sl7 : Array (Option Value)}
    {f8 : Addr} {oc8 kV8 dc8 pm8 cd8 ct8 : Value} {od8 an8 : Option Addr} {sl8 : Array (Option Value)}
    {f9 : Addr} {oc9 kV9 dc9 pm9 cd9 ct9 : Value} {od9 an9 : Option Addr} {sl9 : Array (Option Value)}
    {f10 : Addr} {oc10 kV10 dc10 pm10 cd10 ct10 : Value} {od10 an10 : Option Addr} {sl10 : Array (Option Value)}
    {f11 : Addr} {oc11 kV11 dc11 pm11 cd11 ct11 : Value} {od11 an11 : Option Addr} {sl11 : Array (Option Value)}
    {f12 : Addr} {oc12 kV12 dc12 pm12 cd12 ct12 : Value} {od12 an12 : Option Addr} {sl12 : Array (Option Value)}
    {f13 : Addr} {oc13 kV13 dc13 pm13 cd13 ct13 : Value} {od13 an13 : Option Addr} {sl13 : Array (Option Value)}
    {f14 : Addr} {oc14 kV14 dc14 pm14 cd14 ct14 : Value} {od14 an14 : Option Addr} {sl14 : Array (Option Value)}
    {f15 : Addr} {oc15 kV15 dc15 pm15 cd15 ct15 : Value} {od15 an15 : Option Addr} {sl15 : Array (Option Value)}
    {f16 : Addr} {oc16 kV16 dc16 pm16 cd16 ct16 : Value} {od16 an16 : Option Addr} {sl16 : Array (Option Value)}
    {f17 : Addr} {oc17 kV17 dc17 pm17 cd17 ct17 : Value} {od17 an17 : Option Addr} {sl17 : Array (Option Value)}
    {f18 : Addr} {oc18 kV18 dc18 pm18 cd18 ct18 : Value} {od18 an18 : Option Addr} {sl18 : Array (Option Value)}
    {f19 : Addr} {oc19 kV19 dc19 pm19 cd19 ct19 : Value} {od19 an19 : Option Addr} {sl19 : Array (Option Value)}
    {f20 : Addr} {oc20 kV20 dc20 pm20 cd20 ct20 : Value} {od20 an20 : Option Addr} {sl20 : Array (Option Value)}
    {f21 : Addr} {oc21 kV21 dc21 pm21 cd21 ct21 : Value} {od21 an21 : Option Addr} {sl21 : Array (Option Value)}
    {f22 : Addr} {oc22 kV22 dc22 pm22 cd22 ct22 : Value} {od22 an22 : Option Addr} {sl22 : Array (Option Value)}
    {f23 : Addr} {oc23 kV23 dc23 pm23 cd23 ct23 : Value} {od23 an23 : Option Addr} {sl23 : Array (Option Value)}
    {f24 : Addr} {oc24 kV24 dc24 pm24 cd24 ct24 : Value} {od24 an24 : Option Addr} {sl24 : Array (Option Value)}
    {f25 : Addr} {oc25 kV25 dc25 pm25 cd25 ct25 : Value} {od25 an25 : Option Addr} {sl25 : Array (Option Value)}
    {f26 : Addr} {oc26 kV26 dc26 pm26 cd26 ct26 : Value} {od26 an26 : Option Addr} {sl26 : Array (Option Value)}
    {tD tM tT tW0 tW1 tW2 tW3 : Tok} {W : Addr} {dW : Option Addr} {nW : Nat} {slW : Array (Option Value)}
    (a1 : PySem.W.nsIn K mainGlobals "is_between" = some (some (.ref f1))) (l1 : K.lookup f1 = some ⟨oc1, od1, .func (PySem.W.fnOf "is_between" "is_between" (defArgs sBetween) (defBody sBetween) (defScope sBetween) .none kV1 dc1 pm1 an1 cd1 ct1), sl1⟩) (c1 : PySem.W.codeIn K cd1 "is_between" = true) (k1 : PySem.W.keepIn K (.ref f1) = true)
    (a2 : PySem.W.nsIn K mainGlobals "is_tuple_of" = some (some (.ref f2))) (l2 : K.lookup f2 = some ⟨oc2, od2, .func (PySem.W.fnOf "is_tuple_of" "is_tuple_of" (defArgs sTupleOf) (defBody sTupleOf) (defScope sTupleOf) .none kV2 dc2 pm2 an2 cd2 ct2), sl2⟩) (c2 : PySem.W.codeIn K cd2 "is_tuple_of" = true) (k2 : PySem.W.keepIn K (.ref f2) = true)
    (a3 : PySem.W.nsIn K mainGlobals "lot_error" = some (some (.ref f3))) (l3 : K.lookup f3 = some ⟨oc3, od3, .func (PySem.W.fnOf "lot_error" "lot_error" (defArgs sLotError) (defBody sLotError) (defScope sLotError) .none kV3 dc3 pm3 an3 cd3 ct3), sl3⟩) (c3 : PySem.W.codeIn K cd3 "lot_error" = true) (k3 : PySem.W.keepIn K (.ref f3) = true)
    (a4 : PySem.W.nsIn K mainGlobals "deed_error" = some (some (.ref f4))) (l4 : K.lookup f4 = some ⟨oc4, od4, .func (PySem.W.fnOf "deed_error" "deed_error" (defArgs sDeedError) (defBody sDeedError) (defScope sDeedError) .none kV4 dc4 pm4 an4 cd4 ct4), sl4⟩) (c4 : PySem.W.codeIn K cd4 "deed_error" = true) (k4 : PySem.W.keepIn K (.ref f4) = true)
    (a5 : PySem.W.nsIn K mainGlobals "program_error" = some (some (.ref f5))) (l5 : K.lookup f5 = some ⟨oc5, od5, .func (PySem.W.fnOf "program_error" "program_error" (defArgs sProgramError) (defBody sProgramError) (defScope sProgramError) .none kV5 dc5 pm5 an5 cd5 ct5), sl5⟩) (c5 : PySem.W.codeIn K cd5 "program_error" = true) (k5 : PySem.W.keepIn K (.ref f5) = true)
    (a6 : PySem.W.nsIn K mainGlobals "_term_error" = some (some (.ref f6))) (l6 : K.lookup f6 = some ⟨oc6, od6, .func (PySem.W.fnOf "_term_error" "_term_error" (defArgs sTermError) (defBody sTermError) (defScope sTermError) .none kV6 dc6 pm6 an6 cd6 ct6), sl6⟩) (c6 : PySem.W.codeIn K cd6 "_term_error" = true) (k6 : PySem.W.keepIn K (.ref f6) = true)
    (a7 : PySem.W.nsIn K mainGlobals "_has_term_form" = some (some (.ref f7))) (l7 : K.lookup f7 = some ⟨oc7, od7, .func (PySem.W.fnOf "_has_term_form" "_has_term_form" (defArgs sHasTermForm) (defBody sHasTermForm) (defScope sHasTermForm) .none kV7 dc7 pm7 an7 cd7 ct7), sl7⟩) (c7 : PySem.W.codeIn K cd7 "_has_term_form" = true) (k7 : PySem.W.keepIn K (.ref f7) = true)
    (a8 : PySem.W.nsIn K mainGlobals "_row_error" = some (some (.ref f8))) (l8 : K.lookup f8 = some ⟨oc8, od8, .func (PySem.W.fnOf "_row_error" "_row_error" (defArgs sRowError) (defBody sRowError) (defScope sRowError) .none kV8 dc8 pm8 an8 cd8 ct8), sl8⟩) (c8 : PySem.W.codeIn K cd8 "_row_error" = true) (k8 : PySem.W.keepIn K (.ref f8) = true)
    (a9 : PySem.W.nsIn K mainGlobals "_law_deck" = some (some (.ref f9))) (l9 : K.lookup f9 = some ⟨oc9, od9, .func (PySem.W.fnOf "_law_deck" "_law_deck" (defArgs sDeck) (defBody sDeck) (defScope sDeck) .none kV9 dc9 pm9 an9 cd9 ct9), sl9⟩) (c9 : PySem.W.codeIn K cd9 "_law_deck" = true) (k9 : PySem.W.keepIn K (.ref f9) = true)
    (a10 : PySem.W.nsIn K mainGlobals "_law_draw" = some (some (.ref f10))) (l10 : K.lookup f10 = some ⟨oc10, od10, .func (PySem.W.fnOf "_law_draw" "_law_draw" (defArgs sDraw) (defBody sDraw) (defScope sDraw) .none kV10 dc10 pm10 an10 cd10 ct10), sl10⟩) (c10 : PySem.W.codeIn K cd10 "_law_draw" = true) (k10 : PySem.W.keepIn K (.ref f10) = true)
    (a11 : PySem.W.nsIn K mainGlobals "_law_pick" = some (some (.ref f11))) (l11 : K.lookup f11 = some ⟨oc11, od11, .func (PySem.W.fnOf "_law_pick" "_law_pick" (defArgs sPick) (defBody sPick) (defScope sPick) .none kV11 dc11 pm11 an11 cd11 ct11), sl11⟩) (c11 : PySem.W.codeIn K cd11 "_law_pick" = true) (k11 : PySem.W.keepIn K (.ref f11) = true)
    (a12 : PySem.W.nsIn K mainGlobals "_law_mixed" = some (some (.ref f12))) (l12 : K.lookup f12 = some ⟨oc12, od12, .func (PySem.W.fnOf "_law_mixed" "_law_mixed" (defArgs sMixed) (defBody sMixed) (defScope sMixed) .none kV12 dc12 pm12 an12 cd12 ct12), sl12⟩) (c12 : PySem.W.codeIn K cd12 "_law_mixed" = true) (k12 : PySem.W.keepIn K (.ref f12) = true)
    (a13 : PySem.W.nsIn K mainGlobals "_law_deed" = some (some (.ref f13))) (l13 : K.lookup f13 = some ⟨oc13, od13, .func (PySem.W.fnOf "_law_deed" "_law_deed" (defArgs sDeed) (defBody sDeed) (defScope sDeed) .none kV13 dc13 pm13 an13 cd13 ct13), sl13⟩) (c13 : PySem.W.codeIn K cd13 "_law_deed" = true) (k13 : PySem.W.keepIn K (.ref f13) = true)
    (a14 : PySem.W.nsIn K mainGlobals "_law_term" = some (some (.ref f14))) (l14 : K.lookup f14 = some ⟨oc14, od14, .func (PySem.W.fnOf "_law_term" "_law_term" (defArgs sLTerm) (defBody sLTerm) (defScope sLTerm) .none kV14 dc14 pm14 an14 cd14 ct14), sl14⟩) (c14 : PySem.W.codeIn K cd14 "_law_term" = true) (k14 : PySem.W.keepIn K (.ref f14) = true)
    (a15 : PySem.W.nsIn K mainGlobals "_law_items" = some (some (.ref f15))) (l15 : K.lookup f15 = some ⟨oc15, od15, .func (PySem.W.fnOf "_law_items" "_law_items" (defArgs sLItems) (defBody sLItems) (defScope sLItems) .none kV15 dc15 pm15 an15 cd15 ct15), sl15⟩) (c15 : PySem.W.codeIn K cd15 "_law_items" = true) (k15 : PySem.W.keepIn K (.ref f15) = true)
    (a16 : PySem.W.nsIn K mainGlobals "_law_program" = some (some (.ref f16))) (l16 : K.lookup f16 = some ⟨oc16, od16, .func (PySem.W.fnOf "_law_program" "_law_program" (defArgs sLProgram) (defBody sLProgram) (defScope sLProgram) .none kV16 dc16 pm16 an16 cd16 ct16), sl16⟩) (c16 : PySem.W.codeIn K cd16 "_law_program" = true) (k16 : PySem.W.keepIn K (.ref f16) = true)
    (a17 : PySem.W.nsIn K mainGlobals "_law_is_whole" = some (some (.ref f17))) (l17 : K.lookup f17 = some ⟨oc17, od17, .func (PySem.W.fnOf "_law_is_whole" "_law_is_whole" (defArgs sLIsWhole) (defBody sLIsWhole) (defScope sLIsWhole) .none kV17 dc17 pm17 an17 cd17 ct17), sl17⟩) (c17 : PySem.W.codeIn K cd17 "_law_is_whole" = true) (k17 : PySem.W.keepIn K (.ref f17) = true)
    (a18 : PySem.W.nsIn K mainGlobals "_law_is_deed" = some (some (.ref f18))) (l18 : K.lookup f18 = some ⟨oc18, od18, .func (PySem.W.fnOf "_law_is_deed" "_law_is_deed" (defArgs sLIsDeed) (defBody sLIsDeed) (defScope sLIsDeed) .none kV18 dc18 pm18 an18 cd18 ct18), sl18⟩) (c18 : PySem.W.codeIn K cd18 "_law_is_deed" = true) (k18 : PySem.W.keepIn K (.ref f18) = true)
    (a19 : PySem.W.nsIn K mainGlobals "_law_fault" = some (some (.ref f19))) (l19 : K.lookup f19 = some ⟨oc19, od19, .func (PySem.W.fnOf "_law_fault" "_law_fault" (defArgs sLFault) (defBody sLFault) (defScope sLFault) .none kV19 dc19 pm19 an19 cd19 ct19), sl19⟩) (c19 : PySem.W.codeIn K cd19 "_law_fault" = true) (k19 : PySem.W.keepIn K (.ref f19) = true)
    (a20 : PySem.W.nsIn K mainGlobals "_law_program_due" = some (some (.ref f20))) (l20 : K.lookup f20 = some ⟨oc20, od20, .func (PySem.W.fnOf "_law_program_due" "_law_program_due" (defArgs sLProgramDue) (defBody sLProgramDue) (defScope sLProgramDue) .none kV20 dc20 pm20 an20 cd20 ct20), sl20⟩) (c20 : PySem.W.codeIn K cd20 "_law_program_due" = true) (k20 : PySem.W.keepIn K (.ref f20) = true)
    (a21 : PySem.W.nsIn K mainGlobals "_law_nested" = some (some (.ref f21))) (l21 : K.lookup f21 = some ⟨oc21, od21, .func (PySem.W.fnOf "_law_nested" "_law_nested" (defArgs sLNested) (defBody sLNested) (defScope sLNested) .none kV21 dc21 pm21 an21 cd21 ct21), sl21⟩) (c21 : PySem.W.codeIn K cd21 "_law_nested" = true) (k21 : PySem.W.keepIn K (.ref f21) = true)
    (a22 : PySem.W.nsIn K mainGlobals "_law_near_deed" = some (some (.ref f22))) (l22 : K.lookup f22 = some ⟨oc22, od22, .func (PySem.W.fnOf "_law_near_deed" "_law_near_deed" (defArgs sLNearDeed) (defBody sLNearDeed) (defScope sLNearDeed) .none kV22 dc22 pm22 an22 cd22 ct22), sl22⟩) (c22 : PySem.W.codeIn K cd22 "_law_near_deed" = true) (k22 : PySem.W.keepIn K (.ref f22) = true)
    (a23 : PySem.W.nsIn K mainGlobals "_law_bad" = some (some (.ref f23))) (l23 : K.lookup f23 = some ⟨oc23, od23, .func (PySem.W.fnOf "_law_bad" "_law_bad" (defArgs sLBad) (defBody sLBad) (defScope sLBad) .none kV23 dc23 pm23 an23 cd23 ct23), sl23⟩) (c23 : PySem.W.codeIn K cd23 "_law_bad" = true) (k23 : PySem.W.keepIn K (.ref f23) = true)
    (a24 : PySem.W.nsIn K mainGlobals "_law_spoilt" = some (some (.ref f24))) (l24 : K.lookup f24 = some ⟨oc24, od24, .func (PySem.W.fnOf "_law_spoilt" "_law_spoilt" (defArgs sLSpoilt) (defBody sLSpoilt) (defScope sLSpoilt) .none kV24 dc24 pm24 an24 cd24 ct24), sl24⟩) (c24 : PySem.W.codeIn K cd24 "_law_spoilt" = true) (k24 : PySem.W.keepIn K (.ref f24) = true)
    (a25 : PySem.W.nsIn K mainGlobals "_law_edge" = some (some (.ref f25))) (l25 : K.lookup f25 = some ⟨oc25, od25, .func (PySem.W.fnOf "_law_edge" "_law_edge" (defArgs sLEdge) (defBody sLEdge) (defScope sLEdge) .none kV25 dc25 pm25 an25 cd25 ct25), sl25⟩) (c25 : PySem.W.codeIn K cd25 "_law_edge" = true) (k25 : PySem.W.keepIn K (.ref f25) = true)
    (a26 : PySem.W.nsIn K mainGlobals "law" = some (some (.ref f26))) (l26 : K.lookup f26 = some ⟨oc26, od26, .func (PySem.W.fnOf "law" "law" (defArgs sLaw) (defBody sLaw) (defScope sLaw) .none kV26 dc26 pm26 an26 cd26 ct26), sl26⟩) (c26 : PySem.W.codeIn K cd26 "law" = true) (k26 : PySem.W.keepIn K (.ref f26) = true)
    (z1 : PySem.W.nsIn K mainGlobals "len" = some none)
    (z2 : PySem.W.nsIn K mainGlobals "abs" = some none)
    (z3 : PySem.W.nsIn K mainGlobals "int" = some none)
    (z4 : PySem.W.nsIn K mainGlobals "bool" = some none)
    (z5 : PySem.W.nsIn K mainGlobals "tuple" = some none)
    (z6 : PySem.W.nsIn K mainGlobals "list" = some none)
    (z7 : PySem.W.nsIn K mainGlobals "range" = some none)
    (z8 : PySem.W.nsIn K mainGlobals "zip" = some none)
    (z9 : PySem.W.nsIn K mainGlobals "repr" = some none)
    (z10 : PySem.W.nsIn K mainGlobals "enumerate" = some none)
    (z11 : PySem.W.nsIn K mainGlobals "isinstance" = some none)
    (z12 : PySem.W.nsIn K mainGlobals "all" = some none)
    (z13 : PySem.W.nsIn K mainGlobals "sorted" = some none)
    (z14 : PySem.W.nsIn K mainGlobals "set" = some none)
    (z15 : PySem.W.nsIn K mainGlobals "sum" = some none)
    (z16 : PySem.W.nsIn K mainGlobals "min" = some none)
    (z17 : PySem.W.nsIn K mainGlobals "max" = some none)
    (z18 : PySem.W.nsIn K mainGlobals "any" = some none)
    (z19 : PySem.W.nsIn K mainGlobals "str" = some none)
    (md : PySem.W.nsIn K mainGlobals "MAX_DEEP" = some (some (.int 12 tD)))
    (mm : PySem.W.nsIn K mainGlobals "MAX_TIMES" = some (some (.int (10 ^ 30) tM)))
    (mt : PySem.W.nsIn K mainGlobals "MAX_TERMS" = some (some (.int 400 tT)))
    (wa : PySem.W.nsIn K mainGlobals "PAIR_WORDS" = some (some (.ref W)))
    (wl : K.lookup W = some ⟨.type "tuple", dW, .seq #[.str "do" tW0, .str "row" tW1, .str "back" tW2, .str "part" tW3] nW, slW⟩)
    : ∃ fd : FuncData, (∀ (s : Shared) (u : Value), BindsTo s fd ⟨[u], []⟩ [("script", u)]) ∧ ∀ base : Heap, K.In base → base.Ns mainGlobals mg → FnG l.prog w K mg base CX0 60 fa fd ["script"] (spLaw K) := by
  have e := hfa.symm.trans (PySem.W.mg_of X G a26)
  cases e
  have D1 : Df K mg "is_between" sBetween ["value", "least", "most"] := df_mk X G a1 l1 c1 k1 fun _ _ _ _ _ _ us hl => match us, hl with | [_, _, _], _ => rfl
  have D2 : Df K mg "is_tuple_of" sTupleOf ["value", "size"] := df_mk X G a2 l2 c2 k2 fun _ _ _ _ _ _ us hl => match us, hl with | [_, _], _ => rfl
  have D3 : Df K mg "lot_error" sLotError ["n", "value"] := df_mk X G a3 l3 c3 k3 fun _ _ _ _ _ _ us hl => match us, hl with | [_, _], _ => rfl
  have D4 : Df K mg "deed_error" sDeedError ["n", "value"] := df_mk X G a4 l4 c4 k4 fun _ _ _ _ _ _ us hl => match us, hl with | [_, _], _ => rfl
  have D5 : DfN K mg "program_error" sProgramError ["n", "value"] ["value", "n"] := ⟨_, _, fun_mk l5 c5 k5, (fun_mk l5 c5 k5).binds (fun _ _ _ _ _ _ us hl => match us, hl with | [_, _], _ => rfl), PySem.W.mg_of X G a5, kbn_of (fun_mk l5 c5 k5) (fun zs => zs.reverse) vals_swap fun _ _ _ _ _ _ ws hl => match ws, hl with | [_, _], _ => rfl⟩
  have D6 : Df K mg "_term_error" sTermError ["n", "i", "term", "deep"] := df_mk X G a6 l6 c6 k6 fun _ _ _ _ _ _ us hl => match us, hl with | [_, _, _, _], _ => rfl
  have D7 : Df K mg "_has_term_form" sHasTermForm ["value"] := df_mk X G a7 l7 c7 k7 fun _ _ _ _ _ _ us hl => match us, hl with | [_], _ => rfl
  have D8 : Df K mg "_row_error" sRowError ["n", "i", "terms", "deep"] := df_mk X G a8 l8 c8 k8 fun _ _ _ _ _ _ us hl => match us, hl with | [_, _, _, _], _ => rfl
  have D9 : Df K mg "_law_deck" sDeck ["script"] := df_mk X G a9 l9 c9 k9 fun _ _ _ _ _ _ us hl => match us, hl with | [_], _ => rfl
  have D10 : Df K mg "_law_draw" sDraw ["deck", "many"] := df_mk X G a10 l10 c10 k10 fun _ _ _ _ _ _ us hl => match us, hl with | [_, _], _ => rfl
  have D11 : Df K mg "_law_pick" sPick ["deck", "items"] := df_mk X G a11 l11 c11 k11 fun _ _ _ _ _ _ us hl => match us, hl with | [_, _], _ => rfl
  have D12 : Df K mg "_law_mixed" sMixed ["deck", "items"] := df_mk X G a12 l12 c12 k12 fun _ _ _ _ _ _ us hl => match us, hl with | [_, _], _ => rfl
  have D13 : Df K mg "_law_deed" sDeed ["deck", "many"] := df_mk X G a13 l13 c13 k13 fun _ _ _ _ _ _ us hl => match us, hl with | [_, _], _ => rfl
  have D14 : Df K mg "_law_term" sLTerm ["deck", "many", "spot", "deep", "times"] := df_mk X G a14 l14 c14 k14 fun _ _ _ _ _ _ us hl => match us, hl with | [_, _, _, _, _], _ => rfl
  have D15 : Df K mg "_law_items" sLItems ["thing"] := df_mk X G a15 l15 c15 k15 fun _ _ _ _ _ _ us hl => match us, hl with | [_], _ => rfl
  have D16 : Df K mg "_law_program" sLProgram ["deck", "many", "most", "deep", "times"] := df_mk X G a16 l16 c16 k16 fun _ _ _ _ _ _ us hl => match us, hl with | [_, _, _, _, _], _ => rfl
  have D17 : Df K mg "_law_is_whole" sLIsWhole ["value", "low", "high"] := df_mk X G a17 l17 c17 k17 fun _ _ _ _ _ _ us hl => match us, hl with | [_, _, _], _ => rfl
  have D18 : Df K mg "_law_is_deed" sLIsDeed ["many", "value"] := df_mk X G a18 l18 c18 k18 fun _ _ _ _ _ _ us hl => match us, hl with | [_, _], _ => rfl
  have D19 : Df K mg "_law_fault" sLFault ["many", "spot", "value", "deep"] := df_mk X G a19 l19 c19 k19 fun _ _ _ _ _ _ us hl => match us, hl with | [_, _, _, _], _ => rfl
  have D20 : Df K mg "_law_program_due" sLProgramDue ["many", "value"] := df_mk X G a20 l20 c20 k20 fun _ _ _ _ _ _ us hl => match us, hl with | [_, _], _ => rfl
  have D21 : Df K mg "_law_nested" sLNested ["deck", "inner", "times"] := df_mk X G a21 l21 c21 k21 fun _ _ _ _ _ _ us hl => match us, hl with | [_, _, _], _ => rfl
  have D22 : Df K mg "_law_near_deed" sLNearDeed ["deck", "many", "deed"] := df_mk X G a22 l22 c22 k22 fun _ _ _ _ _ _ us hl => match us, hl with | [_, _, _], _ => rfl
  have D23 : Df K mg "_law_bad" sLBad ["deck", "many", "spot", "term"] := df_mk X G a23 l23 c23 k23 fun _ _ _ _ _ _ us hl => match us, hl with | [_, _, _, _], _ => rfl
  have D24 : Df K mg "_law_spoilt" sLSpoilt ["deck", "many", "spot", "term", "deep"] := df_mk X G a24 l24 c24 k24 fun _ _ _ _ _ _ us hl => match us, hl with | [_, _, _, _, _], _ => rfl
  have D25 : Df K mg "_law_edge" sLEdge ["deck", "many"] := df_mk X G a25 l25 c25 k25 fun _ _ _ _ _ _ us hl => match us, hl with | [_, _], _ => rfl
  have B : Bi mg := ⟨PySem.W.mg_none_of X G z1, PySem.W.mg_none_of X G z2, PySem.W.mg_none_of X G z3, PySem.W.mg_none_of X G z4, PySem.W.mg_none_of X G z5, PySem.W.mg_none_of X G z6, PySem.W.mg_none_of X G z7, PySem.W.mg_none_of X G z8, PySem.W.mg_none_of X G z9, PySem.W.mg_none_of X G z10, PySem.W.mg_none_of X G z11, PySem.W.mg_none_of X G z12, PySem.W.mg_none_of X G z13, PySem.W.mg_none_of X G z14, PySem.W.mg_none_of X G z15, PySem.W.mg_none_of X G z16, PySem.W.mg_none_of X G z17, PySem.W.mg_none_of X G z18, PySem.W.mg_none_of X G z19⟩
  refine ⟨PySem.W.fnOf "law" "law" (defArgs sLaw) (defBody sLaw) (defScope sLaw) .none kV26 dc26 pm26 an26 cd26 ct26, fun s v => .of_eq rfl, fun base _ _ => ?_⟩
  have hD : ∃ t, mg "MAX_DEEP" = some (.int 12 t) := ⟨_, PySem.W.mg_of X G md⟩
  have hM : ∃ t, mg "MAX_TIMES" = some (.int (10 ^ 30) t) := ⟨_, PySem.W.mg_of X G mm⟩
  have hT : ∃ t, mg "MAX_TERMS" = some (.int 400 t) := ⟨_, PySem.W.mg_of X G mt⟩
  have hW : PairW K mg := ⟨W, PySem.W.mg_of X G wa, fun H => .inr ⟨_, _, _, wl, rfl, rfl, by show 4 ≤ sizeLine; decide, .cons ⟨_, rfl⟩ (.cons ⟨_, rfl⟩ (.cons ⟨_, rfl⟩ (.cons ⟨_, rfl⟩ .nil)))⟩⟩
  have bt := o_between (P := l.prog) (w := w) (base := base) D1 B
  have tp := o_tupleOf (P := l.prog) (w := w) (base := base) D2 B
  have le := o_lotErr D3 B bt
  have de := o_deedErr D4 B tp bt le
  have hf := o_hasForm hW D7 B tp
  have te := o_termErrs hD hM hT D6 D8 B hf de bt 12
  have pe : OkN l.prog w K mg base 29 "program_error" ["n", "value"] ["value", "n"] (spErrV progErr) := D5.okN fun _ _ F => f_progErr hT F B te
  have dk := o_deck (P := l.prog) (w := w) (base := base) D9 B
  have dr := o_draw (P := l.prog) (w := w) (base := base) D10 B
  have pk := o_pick D11 B dr
  have mx := o_mixed D12 B dr
  have dd := o_deed7 D13 B dr mx pk
  have tm := o_lTerm7 D14 B dr dd pk 5
  have it := o_lItems (P := l.prog) (w := w) (base := base) D15 B 12
  have ig := o_lItemsG (P := l.prog) (w := w) (base := base) D15 B 40
  have pr := o_lProg7 D16 B dr tm it
  have wh := o_whole (P := l.prog) (w := w) (base := base) D17 B
  have isd := o_lIsDeed D18 B wh
  have lf := o_lFaults D19 B isd wh 12
  have du := o_lProgDue D20 B lf
  have ne := o_lNested D21 B pk
  have nr := o_lNear D22 B pk
  have ba := o_lBad D23 B dd nr pk
  have sp := o_lSpos D24 B dr ne ba 4 |>.mono (show 8 ≤ 9 by decide)
  have ed := o_lEdge D25 B dr dd ne ba pk
  exact ok_law (fun_mk (st := sLaw) l26 c26 k26) B dk dr pr sp ed ig pe du
end Kr
open PySem PySem.W PyProof.Rows
set_option maxHeartbeats 0 in
theorem PySem.Challenge.cw_keyriders_k06_what_are_programs_holds : PySem.Challenge.rw_keyriders_k06_what_are_programs.Holds := by
  w_on; o_law; k_head; (case hw => w_witness2)
  k_fill
  refine Kr.walkG (l := PySem.Challenge.rw_keyriders_k06_what_are_programs) (n := 63) (k := 60) (x := "script") (sp := Kr.spLaw) rfl (by decide) rfl ⟨rfl, by decide, by decide⟩ (fun w h Y => PySem.W.kIn_of Y) ?F (fun _ _ a ns hl _ hS => ⟨a, ns, rfl, hS, hl, fun _ => rfl⟩)
  case F =>
    intro w mg fa h KX G hmg
    refine' Kr.all_mk KX G hmg ?a1 ?l1 ?c1 ?k1 ?a2 ?l2 ?c2 ?k2 ?a3 ?l3 ?c3 ?k3 ?a4 ?l4 ?c4 ?k4 ?a5 ?l5 ?c5 ?k5 ?a6 ?l6 ?c6 ?k6 ?a7 ?l7 ?c7 ?k7 ?a8 ?l8 ?c8 ?k8 ?a9 ?l9 ?c9 ?k9 ?a10 ?l10 ?c10 ?k10 ?a11 ?l11 ?c11 ?k11 ?a12 ?l12 ?c12 ?k12 ?a13 ?l13 ?c13 ?k13 ?a14 ?l14 ?c14 ?k14 ?a15 ?l15 ?c15 ?k15 ?a16 ?l16 ?c16 ?k16 ?a17 ?l17 ?c17 ?k17 ?a18 ?l18 ?c18 ?k18 ?a19 ?l19 ?c19 ?k19 ?a20 ?l20 ?c20 ?k20 ?a21 ?l21 ?c21 ?k21 ?a22 ?l22 ?c22 ?k22 ?a23 ?l23 ?c23 ?k23 ?a24 ?l24 ?c24 ?k24 ?a25 ?l25 ?c25 ?k25 ?a26 ?l26 ?c26 ?k26 ?z1 ?z2 ?z3 ?z4 ?z5 ?z6 ?z7 ?z8 ?z9 ?z10 ?z11 ?z12 ?z13 ?z14 ?z15 ?z16 ?z17 ?z18 ?z19 ?md ?mm ?mt ?wa ?wl
    (case a1 => k_is); (case l1 => k_is); (case c1 => k_is); (case k1 => k_is); (case a2 => k_is); (case l2 => k_is); (case c2 => k_is); (case k2 => k_is); (case a3 => k_is); (case l3 => k_is); (case c3 => k_is); (case k3 => k_is); (case a4 => k_is); (case l4 => k_is); (case c4 => k_is); (case k4 => k_is); (case a5 => k_is); (case l5 => k_is); (case c5 => k_is); (case k5 => k_is); (case a6 => k_is); (case l6 => k_is); (case c6 => k_is); (case k6 => k_is); (case a7 => k_is); (case l7 => k_is); (case c7 => k_is); (case k7 => k_is); (case a8 => k_is); (case l8 => k_is); (case c8 => k_is); (case k8 => k_is); (case a9 => k_is); (case l9 => k_is); (case c9 => k_is); (case k9 => k_is); (case a10 => k_is); (case l10 => k_is); (case c10 => k_is); (case k10 => k_is); (case a11 => k_is); (case l11 => k_is); (case c11 => k_is); (case k11 => k_is); (case a12 => k_is); (case l12 => k_is); (case c12 => k_is); (case k12 => k_is); (case a13 => k_is); (case l13 => k_is); (case c13 => k_is); (case k13 => k_is); (case a14 => k_is); (case l14 => k_is); (case c14 => k_is); (case k14 => k_is); (case a15 => k_is); (case l15 => k_is); (case c15 => k_is); (case k15 => k_is); (case a16 => k_is); (case l16 => k_is); (case c16 => k_is); (case k16 => k_is); (case a17 => k_is); (case l17 => k_is); (case c17 => k_is); (case k17 => k_is); (case a18 => k_is); (case l18 => k_is); (case c18 => k_is); (case k18 => k_is); (case a19 => k_is); (case l19 => k_is); (case c19 => k_is); (case k19 => k_is); (case a20 => k_is); (case l20 => k_is); (case c20 => k_is); (case k20 => k_is); (case a21 => k_is); (case l21 => k_is); (case c21 => k_is); (case k21 => k_is); (case a22 => k_is); (case l22 => k_is); (case c22 => k_is); (case k22 => k_is); (case a23 => k_is); (case l23 => k_is); (case c23 => k_is); (case k23 => k_is); (case a24 => k_is); (case l24 => k_is); (case c24 => k_is); (case k24 => k_is); (case a25 => k_is); (case l25 => k_is); (case c25 => k_is); (case k25 => k_is); (case a26 => k_is); (case l26 => k_is); (case c26 => k_is); (case k26 => k_is); (case z1 => k_is); (case z2 => k_is); (case z3 => k_is); (case z4 => k_is); (case z5 => k_is); (case z6 => k_is); (case z7 => k_is); (case z8 => k_is); (case z9 => k_is); (case z10 => k_is); (case z11 => k_is); (case z12 => k_is); (case z13 => k_is); (case z14 => k_is); (case z15 => k_is); (case z16 => k_is); (case z17 => k_is); (case z18 => k_is); (case z19 => k_is); (case md => k_is); (case mm => k_is); (case mt => k_is); (case wa => k_is); (case wl => k_is)
