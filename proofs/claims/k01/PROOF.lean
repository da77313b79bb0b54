import PyProof.Rows.All
import Wide.All
import OpenK.AllK
import Wide.FinOn
import KE.GoesEnum
import HandS.ForMost
import HandS.Walk
import KE.KRevSl
import PyProof.ReprReads
import PyProof.ReprRoads
import HandS.IsInst
import HandS.Defaults
import HandS.TupAny
import HandS.TupMul
import PySem.Challenge.RW_keyriders_k01_what_are_lots_and_standing
import PyProof.ReprLen
import HandS.Conv
set_option Elab.async false
set_option linter.all false
set_option maxRecDepth 100000
set_option maxHeartbeats 4000000
namespace Kr
open PySem PySem.Spec PyProof.Rows L2
open AutoSeq1 (wpAny_loadPart')

theorem enum_new_tup (l : Addr) (items : Array Value) :
    Meets (Builtin.«enumerate.__new__» ⟨[.type "enumerate", .ref l], []⟩) (fun _ R s => s.heap.IsTuple l items ∧
      R (.ok (.ret (.ref (s.heap.push { cls := .type "tuple_iterator", data := .fields #[.ref l, .int 0 0] }).objs.size)))
        { s with heap := (s.heap.push { cls := .type "tuple_iterator", data := .fields #[.ref l, .int 0 0] }).push { cls := .type "enumerate", data := .fields #[.none, .bool false, .ref s.heap.objs.size, rawInt 0, .none, .none] } }) :=
  .of_wp fun prog w A R s h => by
    obtain ⟨hp, g, d, tk, os⟩ := s
    obtain ⟨hL, h⟩ := h
    have hsub := sub_enumerate
    wp_walk using wpAny_pyIter_tuple hL
    refine wpAny_stack_any fun st => wpAny_pure ?_
    split
    · rename_i c _ _ _ _ _
      cases (c == Value.type "enumerate")
      all_goals
        wp_walk using wpAny_pyIter_tuple hL
        exact ⟨_, rfl, h⟩
    · wp_walk using wpAny_pyIter_tuple hL
      exact ⟨_, rfl, h⟩

section
variable {prog : Program} {w : World} {A : Around} {E : Value → Shared → Prop} {s : Shared}
theorem enum_call_tup {l : Addr} {items : Array Value} {Q : Value → Shared → Prop} (hL : s.heap.IsTuple l items)
    (h : ∀ h', IsEnum h' (s.heap.objs.size + 1) s.heap.objs.size 0 .none → h'.IsTupleIter s.heap.objs.size l 0 → h'.objs.size = s.heap.objs.size + 2 →
      (∀ b o, s.heap.get? b = some o → h'.get? b = some o) → Q (.ref (s.heap.objs.size + 1)) { s with heap := h' }) :
    wpAny (model prog w) A (call (.type "enumerate") [.ref l]) Q E s := by
  refine callType_new F.called_enumerate (by decide) (F.typeCall_enumerate_1 _) (F.newCall_enumerate_1 _) (fun obj => F.args_object_init_2 obj _) F.entry_enumerate_new
    (enum_new_tup l items) ⟨hL, ?_⟩
  generalize hh1 : s.heap.push { cls := .type "tuple_iterator", data := .fields #[.ref l, .int 0 0] } = h1
  have hz : h1.objs.size = s.heap.objs.size + 1 := by rw [← hh1]; exact Heap.size_push ..
  have g1 : h1.get? s.heap.objs.size = some { cls := .type "tuple_iterator", data := .fields #[.ref l, .int 0 0] } := by rw [← hh1]; exact Heap.get?_push_size _ rfl
  have k1 : ∀ b o, s.heap.get? b = some o → h1.get? b = some o := fun b o e => by rw [← hh1]; exact Heap.get?_push_of_some _ e
  have he : IsEnum (h1.push { cls := .type "enumerate", data := .fields #[.none, .bool false, .ref s.heap.objs.size, rawInt 0, .none, .none] }) (s.heap.objs.size + 1) s.heap.objs.size 0 .none := by
    have q := Heap.get?_push_size h1 (o := { cls := .type "enumerate", data := .fields #[.none, .bool false, .ref s.heap.objs.size, rawInt 0, .none, .none] }) rfl
    rw [hz] at q
    exact q
  show _ ∧ _
  rw [hz]
  exact ⟨⟨_, he, rfl⟩, h _ he ⟨_, Heap.get?_push_of_some _ g1, rfl, rfl⟩ (by rw [Heap.size_push, hz]) fun b o x => Heap.get?_push_of_some _ (k1 b o x)⟩
end

/-- the tuple at a, each item in a new pair -/
def Itet (K : PySem.W.Frag) (a : Addr) : It :=
  ⟨fun i H => ∃ (xs : List V) (x : V), SqT K H a xs ∧ xs[i]? = some x,
    fun i H v H' => ∃ T x, v = .ref T ∧ H T = none ∧ H' = upd H T (.tup [.int (i : Nat), x]) ∧ ∀ xs, SqT K H a xs → xs[i]? = some x,
    fun i H => ∃ xs : List V, SqT K H a xs ∧ xs.length = i⟩
theorem tup_ne {h : Heap} {a it : Addr} {items : Array Value} {o : Obj} (p : IsTup h a items) (ho : h.get? it = some o) (hc : o.cls ≠ .type "tuple") : a ≠ it := fun z => by
  obtain ⟨u, hu, hcu, _⟩ := p
  rw [z, ho] at hu
  cases hu
  exact hc hcu
theorem turn_enumT {P : Program} {w : World} {K : PySem.W.Frag} {elts : List Expr} {kk : Nat} {tpos : Pos} (a e it : Addr) :
    Turn P w K (.Tuple elts kk tpos) (Itet K a) [e, it] e (fun i h => (∃ old, IsEnum h e it ((i : Nat) : Int) old) ∧ h.IsTupleIter it a i ∧ e ≠ it) where
  mem := by simp
  obj := fun i h st b hb => by
    obtain ⟨⟨old, he⟩, ⟨o, ho, hc, hd⟩, _⟩ := st
    rcases (show b = e ∨ b = it by simpa using hb) with z | z
    · rw [z]; exact ⟨_, he, fun v q => nomatch q⟩
    · rw [z]; exact ⟨o, ho, fun v q => by rw [hd] at q; cases q⟩
  keep := fun i h h' st k => let ⟨⟨old, he⟩, hi, hne⟩ := st; ⟨⟨old, k e (by simp) _ he⟩, hi.at fun o q => k it (by simp) o q, hne⟩
  item := by
    intro X hP hw hK hc i pins s σ H E I hf st hg
    subst hP hw hK
    obtain ⟨⟨old, he⟩, hit, hne⟩ := st
    obtain ⟨xs, x, hq, hx⟩ := hg
    obtain ⟨its, rv, p, hz⟩ := I.tuple hq
    obtain ⟨u, hu, ru⟩ := rv.get hx
    have hel : e < s.heap.objs.size := Heap.lt_size he
    have hil : it < s.heap.objs.size := by obtain ⟨_, q, _⟩ := hit; exact Heap.lt_size q
    have nai : a ≠ it := by
      obtain ⟨o, ho, hcl, _⟩ := id hit
      exact tup_ne p ho (by rw [hcl]; decide)
    have hlt : i < its.toArray.size := by
      rw [List.size_toArray]
      exact (List.getElem?_eq_some_iff.mp hu).1
    have nea : e ≠ a := fun z => tup_ne p he (by show Value.type "enumerate" ≠ Value.type "tuple"; decide) z.symm
    refine PySem.wpAny_pyNext_enum_itemC (Draws.tuple (A := X.A.in1) (I.ok.hd hc) it a nai its.toArray) he ⟨hit, p⟩ hlt hne (by simp [hne, nea]) fun y h' tk hy ho hst hT hsz hk => ?_
    have ey : y = u := by
      have : its.toArray[i]? = some y := hy
      rw [List.getElem?_toArray, hu] at this
      exact (Option.some.inj this).symm
    subst ey
    refine ⟨_, rfl, wpAny_letOwnedTupleGo_enum (s := { s with heap := h', toks := tk + 1 }) ho fun h'' he' sb => ?_⟩
    have hT2 : h''.get? s.heap.objs.size = some { cls := .type "tuple", data := .seq #[.int i tk, y] } := (sb.2 _ (Nat.ne_of_gt hel)).trans hT
    have new : ObjOk X.prog X.w (upd H s.heap.objs.size (.tup [.int (i : Nat), x])) h'' s.heap.objs.size (.tup [.int (i : Nat), x]) :=
      ⟨by show 2 ≤ sizeLine; decide, [.int i tk, y], .cons ⟨_, rfl⟩ (.cons ru .nil), ⟨_, hT2, rfl, _, rfl⟩⟩
    have I1 : Inv X pins σ (upd H s.heap.objs.size (.tup [.int (i : Nat), x])) { s with heap := h'', toks := tk + 1 } :=
      I.turnedNew (ch := [e, it]) (fun b ob hb q => (sb.2 b (fun z => hb (by simp [z]))).trans (hk b ob (fun z => hb (by simp [z])) (fun z => hb (by simp [z])) q)) hf (Nat.le_refl _) new
    refine ⟨.ref s.heap.objs.size, _, I1, rfl, ⟨_, x, rfl, I.hok.fresh (Nat.le_refl _), rfl, fun ys hy => by rw [I.tuple_inj hy hq]; exact hx⟩, ⟨⟨y, ?_⟩, hst.1.at fun o q => (sb.2 it (Ne.symm hne)).trans q, hne⟩, fun b hb => ?_⟩
    · rw [show ((i + 1 : Nat) : Int) = (i : Int) + 1 by omega]
      exact he'
    · have hb' : b < s.heap.objs.size := by
        rcases (show b = e ∨ b = it by simpa using hb) with z | z
        · rw [z]; exact hel
        · rw [z]; exact hil
      rw [upd_ne (Nat.ne_of_lt hb')]
      exact (hf b hb).1
  done := by
    intro X hP hw hK hc i pins s σ H E I hf st hg
    subst hP hw hK
    obtain ⟨⟨old, he⟩, hit, hne⟩ := st
    obtain ⟨xs, hq, hx⟩ := hg
    obtain ⟨its, rv, p, hz⟩ := I.tuple hq
    obtain ⟨f0, f1, f2, f3, f4, f5⟩ := hf it (by simp)
    have nai : a ≠ it := by
      obtain ⟨o, ho, hcl, _⟩ := id hit
      exact tup_ne p ho (by rw [hcl]; decide)
    have ez : its.toArray.size = i := by
      rw [List.size_toArray, ← rv.length, hx]
    refine PySem.wpAny_pyNext_enum_endD (Draws.tuple (A := X.A.in1) (I.ok.hd hc) it a nai its.toArray) he ?_ fun h' eb => ⟨rfl, I.turned (t' := s.toks) (fun b o hb q => eb b o hb q) f0 f1 f3 f4 f5⟩
    rw [ez]
    exact ⟨hit, p⟩
  self := fun A i s Q E st h => let ⟨⟨_, he⟩, _⟩ := st; wpAny_pyIter_enum he h
def iEnumT (K : PySem.W.Frag) (ta : TA) : TI := fun σ H R => ta σ H fun vs H1 => ∃ a xs, vs = [.ref a] ∧ SqT K H1 a xs ∧ R (Itet K a) H1
theorem pi_enumT {X : Cx} {e : Expr} {ta : TA} {p pos tpos : Pos} {elts : List Expr} {kk : Nat} (hg : Gl X "enumerate") (hm : X.mg "enumerate" = none) (ha : PA X [e] ta) (hs : starEach [e] X.env = [(false, eval e X.env)] := by rfl) :
    PI X (.Tuple elts kk tpos) (.Call (.Name "enumerate" p) [e] [] pos) (iEnumT X.K ta) := by
  refine ⟨fun pins s σ H R I h => Call_ (ld_blt I hg hm boot_enumerate (PyProof.Rows.callWith_type1 (thn (ha.run pos pins s σ H _ I h) fun us s1 ⟨vs, H1, I1, r1, q1⟩ => ?_) hs rfl))⟩
  obtain ⟨a, xs, rfl, hq, q⟩ := q1
  obtain rfl := Vals.ref1 r1
  obtain ⟨its, rv, p', hz⟩ := I1.tuple hq
  refine enum_call_tup p' fun h' he hit hsz hk => wpAny_pyIter_enum he ?_
  have I2 : Inv X pins σ H1 { s1 with heap := h' } := I1.kept (t' := s1.toks) hk
  refine ⟨s1.heap.objs.size + 1, [s1.heap.objs.size + 1, s1.heap.objs.size], _, _, H1, rfl, I2, turn_enumT a (s1.heap.objs.size + 1) s1.heap.objs.size, ⟨⟨.none, he⟩, hit, Nat.succ_ne_self _⟩, fun b hb => ?_, q⟩
  have hle : s1.heap.objs.size ≤ b := by
    rcases (show b = s1.heap.objs.size + 1 ∨ b = s1.heap.objs.size by simpa using hb) with z | z <;> rw [z]
    · exact Nat.le_succ _
    · exact Nat.le_refl _
  exact I1.fpOk hle (I1.hok.fresh hle)

theorem walk_enumT {K : PySem.W.Frag} {a : Addr} {xs : List V} : Walk (Itet K a) xs.length (fun H => SqT K H a xs) (YPair (fun i => some (.int (i : Nat))) (fun i => xs[i]?)) := by
  refine ⟨fun i _ hi q => ⟨xs, xs[i], q, List.getElem?_eq_getElem hi⟩, fun _ q => ⟨xs, q, rfl⟩, fun i H v H' _ q y => ?_⟩
  obtain ⟨T, x, e1, e2, e3, e4⟩ := y
  exact ⟨T, _, x, e1, e2, e3, rfl, e4 xs q⟩
end Kr

namespace Kr
open PySem PySem.Spec PyProof.Rows L2 HT
theorem adj_rev (n : Nat) : Builtin.Slice.sliceAdjust none none (-1) (n : Int) = ((n : Int) - 1, -1) := by
  unfold Builtin.Slice.sliceAdjust
  simp
theorem pla_rev (n : Nat) : Builtin.Slice.slicePlaces ((n : Int) - 1) (-1) (-1) = n := by
  unfold Builtin.Slice.slicePlaces
  simp
  omega
theorem pick_rev (xs : Array Value) : ((List.range xs.size).filterMap fun (m : Nat) => xs[(((xs.size : Nat) : Int) - 1 + (m : Int) * (-1)).toNat]?).toArray = xs.toList.reverse.toArray := by
  have e : (fun (m : Nat) => xs[(((xs.size : Nat) : Int) - 1 + (m : Int) * (-1)).toNat]?) = (fun k => xs[k]?) ∘ fun (m : Nat) => xs.size - 1 - m := by
    funext m
    show _ = xs[xs.size - 1 - m]?
    rw [show (((xs.size : Nat) : Int) - 1 + (m : Int) * (-1)).toNat = xs.size - 1 - m by omega]
  rw [e, ← List.filterMap_map, PySem.W.krv_range, List.filterMap_reverse, PySem.W.krv_all]
section
variable {prog : Program} {w : World} {A : Around} {E : Value → Shared → Prop} {s : Shared}
theorem applied_rev {sl : Addr} {vk : Value} {n : Nat} {Q : Int × Int × Nat → Shared → Prop} (hs : s.heap.IsSliceOf sl .none .none vk) (pk : IsPart vk (some (-1)))
    (h : Q ((n : Int) - 1, -1, n) s) : wpAny (model prog w) A (Builtin.Slice.sliceApplied (.ref sl) (pure (n : Int))) Q E s := by
  obtain ⟨os, hos, hcs, hds⟩ := id hs
  unfold Builtin.Slice.sliceApplied Builtin.Slice.sliceFields
  refine wpAny_bind (wpAny_bind (wpAny_field hos hds (x := .none) rfl (wpAny_bind (wpAny_field hos hds (x := .none) rfl (wpAny_bind (wpAny_field hos hds (x := vk) rfl (wpAny_pure ?_)))))))
  refine wpAny_bind (slicePart_ pk ?_)
  show wpAny _ _ (if ((-1 : Int) == 0) = true then _ else _) _ _ s
  rw [if_neg (by decide)]
  refine wpAny_bind (slicePart_none (wpAny_bind (slicePart_none (wpAny_bind (wpAny_pure ?_)))))
  show wpAny _ _ (match Builtin.Slice.sliceAdjust none none (-1) (n : Int) with | (lo, hi) => pure (lo, (-1 : Int), Builtin.Slice.slicePlaces lo hi (-1))) _ _ s
  rw [adj_rev n]
  show wpAny _ _ (pure ((n : Int) - 1, (-1 : Int), Builtin.Slice.slicePlaces ((n : Int) - 1) (-1) (-1))) _ _ s
  rw [pla_rev]
  exact wpAny_pure h
theorem tuple_rev {t sl : Addr} {items : Array Value} {vk : Value} {Q : Value → Shared → Prop} (ht : IsTup s.heap t items) (hs : s.heap.IsSliceOf sl .none .none vk) (pk : IsPart vk (some (-1)))
    (h : Q (.ref s.heap.objs.size) { s with heap := s.heap.push { cls := .type "tuple", data := .seq items.toList.reverse.toArray } })
    (hsz : items.size ≤ sizeLine) : wpAny (model prog w) A (getItem (.ref t) (.ref sl)) Q E s := by
  have hok : sizeOk (.seq items.toList.reverse.toArray) := by
    show items.toList.reverse.toArray.size ≤ sizeLine
    rw [List.size_toArray, List.length_reverse, Array.length_toList]
    exact hsz
  obtain ⟨os, hos, hcs, hds⟩ := id hs
  have hTs : s.TypeIs (.ref sl) "slice" := ⟨os, hos, hcs⟩
  unfold getItem
  try with_reducible refine wpAny_holding ?_
  first | refine wpAny_bind (wpAny_pure ?_) | skip
  refine wpAny_bind (wpAny_sequenceKey ht.typeIs (by decide) ?_)
  refine wpAny_bind (wpAny_callSpecial?_slot (name := Str.ofString "__getitem__") ht.typeIs PyProof.Rows.slot_tuple_getitem
    (wpAny_call_entry PyProof.Rows.slot_tuple_getitem ht.typeIs entry_tuple_getitem ?_ (args_tuple_getitem _ _)))
  show wpAny _ _ (Builtin.Tuple.tupleItemsOf (.ref t) >>= _) _ _ s
  refine wpAny_bind (tupleItemsOf_ ht (wpAny_bind (wpAny_typeOf hTs ?_)))
  rw [if_pos (by decide)]
  refine wpAny_bind (applied_rev hs pk ?_)
  have hno : ¬ (((((items.size : Nat) : Int) - 1) == 0 && (-1 : Int) == 1 && items.size == items.size) = true) := by
    rw [show ((-1 : Int) == 1) = false by decide, Bool.and_false, Bool.false_and]
    exact Bool.false_ne_true
  show wpAny _ _ (if ((((items.size : Nat) : Int) - 1) == 0 && (-1 : Int) == 1 && items.size == items.size) = true then _ else _) _ _ s
  rw [if_neg hno, pick_rev]
  first
    | exact wpAny_bind (wpAny_bind (m := Builtin.Tuple.tupleExact _) (wpAny_newObj_type (wpAny_pure ⟨_, rfl, wpAny_pure h⟩) hok))
    | exact wpAny_bind (m := Builtin.Tuple.tupleExact _) (wpAny_newObj_type (wpAny_pure ⟨_, rfl, wpAny_pure h⟩) hok)
    | exact wpAny_bind (m := Builtin.Tuple.tupleExact _) (wpAny_newObj_type (wpAny_bind (wpAny_pure (wpAny_pure ⟨_, rfl, wpAny_pure h⟩))) hok)
    | exact wpAny_bind (wpAny_bind (m := Builtin.Tuple.tupleExact _) (wpAny_newObj_type (wpAny_pure (wpAny_pure ⟨_, rfl, wpAny_pure h⟩)) hok))
end
section
variable {X : Cx}
/-- t[::-1] of a tuple -/
def tRevT (K : PySem.W.Frag) (te : TE) : TE := fun σ H Q => te σ H fun x H1 => ∃ a xs, x = .ref a ∧ SqT K H1 a xs ∧ ∀ p, H1 p = none → Q (.ref p) (upd H1 p (.tup xs.reverse))
theorem pe_revT {e : Expr} {te : TE} {k : Nat} {p1 p2 p3 pos : Pos} (he : PE X e te) : PE X (.Subscript e (.Slice none none (some (.UnaryOp .USub (.Constant (.int 1) k p1) p2)) p3) pos) (tRevT X.K te) := by
  refine ⟨fun pins s σ H Q I h => Subscript_ (thn (he.run pins s σ H _ I h) fun v s1 ⟨x, H1, I1, r1, q1⟩ => ?_)⟩
  obtain ⟨a, xs, rfl, hx, q⟩ := q1
  cases r1
  have hst : PO X (some (.UnaryOp .USub (.Constant (.int 1) k p1) p2)) (tPart (tUn (rU fun i => .int (-i)) (tC (.int 1)))) := po_some (pe_un un_neg pe_int)
  refine wpAny_Slice (thn (po_none.run pins s1 σ H1 (fun o H2 => o = none ∧ H2 = H1) I1 ⟨rfl, rfl⟩) fun vl s2 ⟨l, H2, I2, pl, el, e2⟩ => ?_)
  subst el e2
  refine thn (po_none.run pins s2 σ H2 (fun o H3 => o = none ∧ H3 = H2) I2 ⟨rfl, rfl⟩) fun vu s3 ⟨u, H3, I3, pu, eu, e3⟩ => ?_
  subst eu e3
  refine thn (hst.run pins s3 σ H3 (fun o H4 => o = some (-1) ∧ H4 = H3) I3 ⟨1, rfl, -1, rfl, rfl, rfl⟩) fun vs s4 ⟨o, H4, I4, ps, eo, e4⟩ => ?_
  subst eo e4
  cases pl
  cases pu
  have I5 : Inv X pins σ H4 { s4 with heap := s4.heap.push { cls := .type "slice", data := .fields #[.none, .none, vs] } } := I4.kept (t' := s4.toks) fun b ob q => Heap.get?_push_of_some _ q
  obtain ⟨its, r, ht, hz⟩ := I5.tuple hx
  have hlen := r.length
  show wpAny (model X.prog X.w) X.A (subscriptTail e (.Slice none none (some (.UnaryOp .USub (.Constant (.int 1) k p1) p2)) p3) (.ref a) (.ref s4.heap.objs.size)) (EP X pins σ Q) X.xe { s4 with heap := s4.heap.push { cls := .type "slice", data := .fields #[.none, .none, vs] } }
  refine tail_any (ops := [.ref a, .ref s4.heap.objs.size]) ht.typeIs (PyProof.Rows.slot_tuple_getitem.lookup) ?_ (by with_unfolding_all rfl)
  refine tuple_rev ht (Heap.IsSliceOf.new _ .none .none vs) ps ?_ (by rw [List.size_toArray]; omega)
  refine ⟨.ref _, _, I5.laid (t' := s4.toks) (o := .tup xs.reverse) (fun b ob q => Heap.get?_push_of_some _ q) (Nat.le_refl _) ?_, rfl, q _ (I5.hok.fresh (Nat.le_refl _))⟩
  exact ⟨by rw [List.length_reverse]; exact hz, _, r.reverse, IsTup.new _ _⟩
end
end Kr

namespace Kr
open PySem PySem.Spec PyProof.Rows L2
/-! ### data over the abstract heap: None, bools, ints, texts, lists, tuples, {} -/
mutual
inductive Dq (H : Hp) : V → PyData → Prop
  | non : Dq H .non .none
  | bl (b : Bool) : Dq H (.bl b) (.bool b)
  | int (i : Int) : Dq H (.int i) (.int i)
  | str (x : Str) : Dq H (.str x) (.str x)
  | lst {a : Addr} {xs : List V} {ds : List PyData} (e : H a = some (.lst xs)) (q : DqA H xs ds) : Dq H (.ref a) (.list ds)
  | tup {a : Addr} {xs : List V} {ds : List PyData} (e : H a = some (.tup xs)) (q : DqA H xs ds) : Dq H (.ref a) (.tuple ds)
  | dic {a : Addr} (e : H a = some (.dK [])) : Dq H (.ref a) (.dict [])
inductive DqA (H : Hp) : List V → List PyData → Prop
  | nil : DqA H [] []
  | cons {v : V} {vs : List V} {d : PyData} {ds : List PyData} (h : Dq H v d) (t : DqA H vs ds) : DqA H (v :: vs) (d :: ds)
end
mutual
theorem Dq.up {H H' : Hp} (s : Same H H') : ∀ {v : V} {d : PyData}, Dq H v d → Dq H' v d
  | _, _, .non => .non
  | _, _, .bl b => .bl b
  | _, _, .int i => .int i
  | _, _, .str x => .str x
  | _, _, .lst e q => .lst (s _ _ e) (DqA.up s q)
  | _, _, .tup e q => .tup (s _ _ e) (DqA.up s q)
  | _, _, .dic e => .dic (s _ _ e)
theorem DqA.up {H H' : Hp} (s : Same H H') : ∀ {vs : List V} {ds : List PyData}, DqA H vs ds → DqA H' vs ds
  | _, _, .nil => .nil
  | _, _, .cons h t => .cons (Dq.up s h) (DqA.up s t)
end
theorem DqA.len {H : Hp} : ∀ {vs : List V} {ds : List PyData}, DqA H vs ds → vs.length = ds.length
  | _, _, .nil => rfl
  | _, _, .cons _ t => by rw [List.length_cons, List.length_cons, DqA.len t]
theorem DqA.get {H : Hp} : ∀ {vs : List V} {ds : List PyData} {i : Nat} {v : V}, DqA H vs ds → vs[i]? = some v → ∃ d, ds[i]? = some d ∧ Dq H v d
  | _, _, _, _, .nil, e => by simp at e
  | _, _, 0, _, .cons h _, e => by
    simp at e
    subst e
    exact ⟨_, rfl, h⟩
  | _, _, i + 1, _, .cons _ t, e => by
    obtain ⟨d, h1, h2⟩ := DqA.get (i := i) t (by simpa using e)
    exact ⟨d, by simpa using h1, h2⟩
theorem DqA.app {H : Hp} : ∀ {vs us : List V} {ds es : List PyData}, DqA H vs ds → DqA H us es → DqA H (vs ++ us) (ds ++ es)
  | _, _, _, _, .nil, q => q
  | _, _, _, _, .cons h t, q => .cons h (DqA.app t q)
theorem DqA.take {H : Hp} : ∀ {vs : List V} {ds : List PyData} (n : Nat), DqA H vs ds → DqA H (vs.take n) (ds.take n)
  | _, _, 0, _ => .nil
  | _, _, _ + 1, .nil => .nil
  | _, _, n + 1, .cons h t => .cons h (DqA.take n t)
theorem DqA.drop {H : Hp} : ∀ {vs : List V} {ds : List PyData} (n : Nat), DqA H vs ds → DqA H (vs.drop n) (ds.drop n)
  | _, _, 0, q => q
  | _, _, _ + 1, .nil => .nil
  | _, _, n + 1, .cons _ t => DqA.drop n t
theorem DqA.set {H : Hp} {v : V} {d : PyData} (q : Dq H v d) : ∀ {vs : List V} {ds : List PyData} (i : Nat), DqA H vs ds → DqA H (vs.set i v) (ds.set i d)
  | _, _, _, .nil => .nil
  | _, _, 0, .cons _ t => .cons q t
  | _, _, i + 1, .cons h t => .cons h (DqA.set q i t)
theorem DqA.one {H : Hp} {v : V} {d : PyData} (q : Dq H v d) : DqA H [v] [d] := .cons q .nil
theorem DqA.rev {H : Hp} : ∀ {vs : List V} {ds : List PyData}, DqA H vs ds → DqA H vs.reverse ds.reverse
  | _, _, .nil => .nil
  | _, _, .cons h t => by
    rw [List.reverse_cons, List.reverse_cons]
    exact DqA.app (DqA.rev t) (.one h)
theorem DqA.ints {H : Hp} : ∀ ns : List Int, DqA H (ns.map V.int) (ns.map PyData.int)
  | [] => .nil
  | n :: r => .cons (.int n) (DqA.ints r)
theorem DqA.rep {H : Hp} {v : V} {d : PyData} (q : Dq H v d) : ∀ n : Nat, DqA H (List.replicate n v) (List.replicate n d)
  | 0 => .nil
  | n + 1 => .cons q (DqA.rep q n)
theorem Dq.tup_inv {H : Hp} {v : V} {ds : List PyData} (q : Dq H v (.tuple ds)) : ∃ a xs, v = .ref a ∧ H a = some (.tup xs) ∧ DqA H xs ds := by
  cases q with
  | tup e h => exact ⟨_, _, rfl, e, h⟩

/-! ### how long what is shown is -/
mutual
def big : PyData → Nat
  | .none | .bool _ => 5
  | .int i => (toString i : Str).length
  | .str x => (reprText x).length
  | .list xs | .tuple xs => bigA xs + 3
  | .dict _ => 2
def bigA : List PyData → Nat
  | [] => 0
  | x :: xs => big x + 2 + bigA xs
end

section
variable {X : Cx} {pins : List (Addr × Obj)} {σ : L2.St} {H : Hp} {s : Shared}
mutual
theorem Dq.reprs (I : Inv X pins σ H s) : ∀ (d : PyData) (v : V) (u : Value), Dq H v d → RelV v u → d.showable = true → d.shown.length ≤ sizeLine →
    ∃ as, Reads s.heap u d as ∧ ∃ bs, ReadAtMost s.heap d.depth bs ∧ ReprK X.prog X.w bs s.heap d.depth u d.shown
  | .none, _, _, h, r, _, _ => by
    cases h
    cases r
    exact ⟨_, .none, [], (fun _ h => nomatch h), by simp only [PyData.shown]; exact .of_is ReprIs.none _ _ _⟩
  | .bool b, _, _, h, r, _, _ => by
    cases h
    cases r
    exact ⟨_, .bool b, [], (fun _ h => nomatch h), by simp only [PyData.shown]; exact .of_is (ReprIs.bool b) _ _ _⟩
  | .int i, _, _, h, r, hs, _ => by
    cases h
    obtain ⟨t, rfl⟩ := r
    exact ⟨_, .int i t, [], (fun _ h => nomatch h), by simp only [PyData.shown]; exact .of_is (ReprIs.int t (by simpa [PyData.showable] using hs)) _ _ _⟩
  | .str x, _, _, h, r, _, hz => by
    cases h
    obtain ⟨t, rfl⟩ := r
    exact ⟨_, .str x t, [], (fun _ h => nomatch h), by simp only [PyData.shown]; exact .of_is (ReprIs.str x t (by simpa only [PyData.shown] using hz)) _ _ _⟩
  | .list ds, _, _, h, r, hs, hz => by
    cases h with
    | @lst a xs _ e ha =>
      cases r
      have hz' : (listText (PyData.shownAll ds)).length ≤ sizeLine := by simpa only [PyData.shown] using hz
      obtain ⟨its, rv, ⟨o, n, ho, hc, _, hd⟩, _⟩ := I.list (SqL.of (K := X.K) e)
      obtain ⟨as, hr, bs, hb, hk⟩ := DqA.reprs I ds _ its ha rv (by simpa [PyData.showable] using hs) fun t ht => Nat.le_trans (listText_mem_le ht) hz'
      have rd : Reads s.heap (.ref a) (.list ds) _ := .list ho hc hd hr
      have hna : a ∉ bs := not_mem_of_deeper rd (by simp only [PyData.depth]; omega) hb
      refine ⟨_, rd, a :: bs, ReadAtMost.cons rd (by simp only [PyData.depth]; omega) hb, ?_⟩
      simp only [PyData.depth, PyData.shown]
      cases its with
      | nil =>
        cases hr
        simp only [PyData.shownAll, listText_nil]
        exact ReprK.listEmpty ho hc hd
      | cons y l => exact ReprK.list ho hc hd hna (by simpa using hk.length_eq) (fun i y e => hk.item i y (by simpa using e))
  | .tuple ds, _, _, h, r, hs, hz => by
    cases h with
    | @tup a xs _ e ha =>
      cases r
      have hz' : (tupleText (PyData.shownAll ds)).length ≤ sizeLine := by simpa only [PyData.shown] using hz
      obtain ⟨its, rv, ⟨o, ho, hc, n, hd⟩, _⟩ := I.tuple (SqT.of (K := X.K) e)
      obtain ⟨as, hr, bs, hb, hk⟩ := DqA.reprs I ds _ its ha rv (by simpa [PyData.showable] using hs) fun t ht => Nat.le_trans (tupleText_mem_le ht) hz'
      have rd : Reads s.heap (.ref a) (.tuple ds) _ := .tuple ho hc hd hr
      have hna : a ∉ bs := not_mem_of_deeper rd (by simp only [PyData.depth]; omega) hb
      refine ⟨_, rd, a :: bs, ReadAtMost.cons rd (by simp only [PyData.depth]; omega) hb, ?_⟩
      simp only [PyData.depth, PyData.shown]
      exact ReprK.tuple ho hc hd hna (by simpa using hk)
  | .dict kv, _, _, h, r, _, _ => by
    cases h with
    | @dic a e =>
      cases r
      obtain ⟨_, hsys, vs, rel, o, es, ep, ho, hx, hd, _, hp, _⟩ := I.hok a _ e
      cases rel
      have hes : es = #[] := by
        obtain ⟨l⟩ := es
        have : l = [] := by
          cases l with
          | nil => rfl
          | cons y l => exact nomatch hp
        rw [this]
      subst hes
      have rd : Reads s.heap (.ref a) (.dict []) _ := .dict ho hx.1 hd .nil .nil
      refine ⟨_, rd, [a], ReadAtMost.cons rd (Nat.zero_le _) (fun _ h => nomatch h), ?_⟩
      have := ReprK.dict (prog := X.prog) (w := X.w) (as := []) (d := 0) ho hx.1 hd hsys (fun h => nomatch h) .nil
      simpa only [PyData.depth, PyData.depthKv, PyData.shown, PyData.shownKv] using this
theorem DqA.reprs (I : Inv X pins σ H s) : ∀ (ds : List PyData) (vs : List V) (us : List Value), DqA H vs ds → Vals vs us → PyData.showableAll ds = true → (∀ t ∈ PyData.shownAll ds, t.length ≤ sizeLine) →
    ∃ as, ReadsAll s.heap us ds as ∧ ∃ bs, ReadAtMost s.heap (PyData.depthAll ds) bs ∧ ReprAllK X.prog X.w bs s.heap (PyData.depthAll ds) us (PyData.shownAll ds)
  | [], _, _, h, r, _, _ => by
    cases h
    cases r
    exact ⟨_, .nil, [], (fun _ h => nomatch h), by simp only [PyData.shownAll]; exact .nil⟩
  | d :: ds, _, _, h, r, hs, hz => by
    cases h with
    | cons h1 h2 =>
      cases r with
      | cons r1 r2 =>
        have hs' : d.showable = true ∧ PyData.showableAll ds = true := by simpa [PyData.showableAll] using hs
        obtain ⟨as, q1, b1, hb1, k1⟩ := Dq.reprs I d _ _ h1 r1 hs'.1 (hz _ (by simp only [PyData.shownAll]; exact List.mem_cons_self ..))
        obtain ⟨cs, q2, b2, hb2, k2⟩ := DqA.reprs I ds _ _ h2 r2 hs'.2 (fun t ht => hz t (by simp only [PyData.shownAll]; exact List.mem_cons_of_mem _ ht))
        refine ⟨_, .cons q1 q2, b1 ++ b2, ?_, ?_⟩
        · simp only [PyData.depthAll]
          exact (hb1.mono (Nat.le_max_left _ _)).append (hb2.mono (Nat.le_max_right _ _))
        · simp only [PyData.depthAll, PyData.shownAll]
          exact .cons ((k1.more fun b hb => List.mem_append_left _ hb).level_le (Nat.le_max_left _ _)) (k2.more_le (fun b hb => List.mem_append_right _ hb) (Nat.le_max_right _ _))
end
end

/-- repr(x) of data, where no repr is under way -/
def rRepr : List V → Hp → VK → Prop := fun xs H Q => ∃ v d, xs = [v] ∧ Dq H v d ∧ d.showable = true ∧ d.depth ≤ 40 ∧ d.shown.length ≤ sizeLine ∧ Q (.str d.shown) H
theorem call_repr {X : Cx} (hg : X.A.guards = some []) (hu : X.A.units + 64 < cLine) : CallR X (.builtin "repr") rRepr := by
  intro pins s σ H xs us Q I r h
  obtain ⟨v, d, rfl, hd, hs, hdep, hz, q⟩ := h
  obtain ⟨u, rfl, r1⟩ : ∃ u, us = [u] ∧ RelV v u := by
    cases r with
    | cons a b =>
      cases b
      exact ⟨_, rfl, a⟩
  have fin : ∀ (h' : Heap) (t : Tok) (tk : Nat), (∀ b o, s.heap.get? b = some o → h'.get? b = some o) → EP X pins σ Q (.str d.shown t) { s with heap := h', toks := tk } :=
    fun h' t tk hk => ⟨.str d.shown, H, I.kept (t' := tk) hk, ⟨t, rfl⟩, q⟩
  cases hd with
  | non =>
    simp only [PyData.shown] at fin
    cases r1
    exact PySem.P.repr_of_none (fin s.heap _ _ fun _ _ e => e)
  | bl b =>
    simp only [PyData.shown] at fin
    cases r1
    have := PySem.P.repr_of_bool (prog := X.prog) (w := X.w) (A := X.A) (E := X.xe) (b := b) (s := s) (Q := EP X pins σ Q)
    refine this ?_
    have f := fin s.heap s.toks (s.toks + 1) fun _ _ e => e
    cases b <;> exact f
  | int i =>
    simp only [PyData.shown] at fin
    obtain ⟨t, rfl⟩ := r1
    exact PySem.P.repr_of_int (by simpa [PyData.showable] using hs) (fin s.heap _ _ fun _ _ e => e)
  | str x =>
    simp only [PyData.shown] at fin hz
    obtain ⟨t, rfl⟩ := r1
    exact PySem.P.repr_of_str (fin s.heap _ _ fun _ _ e => e) hz
  | @lst a xs ds e ha =>
    obtain rfl : u = Value.ref a := r1
    simp only [PyData.depth] at hdep
    have hz' : (listText (PyData.shownAll ds)).length ≤ sizeLine := by simpa only [PyData.shown] using hz
    simp only [PyData.shown] at fin
    obtain ⟨its, rv, ⟨o, n, ho, hc, _, hd⟩, _⟩ := I.list (SqL.of (K := X.K) e)
    obtain ⟨as, hr, bs, hb, hk⟩ := DqA.reprs I ds _ its ha rv (by simpa [PyData.showable] using hs) fun t ht => Nat.le_trans (listText_mem_le ht) hz'
    have rd : Reads s.heap (.ref a) (.list ds) _ := .list ho hc hd hr
    have hna : a ∉ bs := not_mem_of_deeper rd (by simp only [PyData.depth]; omega) hb
    refine call_repr_slot (by omega) ⟨o, ho, hc⟩ F.slot_list_repr.toG ?_
    cases its with
    | nil =>
      cases hr
      have e0 : listText (PyData.shownAll []) = ("[]" : Str) := by simp only [PyData.shownAll, listText_nil]
      rw [e0] at fin
      exact call_list_repr_empty ⟨o, ho, hc⟩ ho hd ⟨_, _, rfl, fin s.heap _ _ fun _ _ e => e⟩
    | cons y l =>
      exact call_list_reprK ho hc hd hna (by simpa using hk.length_eq) (fun i y e => hk.item i y (by simpa using e)) hg (fun b _ => Clear.nil b) (by show X.A.units + 1 + _ < cLine; omega) (fun _ _ e => e) (fun h' t tk hk => ⟨_, _, rfl, fin h' t tk hk⟩) hz'
  | @tup a xs ds e ha =>
    obtain rfl : u = Value.ref a := r1
    simp only [PyData.depth] at hdep
    have hz' : (tupleText (PyData.shownAll ds)).length ≤ sizeLine := by simpa only [PyData.shown] using hz
    simp only [PyData.shown] at fin
    obtain ⟨its, rv, ⟨o, ho, hc, n, hd⟩, _⟩ := I.tuple (SqT.of (K := X.K) e)
    obtain ⟨as, hr, bs, hb, hk⟩ := DqA.reprs I ds _ its ha rv (by simpa [PyData.showable] using hs) fun t ht => Nat.le_trans (tupleText_mem_le ht) hz'
    have rd : Reads s.heap (.ref a) (.tuple ds) _ := .tuple ho hc hd hr
    have hna : a ∉ bs := not_mem_of_deeper rd (by simp only [PyData.depth]; omega) hb
    refine call_repr_slot (by omega) ⟨o, ho, hc⟩ F.slot_tuple_repr ?_
    exact call_tuple_reprK ho hc hd hna (by simpa using hk) hg (fun b _ => Clear.nil b) (by show X.A.units + 1 + _ < cLine; omega) (fun _ _ e => e) (fun h' t tk hk => ⟨_, _, rfl, fin h' t tk hk⟩) hz'
  | @dic a e =>
    obtain rfl : u = Value.ref a := r1
    obtain ⟨_, hsys, vs, rel, o, es, ep, ho, hx, hd, _, hp, _⟩ := I.hok a _ e
    cases rel
    have hes : es = #[] := by
      obtain ⟨l⟩ := es
      have : l = [] := by
        cases l with
        | nil => rfl
        | cons y l => exact nomatch hp
      rw [this]
    subst hes
    simp only [PyData.shown, PyData.shownKv] at fin hz
    refine call_repr_slot (by omega) ⟨o, ho, hx.1⟩ F.slot_dict_repr ?_
    exact call_dict_reprK (as := []) (d := 0) ho hx.1 hd hsys (fun h => nomatch h) .nil hg (fun b _ => Clear.nil b) (by show X.A.units + 1 + _ < cLine; omega) (fun _ _ e => e) (fun h' t tk hk => ⟨_, _, rfl, fin h' t tk hk⟩) hz
end Kr

namespace Kr
open PySem PySem.Spec PyProof.Rows L2
/-! ### defs that are called where no repr is under way -/
structure FnG (P : Program) (w : World) (K : PySem.W.Frag) (mg : Str → Option Value) (base : Heap) (CX : CXT) (k : Nat) (f : Addr) (fd : FuncData) (ps : List Str) (sp : Sp) : Prop where
  len : ∀ vs H Q E, sp vs H Q E → vs.length = ps.length
  run : ∀ (A : Around) (outer : List Env) (s : Shared) (H : Hp) (args : Args) (us : List Value) (vs : List V) (Q : VK) (E : XK), A.guards = some [] → Room k A → Env0 P w K mg base A outer s H → BindsTo s fd args (ps.zip us) → Vals vs us → sp vs H Q E →
    codeAny (model P w) A (.call (.ref f) args) (CR CX outer P w H s Q E) s
section
variable {P : Program} {w : World} {K : PySem.W.Frag} {mg : Str → Option Value} {base : Heap} {CX : CXT}
theorem FnG.mono {j k : Nat} {f : Addr} {fd : FuncData} {ps : List Str} {sp : Sp} (F : FnG P w K mg base CX j f fd ps sp) (h : j ≤ k) : FnG P w K mg base CX k f fd ps sp :=
  ⟨F.len, fun A outer s H args us vs Q E hg hr => F.run A outer s H args us vs Q E hg (hr.mono h)⟩
/-- by the body, as Fun.ok; the body is told that no repr is under way -/
theorem okG {x qual : Str} {st : Stmt} {f : Addr} {fd : FuncData} {N ps : List Str} {k : Nat} {sp : Sp} (F : Fun K x qual st f fd) (S : FnScope N ps (defScope st)) (len : ∀ vs H Q E, sp vs H Q E → vs.length = ps.length)
    (hbody : ∀ (cdv : Value) (A : Around) (outer : List Env) (s : Shared) (H : Hp) (vs : List V) (Q : VK) (E : XK), (A.deeper (envOfC qual (defScope st) s.heap.objs.size f cdv)).guards = some [] → Room k (A.deeper (envOfC qual (defScope st) s.heap.objs.size f cdv)) → sp vs H Q E →
      ∃ t, PSs (cxOf CX0 P w K mg base N qual (defScope st) f cdv A outer s H E).nox (defBody st) t ∧ t { nx := fun _ H' => Q .non H', rt := Q } (start N vs) H) : FnG P w K mg base CX0 (k + 1) f fd ps sp := by
  obtain ⟨oc, od, kV, doc, pm, an, cdv, ct, osl, rfl, lk, hcd⟩ := F.ex
  refine ⟨len, fun A outer s H args us vs Q E hg hr e0 hb r hsp => ?_⟩
  have KX : K.In s.heap := e0.mod.kin.keeps fun b o e => (e0.bs b o e).1
  have lim : s.heap.NoLimit := e0.mod.nolimit.keeps fun b o e => (e0.bs b o e).1
  refine codeAny_call_function hr.depth (KX _ _ lk) rfl S.co S.gen rfl (PySem.W.codeRec_of KX hcd) (hb _ _ _ _ ?_)
  have kinds : ∀ y ∈ ps.zip us, (defScope st).names.lookup y.1 = some .local ∨ ((defScope st).names.lookup y.1 = some .cell ∧ ((cellsFrom (s.heap.objs.size + 1) (defScope st).names []).lookup y.1).isSome = true) := by
    rintro ⟨n, v⟩ hy
    rcases S.par n (List.of_mem_zip hy).1 with q | q
    · exact .inl q
    · exact .inr ⟨q, PySem.W.cellsFrom_some _ _ _ (.inl q)⟩
  refine wpAny_newFunctionEnv_cells S.kind kinds fun env he s1 x => ?_
  subst he
  refine ⟨lim.keeps x.toInCall.keep, codeAny_func ?_⟩
  obtain ⟨t, ht, hq⟩ := hbody cdv A outer s H vs Q E (by first | exact hg | simpa [Around.deeper] using hg) (hr.deeper _) hsp
  have I : Inv (cxOf CX0 P w K mg base N qual (defScope st) f cdv A outer s H E) [] (start N vs) H s1 := inv_start S hr.hd e0 (len _ _ _ _ hsp) r x
  refine wpAny_mono (ht.nox.run [] s1 (start N vs) H _ I hq) (fun fl s' hs => ?_) fun e s' hs => hs
  cases fl with
  | ret u =>
    obtain ⟨v, σ', H', J, rv, q⟩ := hs
    exact ⟨v, H', J.os, J.bare, J.base, J.hok, rv, q⟩
  | next =>
    obtain ⟨σ', H', J, q⟩ := hs
    exact ⟨.non, H', J.os, J.bare, J.base, J.hok, rfl, q⟩
  | brk => exact hs.elim fun _ h => h.elim fun _ h => h.2.elim
  | cont => exact hs.elim fun _ h => h.elim fun _ h => h.2.elim
end
section
variable {X : Cx} {CX : CXT} {k : Nat} {f : Addr} {fd : FuncData} {ps : List Str} {sp : Sp} {dvs : List V} {ds : List Value} {E : XK} {x : Str} {p pos : Pos} {e : Expr} {es : List Expr} {t : TA}
/-- such a def's call, from a body of the same kind -/
theorem pe_callG (F : FnG X.prog X.w X.K X.mg X.base CX k f fd ps sp) (gd : X.A.guards = some []) (hr : Room k X.A) (hg : Gl X x) (hm : X.mg x = some (.ref f)) (hk : PySem.W.keepIn X.K (.ref f) = true) (hb : Binds X.K fd ps ds) (hd : Vals dvs ds) (hx : Passes CX X E)
    (ha : PA X (e :: es) t) (hdb : (x == ("__debug__" : Str)) = false := by decide) (he : starEach (e :: es) X.env = (false, eval e X.env) :: starEach es X.env := by rfl) (hpl : (backTo pos (starEach es X.env)).any (·.1) = false := by rfl) :
    PE X (.Call (.Name x p) (e :: es) [] pos) (tCall sp dvs E t) := by
  refine ⟨fun pins s σ H Q I h => wpAny_Call_Name_kw (ld_glob I hg hm ?_ hdb)⟩
  refine PySem.W.callWith_K (h₀ := X.base) I.ok.mod.kin hk (thn (ha.run pos pins s σ H _ I h) fun us s1 ⟨vs, H1, I1, r, q⟩ => ⟨I1.kIn, ?_⟩) he hpl
  have r2 : Vals (vs ++ dvs) (us ++ ds) := r.append hd
  have hl : (us ++ ds).length = ps.length := r2.length.symm.trans (F.len _ _ _ _ q)
  refine wpAny_call (codeAny_mono (F.run X.A X.stack s1 H1 ⟨us, []⟩ (us ++ ds) (vs ++ dvs) Q E gd hr I1.env0 (hb s1 us I1.kIn hl) r2 q) fun r s' hq => ?_)
  cases r with
  | error e => exact hx pins σ H1 s1 e s' I1 hq
  | ok fl =>
    cases fl with
    | ret u => exact I1.after hq
    | next => exact hq.elim
    | brk => exact hq.elim
    | cont => exact hq.elim
end

/-! ### the head: the law is called where nothing is under way -/
theorem law_callG {P : Program} {w : World} {K : PySem.W.Frag} {mg mb : Str → Option Value} {k : Nat} {fa a : Addr} {fd : FuncData} {x : Str} {sp : Sp} {s₁ : Shared} {vs : List Value} {ns : List Int}
    (KX : K.In s₁.heap) (hns : s₁.heap.Ns mainGlobals mg) (hb : s₁.heap.Ns builtinsNs mb) (hbb : ∀ x : Str, x ≠ "__name__" → mb x = bootBuiltins x) (hlim : s₁.heap.NoLimit) (hg : s₁.gens = #[])
    (ha : s₁.heap.get? a = some { cls := .type "list", data := .seq vs.toArray }) (hi : IntsAre vs ns) (hl : ns.length ≤ sizeLine) (hr : Room k callerA)
    (F : ∀ base : Heap, K.In base → base.Ns mainGlobals mg → FnG P w K mg base CX0 k fa fd [x] sp) (hbind : ∀ (s : Shared) (u : Value), BindsTo s fd ⟨[u], []⟩ [(x, u)])
    (hsp : ∀ H : Hp, Only H → SqL K H a (ns.map V.int) → sp [.ref a] H (fun v _ => v = .bl true) fun _ _ _ => False) :
    codeAny (model P w) callerA (.call (.ref fa) ⟨[.ref a], []⟩) (fun r s' => r = .ok (.ret (.bool true)) ∧ OldK s₁.heap s'.heap ∧ s'.os = s₁.os ∧ AllBare s'.gens) s₁ := by
  have rv := vals_ints hi
  have lenV := hi.length
  have step : ∀ H : Hp, Only H → SqL K H a (ns.map V.int) → HOk P w H s₁.heap → (∀ b, H b ≠ none → b = a) → (H a ≠ none → K.lookup a = none) →
      codeAny (model P w) callerA (.call (.ref fa) ⟨[.ref a], []⟩) (fun r s' => r = .ok (.ret (.bool true)) ∧ OldK s₁.heap s'.heap ∧ s'.os = s₁.os ∧ AllBare s'.gens) s₁ := by
    intro H hO hS hok only hK
    have free : ∀ {b : Addr} {o : Obj}, s₁.heap.get? b = some o → (b = a → H b = none) → (hidT s₁.heap H).get? b = some o := fun {b o} e n => hidT_get e (by
      cases q : H b with
      | none => rfl
      | some u => rw [n (only b (by rw [q]; simp))] at q; cases q)
    have ns2 : ∀ {b : Addr} {m : Str → Option Value}, s₁.heap.Ns b m → (hidT s₁.heap H).Ns b m := by
      rintro b m ⟨o, es, ep, e, d, r⟩
      refine ⟨o, es, ep, free e fun z => ?_, d, r⟩
      subst z
      rw [ha] at e
      cases e
      cases (show Data.seq vs.toArray _ = Data.dict es ep from d)
    have kin : K.In (hidT s₁.heap H) := fun b o e => free (KX b o e) fun z => by
      subst z
      cases q : H b with
      | none => rfl
      | some u => rw [hK (by rw [q]; simp)] at e; cases e
    have md : Mod K mg (hidT s₁.heap H) := ⟨kin, ns2 hns, ⟨mb, ns2 hb, hbb⟩, hlim.elim fun mc h => ⟨mc, ns2 h.1, h.2⟩⟩
    have e0 : Env0 P w K mg (hidT s₁.heap H) callerA [] s₁ H :=
      ⟨rfl, md, fun b o e => of_hidT e, Nat.le_of_eq (hidT_size _ _), trivial, fun b hb => absurd (show b ∈ ([] : List Addr) from hb) (by simp), hok, .of_eq hg⟩
    refine codeAny_mono ((F _ kin (ns2 hns)).run callerA [] s₁ H ⟨[.ref a], []⟩ [.ref a] [.ref a] _ _ rfl hr e0 (hbind s₁ (.ref a)) (.cons rfl .nil) (hsp H hO hS)) fun r s' h => ?_
    cases r with
    | error e => exact h.elim
    | ok fl =>
      cases fl with
      | next => exact h.elim
      | brk => exact h.elim
      | cont => exact h.elim
      | ret u =>
        obtain ⟨v, H', os, bare, un, hok', r', q⟩ := h
        obtain rfl : v = .bl true := q
        obtain rfl : u = Value.bool true := r'
        refine ⟨rfl, OldK.of_keep fun b o e => ?_, os, bare⟩
        rcases hO b with z | ⟨ob, xs, z⟩
        · exact un.keep b o e z (fun q => absurd (show b ∈ ([] : List Addr) from q) (by simp)) (by simp)
        · have e1 := (hok b _ z).1
          have e2 := (hok' b _ (un.frzs b ob _ z)).1
          rw [e] at e1
          cases e1
          exact e2
  cases hk : K.lookup a with
  | some o =>
    have e := KX a o hk
    rw [ha] at e
    cases e
    exact step (fun _ => none) (fun _ => .inl rfl) (.inr ⟨_, vs.toArray, _, hk, rfl, rfl, rfl, by rw [List.size_toArray, lenV]; exact hl, by simpa using rv⟩) (fun b u z => nomatch (show (none : Option HO) = some u from z)) (fun b z => absurd rfl z) fun z => absurd rfl z
  | none =>
    refine step (fun b => if b = a then some (.frz { cls := .type "list", data := .seq vs.toArray } (.lst (ns.map V.int))) else none) (fun b => ?_) (.inl (.inr ⟨_, if_pos rfl⟩)) (fun b u z => ?_) (fun b z => ?_) fun _ => hk
    · by_cases q : b = a
      · exact .inr ⟨_, _, if_pos q⟩
      · exact .inl (if_neg q)
    · by_cases q : b = a
      · cases (if_pos q).symm.trans z
        subst q
        exact ⟨ha, by rw [List.length_map]; exact hl, vs, _, rv, ha⟩
      · cases (if_neg q).symm.trans z
    · by_cases q : b = a
      · exact q
      · exact absurd (if_neg q) z
theorem walkG {l : PySem.W.OpenLaw} {n k : Nat} {q : Program} {loose : List Str} {XP : (Str → Option Value) → Heap → Prop} {YP : World → Heap → Prop} {d : DefRec} {K : Params → PySem.W.Frag} {sp : PySem.W.Frag → Sp} {x : Str}
    (hn : l.most = some n) (hn2 : n ≤ sizeLine) (hdf : d.params.defaults = []) (hr : Room k callerA) (hY : ∀ (w : World) (h : Heap), YP w h → (K w.params).In h)
    (F : ∀ (w : World) (mg : Str → Option Value) (fa : Addr) (h : Heap), (K w.params).In h → h.Ns mainGlobals mg → mg d.name = some (.ref fa) →
      ∃ fd : FuncData, (∀ (s : Shared) (u : Value), BindsTo s fd ⟨[u], []⟩ [(x, u)]) ∧ ∀ base : Heap, (K w.params).In base → base.Ns mainGlobals mg → FnG l.prog w (K w.params) mg base CX0 k fa fd [x] (sp (K w.params)))
    (hsp : ∀ (K : PySem.W.Frag) (H : Hp) (a : Addr) (ns : List Int), ns.length ≤ n → Only H → SqL K H a (ns.map V.int) → sp K [.ref a] H (fun v _ => v = .bl true) fun _ _ _ => False) :
    PySem.W.WalkO q loose XP YP l.row.toRowW d [] (fun f vs => PySem.call f vs) := by
  refine Att.attach_call hn hdf fun w s₀ s₁ mg mb fa o pm cd doc a vs ns G Y ho hd hcd hmg hobj hints hlen hg => ?_
  obtain ⟨fd, hb, hF⟩ := F w mg fa _ (hY w _ Y) G.T.g hmg
  exact law_callG (hY w _ Y) G.T.g G.T.b G.T.builtins G.T.nolimit hg hobj hints (Nat.le_trans hlen hn2) hr hF hb fun H hO hS => hsp _ H a ns hlen hO hS
end Kr

namespace Kr
open PySem PySem.Spec PyProof.Rows L2
/-- f(k = v, ..), names alone: how they bind -/
theorem kbn_of {K : PySem.W.Frag} {x qual : Str} {st : Stmt} {f : Addr} {fd : FuncData} {ps ks : List Str} (F : Fun K x qual st f fd) (g : {α : Type} → List α → List α)
    (hrel : ∀ {zs : List V} {ws : List Value}, Vals zs ws → Vals (g zs) (g ws))
    (h : ∀ (kV doc pm : Value) (an : Option Addr) (cdv ct : Value) (ws : List Value), ws.length = ks.length → bindArgs (PySem.W.fnOf x qual (defArgs st) (defBody st) (defScope st) .none kV doc pm an cdv ct) ⟨[], ks.zip ws⟩ = pure (ps.zip (g ws))) :
    KBn K fd ps 0 ks (fun _ ws => g ws) (fun _ zs => g zs) := by
  obtain ⟨oc, od, kV, doc, pm, an, cdv, ct, osl, rfl, lk, hcd⟩ := F.ex
  refine ⟨fun s us ws _ hu hw => ?_, fun _ r => hrel r⟩
  obtain rfl : us = [] := List.length_eq_zero_iff.mp hu
  exact .of_eq (h kV doc pm an cdv ct ws hw)
theorem vals_swap {zs : List V} {ws : List Value} (r : Vals zs ws) : Vals zs.reverse ws.reverse := r.reverse
section
variable {X : Cx} {CX : CXT} {k : Nat} {f : Addr} {fd : FuncData} {ps ks : List Str} {sp : Sp} {E : XK} {x : Str} {p pos : Pos} {kws : List Keyword} {tk : TA} {g : List Value → List Value → List Value} {gV : List V → List V → List V}
def tCallN (m : Nat) (sp : Sp) (gV : List V → List V → List V) (E : XK) (tk : TA) : TE := fun σ H Q => tk σ H fun zs H1 => zs.length = m ∧ sp (gV [] zs) H1 Q E
theorem pe_callN (F : FnOk X.prog X.w X.K X.mg X.base CX k f fd ps sp) (hr : Room k X.A) (hg : Gl X x) (hm : X.mg x = some (.ref f)) (hk : PySem.W.keepIn X.K (.ref f) = true) (hb : KBn X.K fd ps 0 ks g gV) (hx : Passes CX X E) (hkw : PK X kws tk)
    (hall : (backToKw pos (keywordEach kws X.env)).all (·.1.isSome) = true := by rfl) (hks : (backToKw pos (keywordEach kws X.env)).filterMap (·.1) = ks := by rfl) (hdb : (x == ("__debug__" : Str)) = false := by decide)
    (hpl : ((backTo pos (starEach [] X.env)).any (·.1) || (backToKw pos (keywordEach kws X.env)).any (·.1.isNone)) = false := by rfl) :
    PE X (.Call (.Name x p) [] kws pos) (tCallN ks.length sp gV E tk) := by
  refine ⟨fun pins s σ H Q I h => wpAny_Call_Name_kw (ld_glob I hg hm ?_ hdb)⟩
  refine PySem.W.callWith_KW0 (h₀ := X.base) I.ok.mod.kin hk hall ?_ hpl
  refine thn (hkw.run pos pins s σ H _ I h) fun ws s2 ⟨zs, H2, I2, rz, l2, q2⟩ => ⟨I2.kIn, ?_⟩
  rw [hks]
  have r2 := hb.rel .nil rz
  refine wpAny_call (codeAny_mono (F.run X.A X.stack s2 H2 ⟨[], ks.zip ws⟩ (g [] ws) (gV [] zs) _ E hr I2.env0 (hb.to s2 [] ws I2.kIn rfl (rz.length.symm.trans l2)) r2 q2) fun r s' hq => ?_)
  cases r with
  | error e => exact hx pins σ _ _ e s' I2 hq
  | ok fl =>
    cases fl with
    | ret u => exact I2.after hq
    | next => exact hq.elim
    | brk => exact hq.elim
    | cont => exact hq.elim
end
end Kr

namespace Kr
open PySem L2
def top (i : Nat) : Stmt := PySem.Challenge.pw_keyriders_k01_what_are_lots_and_standing.main.body.getD i (.Pass ⟨0, 0, 0, 0⟩)
abbrev sBetween : Stmt := top 2
abbrev sTupleOf : Stmt := top 3
abbrev sStandErr : Stmt := top 5
abbrev sKeys : Stmt := top 6
abbrev sLotErr : Stmt := top 8
abbrev sDeck : Stmt := top 10
abbrev sDraw : Stmt := top 11
abbrev sPick : Stmt := top 12
abbrev sMixed : Stmt := top 13
abbrev sStanding : Stmt := top 14
abbrev sWhole : Stmt := top 15
abbrev sLotDue : Stmt := top 16
abbrev sStandDue : Stmt := top 17
abbrev sOdd : Stmt := top 18
abbrev sSpoilt : Stmt := top 19
abbrev sLaw : Stmt := top 20
end Kr

namespace Kr
open PySem PySem.Spec PyProof.Rows L2
/-! ### the deck: a dict of a list and a number, apart from all else -/
def hid (p l : Addr) (H : Hp) : Hp := fun b => if b = p ∨ b = l then none else H b
theorem hid_ne {p l b : Addr} {H : Hp} (h1 : b ≠ p) (h2 : b ≠ l) : hid p l H b = H b := by
  unfold hid
  rw [if_neg (fun h => h.elim h1 h2)]
theorem hid_some {p l b : Addr} {H : Hp} {o : HO} (h : hid p l H b = some o) : b ≠ p ∧ b ≠ l ∧ H b = some o := by
  unfold hid at h
  by_cases e : b = p ∨ b = l
  · rw [if_pos e] at h
    cases h
  · rw [if_neg e] at h
    exact ⟨fun z => e (.inl z), fun z => e (.inr z), h⟩
theorem hid_same (p l : Addr) (H : Hp) : Same (hid p l H) H := fun _ _ h => (hid_some h).2.2
abbrev Ext (p l : Addr) (H H' : Hp) : Prop := Same (hid p l H) (hid p l H')
theorem Ext.of {p l : Addr} {H H' : Hp} (s : Same H H') : Ext p l H H' := fun b o h => by
  obtain ⟨h1, h2, h3⟩ := hid_some h
  rw [hid_ne h1 h2]
  exact s _ _ h3
theorem Ext.rfl {p l : Addr} {H : Hp} : Ext p l H H := Same.refl _
abbrev kD : Key := Sum.inr ("deep" : Str)
abbrev kS : Key := Sum.inr ("state" : Str)
theorem kDS : ¬ kD = kS := by
  intro z
  exact absurd (Sum.inr.inj z) (by decide +kernel)
def dkv (x y : V) : List (Key × V) := [(kD, x), (kS, y)]
theorem dkv_d (x y : V) : valV (dkv x y) kD = some x := valV_pos rfl
theorem dkv_s (x y : V) : valV (dkv x y) kS = some y := (valV_neg kDS).trans (valV_pos rfl)
theorem kds : ¬ ("deep" : Str) = "state" := by decide +kernel
theorem ksd : ¬ ("state" : Str) = "deep" := by decide +kernel
theorem dkv_pd (x y z : V) : putK (dkv x y) kD z = dkv z y := by
  simp [putK, dkv, kds, ksd]
theorem dkv_ps (x y z : V) : putK (dkv x y) kS z = dkv x z := by
  simp [putK, dkv, kds, ksd]
theorem dkv_m (x y : V) : mergeK [] [(kD, x), (kS, y)] = dkv x y := by
  simp [mergeK, putK, dkv, kds, ksd]
structure Deck (H : Hp) (p l : Addr) : Prop where
  ex : ∃ (ds : List Int) (st : Int), H p = some (.dK (dkv (.ref l) (.int st))) ∧ H l = some (.lst (ds.map V.int)) ∧ ds.length ≤ 63
theorem Deck.ne {H : Hp} {p l : Addr} (d : Deck H p l) : p ≠ l := by
  obtain ⟨ds, st, h1, h2, _⟩ := d.ex
  exact ne_of h1 h2 (by intro z; cases z)
theorem Deck.up {H H' : Hp} {p l : Addr} (d : Deck H p l) (s : Same H H') : Deck H' p l := by
  obtain ⟨ds, st, h1, h2, h3⟩ := d.ex
  exact ⟨ds, st, s _ _ h1, s _ _ h2, h3⟩
/-- a new object stands apart -/
theorem Deck.new {H : Hp} {p l q : Addr} (d : Deck H p l) (h : H q = none) : q ≠ p ∧ q ≠ l := by
  obtain ⟨ds, st, h1, h2, h3⟩ := d.ex
  exact ⟨(ne_of_none h1 h).symm, (ne_of_none h2 h).symm⟩
theorem same_new {H : Hp} {q : Addr} {o : HO} (h : H q = none) : Same H (upd H q o) := fun b x e => by
  rw [upd_ne (ne_of_none e h)]
  exact e
theorem hid_upd {H : Hp} {p l q : Addr} {o : HO} (h1 : q ≠ p) (h2 : q ≠ l) : hid p l (upd H q o) q = some o := by
  rw [hid_ne h1 h2, upd_same]
/-- the names of the built-ins are theirs -/
structure Bi (mg : Str → Option Value) : Prop where
  len : mg "len" = none
  abs : mg "abs" = none
  int : mg "int" = none
  bool : mg "bool" = none
  tuple : mg "tuple" = none
  list : mg "list" = none
  range : mg "range" = none
  enumerate : mg "enumerate" = none
  isinstance : mg "isinstance" = none
  repr : mg "repr" = none
theorem sz {n : Nat} (h : n ≤ 100000) : n ≤ sizeLine := Nat.le_trans h (by decide)
theorem szl {n : Nat} (h : n < 100000) : n < sizeLine := Nat.lt_of_lt_of_le h (by decide)
/-- two ways that meet again -/
theorem join2 {c A : Prop} [Decidable c] {G R : Hp → Prop} {H2 : Hp} (tail : ∀ H3, R H3 → G H3) (h2 : ¬ c → R H2) (h1 : c → (∀ H3, R H3 → G H3) → A) : if c then A else G H2 :=
  ite2 (fun h => h1 h tail) fun h => tail _ (h2 h)
def spDeck (K : PySem.W.Frag) : Sp := fun vs H Q _ => ∃ (a : Addr) (ns : List Int), vs = [.ref a] ∧ SqL K H a (ns.map V.int) ∧ ns.length ≤ 63 ∧ ∀ H' p l, Same H H' → H p = none → H l = none → Deck H' p l → Q (.ref p) H'
section
variable {P : Program} {w : World} {K : PySem.W.Frag} {mg : Str → Option Value} {base : Heap}
theorem scDeck : FnScope ["script", "deck", "cell", "whole", "state"] ["script"] (defScope sDeck) := ⟨rfl, rfl, rfl, by decide +kernel, rfl, by decide +kernel, by decide +kernel⟩
theorem ok_deck {f : Addr} {fd : FuncData} {k : Nat} (F : Fun K "_law_deck" "_law_deck" sDeck f fd) (B : Bi mg) : FnOk P w K mg base CX0 (k + 1) f fd ["script"] (spDeck K) := by
  refine F.ok scDeck (fun vs H Q E h => ?_) (fun cdv A outer s H vs Q E hr h => ?_)
  · obtain ⟨a, ns, rfl, _⟩ := h
    rfl
  · obtain ⟨a, ns, rfl, hS, hlen, q⟩ := h
    have hu := hu_of hr
    refine ⟨_, pss_cons (ps_set (i := 1) scDeck.nd rfl (.inl rfl) (pe_disp (pps_cons pe_str (pe_lst pa_nil) (pps_cons pe_str (pe_op op_add pe_int (pe_callB call_len_seq (by rfl) B.len boot_len (pa_cons (pe_slice sl_list (pv 0) po_none (po_some pe_int)) pa_nil))) pps_nil)) (by rfl) (by rfl) (fun z => by cases z) (by decide)))
      (pss_cons (ps_for PassesOwn.never rfl (pi_list (pe_slice sl_list (pv 0) po_none (po_some pe_int))) (pg_name (i := 2) scDeck.nd rfl (.inl rfl))
        (pss_cons (ps_set (i := 3) scDeck.nd rfl (.inl rfl) (pe_callB call_abs (by rfl) B.abs (by decide +kernel) (pa_cons (pv 2) pa_nil)))
        (pss_cons (ps_if (pt_cmpR op_ge (pv 3) (pe_op op_pow pe_int pe_int) (nomark _)) (pss_one (ps_dput hu (pv 1) pe_str (pe_op op_cat (pe_lst (pa_cons (pv 3) pa_nil)) (pe_dget hu (pv 1) pe_str (fun _ _ => rfl))) rfl)) pss_nil)
        (pss_cons (ps_set (i := 4) scDeck.nd rfl (.inl rfl) (pe_op op_add (pe_op op_mul (pe_op op_add (pe_op op_add (pe_op op_add (pe_dget hu (pv 1) pe_str (fun _ _ => rfl)) (pe_op op_mul pe_int (pv 3))) (pe_callTy call_int1 (by rfl) B.int (by decide +kernel) (pa_cons (pe_cmpR op_lt (pv 2) pe_int (nomark _)) pa_nil))) pe_int) pe_int) pe_int))
        (pss_one (ps_dput hu (pv 1) pe_str (pe_op op_mod (pe_callTy call_int1 (by rfl) B.int (by decide +kernel) (pa_cons (pv 4) pa_nil)) pe_int) rfl))))))
      (pss_one (ps_ret (pv 1)))), ?_⟩
    -- deck = {'deep': [], 'state': .. + len(script[:63])}
    intro p np
    refine ⟨Nat.zero_le _, fun l nl => ?_⟩
    have s0 : Same H (upd (upd H p (.dK [])) l (.lst [])) := (same_new np).trans (same_new nl)
    have nlp : l ≠ p := fun z => by rw [z, upd_same] at nl; cases nl
    have nl0 : H l = none := by rw [upd_ne nlp] at nl; exact nl
    refine ⟨.ref a, rfl, 63, rfl, a, _, rfl, s0.seq hS, fun c nc => ?_⟩
    have ncp : c ≠ p := fun z => by rw [z, upd_ne nlp.symm, upd_same] at nc; cases nc
    have ncl : c ≠ l := fun z => by rw [z, upd_same] at nc; cases nc
    refine ⟨c, _, rfl, .inl (SqL.of upd_same), _, _, rfl, rfl, ?_⟩
    refine ⟨by rw [upd_ne ncp.symm, upd_ne nlp.symm, upd_same], [(kD, V.ref l), (kS, V.int _)], rfl, by show 2 ≤ 15; decide, ?_⟩
    rw [dkv_m]
    generalize (1278701 + ((cutV (ns.map V.int) none (some 63)).length : Int)) = st0
    -- the loop
    have s1 : Same (upd (upd H p (.dK [])) l (.lst [])) (upd (upd (upd H p (.dK [])) l (.lst [])) c (.lst (cutV (ns.map V.int) none (some 63)))) := same_new nc
    generalize hH1 : upd (upd (upd H p (.dK [])) l (.lst [])) c (.lst (cutV (ns.map V.int) none (some 63))) = H1 at s1
    have l1 : H1 l = some (.lst []) := s1 _ _ upd_same
    have s2 : Same H (upd H1 p (.dK (dkv (.ref l) (.int st0)))) := fun b o e => by
      rw [upd_ne (ne_of_none e np)]
      exact s1 _ _ (s0 _ _ e)
    refine ⟨.ref a, rfl, 63, rfl, a, _, rfl, s2.seq hS, fun c2 nc2 => ?_⟩
    have e63 : cutV (ns.map V.int) none (some 63) = ns.map V.int := by
      unfold cutV
      rw [HT.sIx_none, show HT.sIx (ns.map V.int).length (ns.map V.int).length (some 63) = min 63 (ns.map V.int).length from HT.sIx_nat _ _ 63, List.drop_zero, Nat.sub_zero, List.length_map]
      exact List.take_of_length_le (by rw [List.length_map]; omega)
    rw [e63]
    have c2p : c2 ≠ p := fun z => by rw [z, upd_same] at nc2; cases nc2
    have c2l : c2 ≠ l := fun z => by rw [z, upd_ne nlp, l1] at nc2; cases nc2
    refine ⟨c2, rfl, ⟨_, SqL.of upd_same⟩, for_list (K := K) (a := c2) (xs := ns.map V.int) (fun i σ H2 => ∃ v2 v3 v4 l ds st, σ = [some (.ref a), some (.ref p), v2, v3, v4] ∧ Same H H2 ∧ H2 c2 = some (.lst (ns.map V.int)) ∧ H2 p = some (.dK (dkv (.ref l) (.int st))) ∧ H2 l = some (.lst (ds.map V.int)) ∧ ds.length ≤ i ∧ H l = none ∧ c2 ≠ l)
      ⟨none, none, none, l, [], st0, rfl, s2.trans (same_new nc2), upd_same, by rw [upd_ne c2p.symm, upd_same], by rw [upd_ne c2l.symm, upd_ne nlp, l1]; rfl, Nat.le_refl _, nl0, c2l⟩ (fun i σ H2 _ ⟨_, _, _, _, _, _, _, _, h, _⟩ => SqL.of h) ?_ ?_⟩
    · rintro i y σ H2 hi ⟨v2, v3, v4, l, ds, st, rfl, sm, hc, hp, hl, hd, nl, ncl⟩
      have hil : i < ns.length := by
        have := (List.getElem?_eq_some_iff.mp hi).1
        rw [List.length_map] at this
        exact this
      obtain ⟨z, rfl⟩ : ∃ z, y = V.int z := by
        rw [List.getElem?_map] at hi
        cases e : ns[i]? with
        | none => rw [e] at hi; cases hi
        | some z => rw [e] at hi; exact ⟨z, (Option.some.inj hi).symm⟩
      have nlp : l ≠ p := ne_of hl hp (by intro z; cases z)
      refine ⟨.int z, rfl, z, rfl, ?_⟩
      generalize (if z < 0 then -z else z) = wz
      refine ⟨.int wz, rfl, _, _, rfl, rfl, ⟨by decide, by decide, by decide⟩, wz, _, rfl, rfl, _, rfl, ?_⟩
      refine join2 (H2 := H2) (R := fun H3 => ∃ (l3 : Addr) (ds3 : List Int), Same H H3 ∧ H3 c2 = some (.lst (ns.map V.int)) ∧ H3 p = some (.dK (dkv (.ref l3) (.int st))) ∧ H3 l3 = some (.lst (ds3.map V.int)) ∧ ds3.length ≤ i + 1 ∧ H l3 = none ∧ c2 ≠ l3 ∧ l3 ≠ p)
        (fun H3 hR => ?_) (fun _ => ⟨l, ds, sm, hc, hp, hl, by omega, nl, ncl, nlp⟩) (fun _ tail => ?_)
      rotate_left
      · refine ⟨.int wz, rfl, by show 1 ≤ sizeLine; decide, fun l1 nl1 => ⟨.ref p, rfl, p, .ref l, rfl, ?_⟩⟩
        have n1p : l1 ≠ p := (ne_of_none hp nl1).symm
        have n1l : l1 ≠ l := (ne_of_none hl nl1).symm
        have n1c : l1 ≠ c2 := (ne_of_none hc nl1).symm
        have hp1 : upd H2 l1 (.lst [.int wz]) p = some (.dK (dkv (.ref l) (.int st))) := by rw [upd_ne n1p.symm]; exact hp
        refine ⟨by rw [← dkv_d (.ref l) (.int st)]; exact DGet.k (k := kD) hp1, l1, l, _, _, rfl, rfl, upd_same, by rw [upd_ne n1l.symm]; exact hl, by rw [List.length_map]; exact sz (by show 1 + ds.length ≤ 100000; omega), fun l2 nl2 => ?_⟩
        have n2p : l2 ≠ p := (ne_of_none hp1 nl2).symm
        have n2c : l2 ≠ c2 := fun z => by rw [z, upd_ne n1c.symm, hc] at nl2; cases nl2
        have sm2 : Same H (upd (upd H2 l1 (.lst [.int wz])) l2 (.lst ([.int wz] ++ ds.map V.int))) := (sm.trans (same_new nl1)).trans (same_new nl2)
        have hp2 : (upd (upd H2 l1 (.lst [.int wz])) l2 (.lst ([.int wz] ++ ds.map V.int))) p = some (.dK (dkv (.ref l) (.int st))) := by rw [upd_ne n2p.symm]; exact hp1
        refine ⟨.ref p, rfl, p, _, rfl, DPut.k (k := kD) hp2 (by show 2 < sizeLine; decide), ?_⟩
        rw [dkv_pd]
        have nl2' : H l2 = none := (sm.trans (same_new nl1)).free nl2
        refine tail (upd (upd (upd H2 l1 (.lst [.int wz])) l2 (.lst ([.int wz] ++ ds.map V.int))) p (.dK (dkv (.ref l2) (.int st)))) ⟨l2, wz :: ds, (fun b o e => by rw [upd_ne (ne_of_none e np)]; exact sm2 _ _ e), ?_, upd_same, ?_, (by rw [List.length_cons]; omega), nl2', n2c.symm, n2p⟩
        · rw [upd_ne c2p, upd_ne n2c.symm, upd_ne n1c.symm]
          exact hc
        · rw [upd_ne n2p, upd_same]
          rfl
      · obtain ⟨l3, ds3, sm3, hc3, hp3, hl3, hd3, nl3, ncl3, nlp3⟩ := hR
        refine ⟨.ref p, rfl, p, .int st, rfl, by rw [← dkv_s (.ref l3) (.int st)]; exact DGet.k (k := kS) hp3, ?_⟩
        refine ⟨.int wz, rfl, 2, wz, rfl, rfl, .inl ⟨by decide, by decide⟩, st, 2 * wz, rfl, rfl, ?_⟩
        refine ⟨.int z, rfl, z, 0, rfl, rfl, .inr ⟨_, rfl, ?_⟩⟩
        refine ⟨_, _, rfl, rfl, _, 1, rfl, rfl, _, 1181783497276652981, rfl, rfl, .inr ⟨by decide, by decide⟩, _, 521288629, rfl, rfl, ?_⟩
        refine ⟨_, rfl, .inl ⟨_, rfl, ?_⟩⟩
        refine ⟨_, 2305843009213693951, rfl, rfl, by show (0 : Int) < 2305843009213693951; decide, .ref p, rfl, p, _, rfl, DPut.k (k := kS) hp3 (by show 2 < sizeLine; decide), ?_⟩
        rw [dkv_ps]
        refine ⟨_, _, _, l3, ds3, _, rfl, fun b o e => ?_, ?_, upd_same, ?_, hd3, nl3, ncl3⟩
        · rw [upd_ne (ne_of_none e np)]
          exact sm3 _ _ e
        · rw [upd_ne c2p]
          exact hc3
        · rw [upd_ne nlp3]
          exact hl3
    · rintro σ H2 ⟨v2, v3, v4, l, ds, st, rfl, sm, hc, hp, hl, hd, nl, ncl⟩
      rw [List.length_map] at hd
      exact ⟨.ref p, rfl, q H2 p l sm np nl ⟨ds, st, hp, hl, by omega⟩⟩
end
end Kr

namespace Kr
open PySem PySem.Spec PyProof.Rows L2
def spDraw : Sp := fun vs H Q _ => ∃ (p l : Addr) (m : Int), vs = [.ref p, .int m] ∧ Deck H p l ∧ m < 1073741824 ∧ ∀ H' r, Deck H' p l → Ext p l H H' → 0 ≤ r → (r < m ∨ r = 0) → Q (.int r) H'
theorem dp_ints {K : PySem.W.Frag} {H : Hp} : ∀ ds : List Int, DpAll K H (ds.map V.int) (ds.map PyData.int)
  | [] => .nil
  | d :: ds => .cons (.int d) (dp_ints ds)
theorem lay_ints : ∀ ds : List Int, PyData.canLayAll0 (ds.map PyData.int) = true
  | [] => by simp [PyData.canLayAll0]
  | d :: ds => by simp [PyData.canLayAll0, PyData.canLay0, lay_ints ds]
theorem dep_ints : ∀ ds : List Int, PyData.depthAll (ds.map PyData.int) ≤ 1
  | [] => by simp [PyData.depthAll]
  | d :: ds => by
    have := dep_ints ds
    simp [PyData.depthAll, PyData.depth]
    omega
theorem shaped_ints (ds : List Int) : SeqAt.shaped (.list (ds.map PyData.int)) = true := by
  unfold SeqAt.shaped
  have := dep_ints ds
  simp [PyData.canLay0, lay_ints ds, PyData.depth]
  omega
theorem eqv_ints_nil (ds : List Int) : PyData.eqv (.list (ds.map PyData.int)) (.list []) = decide (ds = []) := by
  cases ds <;> simp [PyData.eqv, PyData.eqvAll]
theorem Ext.new {p l q : Addr} {H H' : Hp} {o : HO} (e : Ext p l H H') (h : H' q = none) : Ext p l H (upd H' q o) := fun b x hb => by
  have h2 := e b x hb
  obtain ⟨h3, h4, h5⟩ := hid_some h2
  rw [hid_ne h3 h4, upd_ne (ne_of_none h5 h)]
  exact h5
theorem Ext.at {p l q : Addr} {H H' : Hp} {o : HO} (e : Ext p l H H') (h : q = p ∨ q = l) : Ext p l H (upd H' q o) := fun b x hb => by
  have h2 := e b x hb
  obtain ⟨h3, h4, h5⟩ := hid_some h2
  have hq : b ≠ q := fun z => h.elim (fun w => h3 (z.trans w)) fun w => h4 (z.trans w)
  rw [hid_ne h3 h4, upd_ne hq]
  exact h5
section
variable {P : Program} {w : World} {K : PySem.W.Frag} {mg : Str → Option Value} {base : Heap}
theorem scDraw : FnScope ["deck", "many", "whole", "one", "two"] ["deck", "many"] (defScope sDraw) := ⟨rfl, rfl, rfl, by decide +kernel, rfl, by decide +kernel, by decide +kernel⟩
theorem ok_draw {f : Addr} {fd : FuncData} {k : Nat} (F : Fun K "_law_draw" "_law_draw" sDraw f fd) (B : Bi mg) : FnOk P w K mg base CX0 (k + 1) f fd ["deck", "many"] spDraw := by
  refine F.ok scDraw (fun vs H Q E h => ?_) (fun cdv A outer s H vs Q E hr h => ?_)
  · obtain ⟨p, l, m, rfl, _⟩ := h
    rfl
  · obtain ⟨p, l, m, rfl, D, hm, q⟩ := h
    have hu := hu_of hr
    refine ⟨_, pss_cons (ps_if (pt_cmpR op_lt (pv 1) pe_int (nomark _)) (pss_one (ps_ret pe_int)) pss_nil)
      (pss_cons (ps_if (pt_cmpR (op_neD hr.units) (pe_dget hu (pv 0) pe_str (fun _ _ => rfl)) (pe_lst pa_nil) (nomark _))
        (pss_cons (ps_set (i := 2) scDraw.nd rfl (.inl rfl) (pe_bm0 PySem.F.plainAttrs_list PySem.F.slot_list_pop PySem.F.type_list_pop mt_pop (pe_dget hu (pv 0) pe_str (fun _ _ => rfl))))
        (pss_cons (ps_if (pt_cmpR op_ge (pv 2) (pv 1) (nomark _)) (pss_one (ps_expr (pe_bm PySem.F.plainAttrs_list PySem.F.slot_list_append PySem.F.type_list_append mt_append (pe_dget hu (pv 0) pe_str (fun _ _ => rfl)) (pa_cons (pe_op op_fdiv (pv 2) (pv 1)) pa_nil)))) pss_nil)
        (pss_one (ps_ret (pe_op op_mod (pe_callTy call_int1 (by rfl) B.int (by decide +kernel) (pa_cons (pv 2) pa_nil)) (pv 1)))))) pss_nil)
      (pss_cons (ps_set (i := 3) scDraw.nd rfl (.inl rfl) (pe_op op_mod (pe_callTy call_int1 (by rfl) B.int (by decide +kernel) (pa_cons (pe_op op_add (pe_op op_mul (pe_dget hu (pv 0) pe_str (fun _ _ => rfl)) pe_int) pe_int) pa_nil)) pe_int))
      (pss_cons (ps_dput hu (pv 0) pe_str (pv 3) rfl)
      (pss_cons (ps_set (i := 4) scDraw.nd rfl (.inl rfl) (pe_op op_mod (pe_callTy call_int1 (by rfl) B.int (by decide +kernel) (pa_cons (pe_op op_add (pe_op op_add (pe_op op_mul (pv 3) (pv 3)) (pe_op op_mul pe_int (pv 3))) pe_int) pa_nil)) pe_int))
      (pss_one (ps_ret (pe_op op_mod (pe_callTy call_int1 (by rfl) B.int (by decide +kernel) (pa_cons (pe_op op_fdiv (pv 4) pe_int) pa_nil)) (pv 1)))))))), ?_⟩
    refine ⟨.int m, rfl, m, 2, rfl, rfl, _, rfl, ite2 (fun _ => ?_) (fun hm2 => ?_)⟩
    · exact q H 0 D Ext.rfl (Int.le_refl _) (.inr rfl)
    have hm1 : ¬ m < 2 := fun z => hm2 (decide_eq_true z)
    obtain ⟨ds, st, hp, hl, hd⟩ := id D.ex
    have hgd : DGet H p (V.str "deep") (some (.ref l)) := by rw [← dkv_d (.ref l) (.int st)]; exact DGet.k (k := kD) hp
    refine ⟨.ref p, rfl, p, .ref l, rfl, hgd, by show 0 ≤ sizeLine; decide, fun e ne => ?_⟩
    have nep : e ≠ p := (ne_of_none hp ne).symm
    have nel : e ≠ l := (ne_of_none hl ne).symm
    have nlp : l ≠ p := D.ne.symm
    refine ⟨.list (ds.map PyData.int), .list [], .lst (SqL.of (by rw [upd_ne nel.symm]; exact hl)) (dp_ints ds), .lst (SqL.of upd_same) .nil, shaped_ints ds, shaped_ints [], ?_⟩
    rw [eqv_ints_nil]
    have hp1 : upd H e (.lst []) p = some (.dK (dkv (.ref l) (.int st))) := by rw [upd_ne nep.symm]; exact hp
    have hl1 : upd H e (.lst []) l = some (.lst (ds.map V.int)) := by rw [upd_ne nel.symm]; exact hl
    have E1 : Ext p l H (upd H e (.lst [])) := Ext.rfl.new ne
    generalize upd H e (.lst []) = H1 at hp1 hl1 E1
    have hgd1 : DGet H1 p (V.str "deep") (some (.ref l)) := by rw [← dkv_d (.ref l) (.int st)]; exact DGet.k (k := kD) hp1
    have hgs1 : DGet H1 p (V.str "state") (some (.int st)) := by rw [← dkv_s (.ref l) (.int st)]; exact DGet.k (k := kS) hp1
    refine ⟨_, rfl, ?_⟩
    by_cases hds : ds = []
    · -- mixed numbers
      rw [decide_eq_true hds]
      refine iteF ?_
      refine ⟨.ref p, rfl, p, .int st, rfl, hgs1, _, _, rfl, rfl, .inr ⟨by decide, by decide⟩, _, _, rfl, rfl, .inl ⟨_, rfl, _, _, rfl, rfl, (by show (0 : Int) < 2305843009213693951; decide), ?_⟩⟩
      dsimp only
      have o0 : 0 ≤ ((st * 1181783497276652981 + 88172645463325) % 2305843009213693951 : Int) := Int.emod_nonneg _ (by decide)
      have o1 : ((st * 1181783497276652981 + 88172645463325) % 2305843009213693951 : Int) < 2305843009213693951 := Int.emod_lt_of_pos _ (by decide)
      generalize ((st * 1181783497276652981 + 88172645463325) % 2305843009213693951 : Int) = one at o0 o1
      refine ⟨.int one, rfl, .ref p, rfl, p, _, rfl, DPut.k (k := kS) hp1 (by show 2 < sizeLine; decide), ?_⟩
      rw [dkv_ps]
      refine ⟨.int one, rfl, .int one, rfl, _, _, rfl, rfl, .inl ⟨by omega, by omega⟩, .int one, rfl, _, _, rfl, rfl, .inl ⟨by decide, by decide⟩, _, _, rfl, rfl, _, _, rfl, rfl, .inl ⟨_, rfl, _, _, rfl, rfl, (by show (0 : Int) < 2305843009213693921; decide), ?_⟩⟩
      dsimp only
      generalize ((one * one + 374761393 * one + 11) % 2305843009213693921 : Int) = two
      refine ⟨.int two, rfl, _, _, rfl, rfl, ⟨by decide, by decide⟩, .inl ⟨_, rfl, .int m, rfl, _, _, rfl, rfl, (by show 0 < m; omega), ?_⟩⟩
      refine q _ _ ⟨ds, one, upd_same, by rw [upd_ne nlp]; exact hl1, hd⟩ (E1.at (.inl rfl)) (Int.emod_nonneg _ (by omega)) (.inl (Int.emod_lt_of_pos _ (by omega)))
    · -- a digit of a great cell
      rw [decide_eq_false hds]
      refine iteT ?_
      obtain ⟨last, hlast⟩ : ∃ y, ds[ds.length - 1]? = some y := ⟨_, List.getElem?_eq_getElem (by
        have := List.length_pos_iff.mpr hds
        omega)⟩
      refine ⟨.ref p, rfl, p, .ref l, rfl, hgd1, .inl ⟨rfl, _, SqL.of hl1⟩, l, _, .int last, rfl, rfl, hl1, by rw [List.length_map, List.getElem?_map, hlast]; rfl, ?_⟩
      rw [← List.map_dropLast]
      have hdl : ds.dropLast.length ≤ 62 := by rw [List.length_dropLast]; omega
      have hp2 : upd H1 l (.lst (ds.dropLast.map V.int)) p = some (.dK (dkv (.ref l) (.int st))) := by rw [upd_ne nlp.symm]; exact hp1
      have hl2 : upd H1 l (.lst (ds.dropLast.map V.int)) l = some (.lst (ds.dropLast.map V.int)) := upd_same
      have E2 : Ext p l H (upd H1 l (.lst (ds.dropLast.map V.int))) := E1.at (.inr rfl)
      generalize ds.dropLast = ds2 at hdl hp2 hl2 E2
      generalize upd H1 l (.lst (ds2.map V.int)) = H2 at hp2 hl2 E2
      have hgd2 : DGet H2 p (V.str "deep") (some (.ref l)) := by rw [← dkv_d (.ref l) (.int st)]; exact DGet.k (k := kD) hp2
      refine ⟨.int last, rfl, .int m, rfl, _, _, rfl, rfl, _, rfl, ?_⟩
      refine join2 (H2 := H2) (R := fun H3 => ∃ ds3 : List Int, H3 p = some (.dK (dkv (.ref l) (.int st))) ∧ H3 l = some (.lst (ds3.map V.int)) ∧ ds3.length ≤ 63 ∧ Ext p l H H3)
        (fun H3 hR => ?_) (fun _ => ⟨ds2, hp2, hl2, by omega, E2⟩) (fun _ tail => ?_)
      · obtain ⟨ds3, hp3, hl3, hd3, E3⟩ := hR
        refine ⟨.int last, rfl, .inl ⟨_, rfl, .int m, rfl, _, _, rfl, rfl, (by show 0 < m; omega), ?_⟩⟩
        exact q _ _ ⟨ds3, st, hp3, hl3, hd3⟩ E3 (Int.emod_nonneg _ (by omega)) (.inl (Int.emod_lt_of_pos _ (by omega)))
      · refine ⟨.ref p, rfl, p, .ref l, rfl, hgd2, .inl ⟨rfl, _, SqL.of hl2⟩, .int last, rfl, .int m, rfl, _, _, rfl, rfl, ⟨by omega, hm⟩, l, _, _, rfl, rfl, hl2, szl (by rw [List.length_map]; omega), ?_⟩
        refine tail _ ⟨ds2 ++ [last / m], by rw [upd_ne nlp.symm]; exact hp2, ?_, by rw [List.length_append]; show _ + 1 ≤ 63; omega, E2.at (.inr rfl)⟩
        rw [upd_same, List.map_append]
        rfl
end
end Kr

namespace Kr
open PySem PySem.Spec PyProof.Rows L2
/-! ### defs by their names -/
structure Df (K : PySem.W.Frag) (mg : Str → Option Value) (x : Str) (st : Stmt) (ps : List Str) : Prop where
  ex : ∃ f fd, Fun K x x st f fd ∧ Binds K fd ps [] ∧ mg x = some (.ref f)
structure Ok (P : Program) (w : World) (K : PySem.W.Frag) (mg : Str → Option Value) (base : Heap) (k : Nat) (x : Str) (ps : List Str) (sp : Sp) : Prop where
  ex : ∃ f fd, FnOk P w K mg base CX0 k f fd ps sp ∧ PySem.W.keepIn K (.ref f) = true ∧ mg x = some (.ref f) ∧ Binds K fd ps []
section
variable {P : Program} {w : World} {K : PySem.W.Frag} {mg : Str → Option Value} {base : Heap}
theorem Df.ok {x : Str} {st : Stmt} {ps : List Str} {k : Nat} {sp : Sp} (D : Df K mg x st ps) (h : ∀ f fd, Fun K x x st f fd → FnOk P w K mg base CX0 k f fd ps sp) : Ok P w K mg base k x ps sp := by
  obtain ⟨f, fd, F, b, g⟩ := D.ex
  exact ⟨f, fd, h f fd F, F.kp, g, b⟩
theorem Ok.mono {x : Str} {ps : List Str} {j k : Nat} {sp : Sp} (D : Ok P w K mg base j x ps sp) (h : j ≤ k) : Ok P w K mg base k x ps sp := by
  obtain ⟨f, fd, F, r⟩ := D.ex
  exact ⟨f, fd, F.mono h, r⟩
end
theorem pe_fn {X : Cx} {k : Nat} {x : Str} {ps : List Str} {sp : Sp} {p pos : Pos} {e : Expr} {es : List Expr} {t : TA} (D : Ok X.prog X.w X.K X.mg X.base k x ps sp) (hr : Room k X.A) (hg : Gl X x) (ha : PA X (e :: es) t)
    (hdb : (x == ("__debug__" : Str)) = false := by decide) (he : starEach (e :: es) X.env = (false, eval e X.env) :: starEach es X.env := by rfl) (hpl : (backTo pos (starEach es X.env)).any (·.1) = false := by rfl) :
    PE X (.Call (.Name x p) (e :: es) [] pos) (tCall sp [] E0 t) := by
  obtain ⟨f, fd, F, kp, g, b⟩ := D.ex
  exact pe_call F hr hg g kp b .nil pass0 ha hdb he hpl
theorem atI_int {α : Type} {xs : List α} {r : Int} {v : α} (h0 : 0 ≤ r) (h : xs[r.toNat]? = some v) : atI xs r = some v := by
  have e : r = ((r.toNat : Nat) : Int) := by omega
  rw [e]
  exact atI_nat h
/-- one of some items -/
def spPick : Sp := fun vs H Q _ => ∃ (p l a : Addr) (xs : List V), vs = [.ref p, .ref a] ∧ Deck H p l ∧ hid p l H a = some (.lst xs) ∧ xs ≠ [] ∧ xs.length < 1000000 ∧ ∀ H' v, Deck H' p l → Ext p l H H' → v ∈ xs → Q v H'
section
variable {P : Program} {w : World} {K : PySem.W.Frag} {mg : Str → Option Value} {base : Heap}
theorem o_draw (D : Df K mg "_law_draw" sDraw ["deck", "many"]) (B : Bi mg) : Ok P w K mg base 1 "_law_draw" ["deck", "many"] spDraw := D.ok fun _ _ F => ok_draw F B
theorem o_deck (D : Df K mg "_law_deck" sDeck ["script"]) (B : Bi mg) : Ok P w K mg base 1 "_law_deck" ["script"] (spDeck K) := D.ok fun _ _ F => ok_deck F B
theorem scPick : FnScope ["deck", "items"] ["deck", "items"] (defScope sPick) := ⟨rfl, rfl, rfl, by decide +kernel, rfl, by decide +kernel, by decide +kernel⟩
theorem o_pick (D : Df K mg "_law_pick" sPick ["deck", "items"]) (B : Bi mg) (d : Ok P w K mg base 1 "_law_draw" ["deck", "many"] spDraw) : Ok P w K mg base 2 "_law_pick" ["deck", "items"] spPick := by
  refine D.ok fun f fd F => F.ok scPick (fun vs H Q E h => ?_) (fun cdv A outer s H vs Q E hr h => ?_)
  · obtain ⟨p, l, a, xs, rfl, _⟩ := h
    rfl
  · obtain ⟨p, l, a, xs, rfl, Dk, ha, hne, hlen, q⟩ := h
    refine ⟨_, pss_one (ps_ret (pe_ix ix_list (pv 1) (pe_fn d hr (by rfl) (pa_cons (pv 0) (pa_cons (pe_callB call_len_seq (by rfl) B.len boot_len (pa_cons (pv 1) pa_nil)) pa_nil))) (fun _ _ => rfl))), ?_⟩
    have hpos := List.length_pos_iff.mpr hne
    refine ⟨.ref a, rfl, .ref p, rfl, .ref a, rfl, a, xs, rfl, .inl (SqL.of (hid_same p l H _ _ ha)), p, l, _, rfl, Dk, by show (xs.length : Int) < 1073741824; omega, fun H' r Dk' e h0 h1 => ?_⟩
    have hr2 : r.toNat < xs.length := by omega
    refine ⟨a, xs, r, xs[r.toNat], rfl, rfl, SqL.of (hid_same p l H' _ _ (e _ _ ha)), ?_, q H' _ Dk' e (List.getElem_mem hr2)⟩
    exact atI_int h0 (List.getElem?_eq_getElem hr2)
end
end Kr

namespace Kr
open PySem PySem.Spec PyProof.Rows L2
theorem free_of : ∀ (n : Nat) (L : List Int), L.length < n → ∃ v : Int, 1 ≤ v ∧ v ≤ n ∧ v ∉ L
  | 0, L, h => absurd h (Nat.not_lt_zero _)
  | n + 1, L, h => by
    by_cases hm : ((n + 1 : Nat) : Int) ∈ L
    · have hl : (L.erase ((n + 1 : Nat) : Int)).length < n := by
        rw [List.length_erase_of_mem hm]
        have := List.length_pos_of_mem hm
        omega
      obtain ⟨v, h1, h2, h3⟩ := free_of n _ hl
      refine ⟨v, h1, by omega, fun hv => h3 ?_⟩
      exact (List.mem_erase_of_ne (by omega)).mpr hv
    · exact ⟨_, by omega, Int.le_refl _, hm⟩
theorem inV_ints (r : Int) (ns : List Int) : inV (.int r) (ns.map V.int) = decide (r ∈ ns) := by
  unfold inV
  rw [Bool.eq_iff_iff]
  simp [eqV]
theorem flat_ints (ns : List Int) : (ns.map V.int).all flatV = true := by
  simp [flatV]
theorem Ext.mut {p l f : Addr} {H H' : Hp} {o : HO} (e : Ext p l H H') (h : H f = none) : Ext p l H (upd H' f o) := fun b x hb => by
  obtain ⟨_, _, h5⟩ := hid_some hb
  obtain ⟨h1, h2, h3⟩ := hid_some (e b x hb)
  rw [hid_ne h1 h2, upd_ne (ne_of_none h5 h)]
  exact h3
theorem Deck.mut {H : Hp} {p l f : Addr} {o : HO} (d : Deck H p l) (h1 : f ≠ p) (h2 : f ≠ l) : Deck (upd H f o) p l := by
  obtain ⟨ds, st, a, b, c⟩ := d.ex
  exact ⟨ds, st, by rw [upd_ne h1.symm]; exact a, by rw [upd_ne h2.symm]; exact b, c⟩
theorem Ext.free {p l f : Addr} {H H' : Hp} (e : Ext p l H H') (h : H' f = none) (h1 : f ≠ p) (h2 : f ≠ l) : H f = none := by
  cases q : H f with
  | none => rfl
  | some o =>
    have := (hid_some (e f o (by rw [hid_ne h1 h2]; exact q))).2.2
    rw [h] at this
    cases this
/-- a standing: whole numbers from 0 to 99 -/
def spStanding : Sp := fun vs H Q _ => ∃ (p l : Addr) (m : Int), vs = [.ref p, .int m] ∧ Deck H p l ∧ 0 ≤ m ∧ m ≤ 90 ∧
  ∀ (H' : Hp) (t : Addr) (ns : List Int), Deck H' p l → Ext p l H H' → hid p l H' t = some (.tup (ns.map V.int)) → ns.length = m.toNat → (∀ n ∈ ns, 0 ≤ n ∧ n ≤ 99) → Q (.ref t) H'
section
variable {P : Program} {w : World} {K : PySem.W.Frag} {mg : Str → Option Value} {base : Heap}
theorem scStanding : FnScope ["deck", "many", "share", "found", "place", "rider"] ["deck", "many"] (defScope sStanding) := ⟨rfl, rfl, rfl, by decide +kernel, rfl, by decide +kernel, by decide +kernel⟩
theorem o_standing (D : Df K mg "_law_standing" sStanding ["deck", "many"]) (B : Bi mg) (d : Ok P w K mg base 1 "_law_draw" ["deck", "many"] spDraw) (dp : Ok P w K mg base 2 "_law_pick" ["deck", "items"] spPick) :
    Ok P w K mg base 3 "_law_standing" ["deck", "many"] spStanding := by
  refine D.ok fun f fd F => F.ok scStanding (fun vs H Q E h => ?_) (fun cdv A outer s H vs Q E hr h => ?_)
  · obtain ⟨p, l, m, rfl, _⟩ := h
    rfl
  · obtain ⟨p, l, m, rfl, Dk, hm0, hm1, q⟩ := h
    have hr1 := hr.mono (show 1 ≤ 2 by decide)
    refine ⟨_, pss_cons (ps_par (i := 2) (j := 3) rfl scStanding.nd rfl rfl (by decide) rfl rfl (pa_cons (pe_fn dp hr (by rfl) (pa_cons (pv 0) (pa_cons (pe_lst (pa_cons pe_int (pa_cons pe_int (pa_cons pe_int (pa_cons pe_int (pa_cons pe_int (pa_cons pe_int pa_nil))))))) pa_nil))) (pa_cons (pe_lst pa_nil) pa_nil)) (by rfl))
      (pss_cons (ps_for PassesOwn.never rfl (pi_range1 (by rfl) B.range (pa_cons (pv 1) pa_nil)) (pg_name (i := 4) scStanding.nd rfl (.inl rfl))
        (pss_one (ps_if (pt_cmpR op_lt (pe_fn d hr1 (by rfl) (pa_cons (pv 0) (pa_cons pe_int pa_nil))) (pv 2) (nomark _))
          (pss_one (ps_expr (pe_bm PySem.F.plainAttrs_list PySem.F.slot_list_append PySem.F.type_list_append mt_append (pv 3) (pa_cons pe_int pa_nil))))
          (pss_cons (ps_set (i := 5) scStanding.nd rfl (.inl rfl) (pe_op op_add pe_int (pe_fn d hr1 (by rfl) (pa_cons (pv 0) (pa_cons pe_int pa_nil)))))
          (pss_cons (ps_while PassesOwn.never (pt_cmpR op_in_seq (pv 5) (pv 3) rfl) (pss_one (ps_set (i := 5) scStanding.nd rfl (.inl rfl) (pe_op op_add (pe_op op_mod (pe_callTy call_int1 (by rfl) B.int (by decide +kernel) (pa_cons (pv 5) pa_nil)) pe_int) pe_int))))
          (pss_one (ps_expr (pe_bm PySem.F.plainAttrs_list PySem.F.slot_list_append PySem.F.type_list_append mt_append (pv 3) (pa_cons (pv 5) pa_nil)))))))))
      (pss_one (ps_ret (pe_callTy call_tuple_of (by rfl) B.tuple (by decide +kernel) (pa_cons (pv 3) pa_nil))))), ?_⟩
    refine ⟨.ref p, rfl, by show 6 ≤ sizeLine; decide, fun a na => ?_⟩
    have Dk1 := Dk.up (same_new (o := .lst [.int 1, .int 2, .int 3, .int 4, .int 0, .int 5]) na)
    obtain ⟨nap, nal⟩ := Dk.new na
    refine ⟨p, l, a, _, rfl, Dk1, hid_upd nap nal, by simp, by show 6 < 1000000; decide, fun H1 v Dk2 E1 hv => ?_⟩
    obtain ⟨sh, rfl⟩ : ∃ sh : Int, v = .int sh := by
      simp only [List.mem_cons, List.not_mem_nil, or_false] at hv
      rcases hv with rfl | rfl | rfl | rfl | rfl | rfl <;> exact ⟨_, rfl⟩
    refine ⟨by show 0 ≤ sizeLine; decide, fun f nf => ?_⟩
    obtain ⟨nfp, nfl⟩ := Dk2.new nf
    refine ⟨_, _, rfl, ?_⟩
    have E1' : Ext p l H H1 := (Ext.of (same_new na)).trans E1
    have nf0 : H f = none := E1'.free nf nfp nfl
    refine ⟨.int m, rfl, m, rfl, by omega, by omega, for_range (n := m.toNat) (fun i σ H2 => ∃ (v4 v5 : Option V) (ns : List Int), σ = [some (.ref p), some (.int m), some (.int sh), some (.ref f), v4, v5] ∧ Deck H2 p l ∧ Ext p l H H2 ∧ H2 f = some (.lst (ns.map V.int)) ∧ ns.length = i ∧ ∀ n ∈ ns, 0 ≤ n ∧ n ≤ 99)
      ⟨none, none, [], rfl, Dk2.mut nfp nfl, E1'.mut nf0, upd_same, rfl, fun n h => nomatch h⟩ ?_ ?_⟩
    · rintro i σ H2 hi ⟨v4, v5, ns, rfl, Dk3, E3, hf, hn, hb⟩
      refine ⟨.ref p, rfl, p, l, 5, rfl, Dk3, by decide, fun H3 r Dk4 E4 r0 r1 => ?_⟩
      have hf4 : H3 f = some (.lst (ns.map V.int)) := (hid_some (E4 f _ (by rw [hid_ne nfp nfl]; exact hf))).2.2
      have E4' : Ext p l H H3 := E3.trans E4
      refine ⟨.int sh, rfl, _, _, rfl, rfl, _, rfl, ite2 (fun _ => ?_) (fun _ => ?_)⟩
      · refine ⟨.ref f, rfl, .inl ⟨rfl, _, SqL.of hf4⟩, f, _, .int 0, rfl, rfl, hf4, szl (by rw [List.length_map]; omega), ?_⟩
        refine ⟨_, _, ns ++ [0], rfl, Dk4.mut nfp nfl, E4'.mut nf0, by rw [upd_same, List.map_append]; rfl, by rw [List.length_append, hn]; rfl, fun n h => ?_⟩
        rcases List.mem_append.mp h with h | h
        · exact hb n h
        · rw [List.mem_singleton.mp h]; omega
      · refine ⟨.ref p, rfl, p, l, 99, rfl, Dk4, by decide, fun H5 r' Dk5 E5 r0' r1' => ⟨_, _, rfl, rfl, ?_⟩⟩
        have hf5 : H5 f = some (.lst (ns.map V.int)) := (hid_some (E5 f _ (by rw [hid_ne nfp nfl]; exact hf4))).2.2
        have E5' : Ext p l H H5 := E4'.trans E5
        obtain ⟨v, w1, w2, w3⟩ := free_of 99 ns (by omega)
        refine while_by (fun σ H6 => ∃ (v4 : Option V) (rd : Int), σ = [some (.ref p), some (.int m), some (.int sh), some (.ref f), v4, some (.int rd)] ∧ H6 = H5 ∧ 1 ≤ rd ∧ rd ≤ 99)
          (fun σ H6 => match σ with | [_, _, _, _, _, some (.int rd)] => ((v - rd) % 99).toNat | _ => 0) ⟨_, _, rfl, rfl, by omega, by omega⟩ ?_ ?_
        · rintro σ H6 ⟨v4, rd, rfl, rfl, d0, d1⟩
          refine ⟨.int rd, rfl, .ref f, rfl, f, _, rfl, .inl (SqL.of hf5), rfl, flat_ints ns, _, rfl, ?_⟩
          rw [show (if false = true then !inV (V.int rd) (ns.map V.int) else inV (V.int rd) (ns.map V.int)) = decide (rd ∈ ns) from inV_ints rd ns]
          refine ite2 (fun hin => ?_) (fun hnin => ?_)
          · refine ⟨.int rd, rfl, .inl ⟨_, rfl, _, _, rfl, rfl, (by show (0 : Int) < 99; decide), _, _, rfl, rfl, ?_⟩⟩
            have hne : rd ≠ v := fun z => w3 (z ▸ of_decide_eq_true hin)
            refine ⟨⟨_, _, rfl, rfl, by omega, by omega⟩, ?_⟩
            show ((v - (rd % 99 + 1)) % 99).toNat < ((v - rd) % 99).toNat
            omega
          · refine ⟨.ref f, rfl, .inl ⟨rfl, _, SqL.of hf5⟩, .int rd, rfl, f, _, .int rd, rfl, rfl, hf5, szl (by rw [List.length_map]; omega), ?_⟩
            refine ⟨_, _, ns ++ [rd], rfl, Dk5.mut nfp nfl, E5'.mut nf0, by rw [upd_same, List.map_append]; rfl, by rw [List.length_append, hn]; rfl, fun n h => ?_⟩
            rcases List.mem_append.mp h with h | h
            · exact hb n h
            · rw [List.mem_singleton.mp h]; omega
        · rintro σ H6 Q1 Q2 hq ⟨x, hx, y, hy, pp, xs, e1, e2, e3, e4, kk, e5, e6⟩
          exact ⟨x, hx, y, hy, pp, xs, e1, e2, e3, e4, kk, e5, hq _ _ e6⟩
    · rintro σ H2 ⟨v4, v5, ns, rfl, Dk3, E3, hf, hn, hb⟩
      refine ⟨.ref f, rfl, f, _, rfl, .inl ⟨SqL.of hf, fun t nt => ?_⟩⟩
      obtain ⟨ntp, ntl⟩ := Dk3.new nt
      exact q _ t ns (Dk3.mut ntp ntl) (E3.new nt) (hid_upd ntp ntl) hn hb
end
end Kr

namespace Kr
open PySem PySem.Spec PyProof.Rows L2
/-! ### the program's tests of single values, over data -/
def tyN : PyData → String
  | .none => "NoneType"
  | .bool _ => "bool"
  | .int _ => "int"
  | .str _ => "str"
  | .list _ => "list"
  | .tuple _ => "tuple"
  | .dict _ => "dict"
theorem Dq.ty {K : PySem.W.Frag} {H : Hp} {v : V} {d : PyData} (h : Dq H v d) : TyX K H v (.type (tyN d)) := by
  cases h with
  | non => exact .base .non
  | bl b => exact .base (.bl b)
  | int i => exact .base (.int i)
  | str x => exact .base (.str x)
  | lst e q => exact .base (.lst e)
  | tup e q => exact .base (.tup e)
  | dic e => exact .base (.dK e)
def isI : PyData → Bool
  | .int _ => true
  | .bool _ => true
  | _ => false
def isBo : PyData → Bool
  | .bool _ => true
  | _ => false
def isTu : PyData → Bool
  | .tuple _ => true
  | _ => false
theorem kit_int {K : PySem.W.Frag} : ∀ d : PyData, PySem.W.kitOne K (.type (tyN d)) (.type "int") = some (isI d)
  | .none => kit_ty (show kitB "NoneType" "int" = some false by decide +kernel)
  | .bool _ => kit_ty (show kitB "bool" "int" = some true by decide +kernel)
  | .int _ => kit_ty (show kitB "int" "int" = some true by decide +kernel)
  | .str _ => kit_ty (show kitB "str" "int" = some false by decide +kernel)
  | .list _ => kit_ty (show kitB "list" "int" = some false by decide +kernel)
  | .tuple _ => kit_ty (show kitB "tuple" "int" = some false by decide +kernel)
  | .dict _ => kit_ty (show kitB "dict" "int" = some false by decide +kernel)
theorem kit_bool {K : PySem.W.Frag} : ∀ d : PyData, PySem.W.kitOne K (.type (tyN d)) (.type "bool") = some (isBo d)
  | .none => kit_ty (show kitB "NoneType" "bool" = some false by decide +kernel)
  | .bool _ => kit_ty (show kitB "bool" "bool" = some true by decide +kernel)
  | .int _ => kit_ty (show kitB "int" "bool" = some false by decide +kernel)
  | .str _ => kit_ty (show kitB "str" "bool" = some false by decide +kernel)
  | .list _ => kit_ty (show kitB "list" "bool" = some false by decide +kernel)
  | .tuple _ => kit_ty (show kitB "tuple" "bool" = some false by decide +kernel)
  | .dict _ => kit_ty (show kitB "dict" "bool" = some false by decide +kernel)
theorem kit_tuple {K : PySem.W.Frag} : ∀ d : PyData, PySem.W.kitOne K (.type (tyN d)) (.type "tuple") = some (isTu d)
  | .none => kit_ty (show kitB "NoneType" "tuple" = some false by decide +kernel)
  | .bool _ => kit_ty (show kitB "bool" "tuple" = some false by decide +kernel)
  | .int _ => kit_ty (show kitB "int" "tuple" = some false by decide +kernel)
  | .str _ => kit_ty (show kitB "str" "tuple" = some false by decide +kernel)
  | .list _ => kit_ty (show kitB "list" "tuple" = some false by decide +kernel)
  | .tuple _ => kit_ty (show kitB "tuple" "tuple" = some true by decide +kernel)
  | .dict _ => kit_ty (show kitB "dict" "tuple" = some false by decide +kernel)
/-- an integer, no bool, within bounds -/
def isB (d : PyData) (lo hi : Int) : Bool := match d with
  | .int i => decide (lo ≤ i) && decide (i ≤ hi)
  | _ => false
/-- a tuple of so many items -/
def isT (d : PyData) (n : Int) : Bool := match d with
  | .tuple xs => decide ((xs.length : Int) = n)
  | _ => false
def spB : Sp := fun vs H Q _ => ∃ (v : V) (d : PyData) (lo hi : Int), vs = [v, .int lo, .int hi] ∧ Dq H v d ∧ Q (.bl (isB d lo hi)) H
def spT : Sp := fun vs H Q _ => ∃ (v : V) (d : PyData) (n : Int), vs = [v, .int n] ∧ Dq H v d ∧ Q (.bl (isT d n)) H
section
variable {P : Program} {w : World} {K : PySem.W.Frag} {mg : Str → Option Value} {base : Heap}
theorem scB : FnScope ["value", "least", "most"] ["value", "least", "most"] (defScope sBetween) := ⟨rfl, rfl, rfl, by decide +kernel, rfl, by decide +kernel, by decide +kernel⟩
theorem o_between (D : Df K mg "is_between" sBetween ["value", "least", "most"]) (B : Bi mg) : Ok P w K mg base 1 "is_between" ["value", "least", "most"] spB := by
  refine D.ok fun f fd F => F.ok scB (fun vs H Q E h => ?_) (fun cdv A outer s H vs Q E hr h => ?_)
  · obtain ⟨v, d, lo, hi, rfl, _⟩ := h
    rfl
  · obtain ⟨v, d, lo, hi, rfl, hd, q⟩ := h
    refine ⟨_, pss_one (ps_ret (pe_and (pe_callB call_isi (by rfl) B.isinstance (by decide +kernel) (pa_cons (pv 0) (pa_cons (pe_bltn (v := .ty "int") (by rfl) B.int boot_int rfl) pa_nil)))
      (pe_and (pe_not (pe_callB call_isi (by rfl) B.isinstance (by decide +kernel) (pa_cons (pv 0) (pa_cons (pe_bltn (v := .ty "bool") (by rfl) B.bool (by decide +kernel) rfl) pa_nil))))
      (pe_one (pe_chain op_le op_le (pv 1) (pv 0) (pv 2)))))), ?_⟩
    refine ⟨v, rfl, v, .ty "int", _, _, isI d, rfl, .ty "int", hd.ty, kit_int d, isI d, rfl, ?_⟩
    by_cases hi1 : isI d = true
    · rw [hi1]
      refine iteT ?_
      refine ⟨v, rfl, v, .ty "bool", _, _, isBo d, rfl, .ty "bool", hd.ty, kit_bool d, isBo d, rfl, !isBo d, rfl, ?_⟩
      cases hd with
      | bl b => exact q
      | int i =>
        refine ⟨.int lo, rfl, .int i, rfl, _, _, rfl, rfl, decide (lo ≤ i), rfl, ?_⟩
        by_cases h1 : lo ≤ i
        · rw [decide_eq_true h1]
          refine iteT ⟨.int hi, rfl, _, _, rfl, rfl, ?_⟩
          have e : isB (.int i) lo hi = decide (i ≤ hi) := by simp [isB, h1]
          rw [e] at q
          exact q
        · rw [decide_eq_false h1]
          have e : isB (.int i) lo hi = false := by simp [isB, h1]
          rw [e] at q
          exact iteF q
      | _ => simp [isI] at hi1
    · rw [Bool.eq_false_iff.mpr hi1]
      have e : isB d lo hi = false := by cases d <;> first | rfl | exact absurd rfl hi1
      rw [e] at q
      exact iteF q
theorem scT : FnScope ["value", "size"] ["value", "size"] (defScope sTupleOf) := ⟨rfl, rfl, rfl, by decide +kernel, rfl, by decide +kernel, by decide +kernel⟩
theorem o_tupleOf (D : Df K mg "is_tuple_of" sTupleOf ["value", "size"]) (B : Bi mg) : Ok P w K mg base 1 "is_tuple_of" ["value", "size"] spT := by
  refine D.ok fun f fd F => F.ok scT (fun vs H Q E h => ?_) (fun cdv A outer s H vs Q E hr h => ?_)
  · obtain ⟨v, d, n, rfl, _⟩ := h
    rfl
  · obtain ⟨v, d, n, rfl, hd, q⟩ := h
    refine ⟨_, pss_one (ps_ret (pe_and (pe_callB call_isi (by rfl) B.isinstance (by decide +kernel) (pa_cons (pv 0) (pa_cons (pe_bltn (v := .ty "tuple") (by rfl) B.tuple (by decide +kernel) rfl) pa_nil)))
      (pe_one (pe_cmpR op_eq (pe_callB call_len_seq (by rfl) B.len boot_len (pa_cons (pv 0) pa_nil)) (pv 1) (nomark _))))), ?_⟩
    refine ⟨v, rfl, v, .ty "tuple", _, _, isTu d, rfl, .ty "tuple", hd.ty, kit_tuple d, isTu d, rfl, ?_⟩
    by_cases hi1 : isTu d = true
    · rw [hi1]
      refine iteT ?_
      cases hd with
      | @tup a xs ds e qa =>
        refine ⟨.ref a, rfl, a, xs, rfl, .inr (SqT.of e), .int n, rfl, rfl, ?_⟩
        have e1 : isT (.tuple ds) n = decide (V.int (xs.length : Int) = V.int n) := by
          rw [qa.len]
          simp [isT]
        rw [e1] at q
        exact q
      | _ => simp [isTu] at hi1
    · rw [Bool.eq_false_iff.mpr hi1]
      have e : isT d n = false := by cases d <;> first | rfl | exact absurd rfl hi1
      rw [e] at q
      exact iteF q
end
end Kr

namespace Kr
open PySem PySem.Spec PyProof.Rows L2
/-! ### what is wrong with lots and standings, over data -/
def iv : PyData → Int
  | .int i => i
  | _ => 0
def eForm : PyData := .str "form"
def eItem (i : Nat) : PyData := .tuple [.str "item", .int (i : Nat)]
def eTwice (i : Nat) : PyData := .tuple [.str "twice", .int (i : Nat)]
def lotGo (n : Int) : Int → Nat → List PyData → PyData
  | _, _, [] => .none
  | least, i, x :: r => if isB x least (n - 1) = true then lotGo n (iv x + 1) (i + 1) r else eItem i
def lotErr (n : Int) : PyData → PyData
  | .tuple ds => lotGo n 0 0 ds
  | _ => eForm
theorem isB_int {x : PyData} {lo hi : Int} (h : isB x lo hi = true) : ∃ i, x = .int i ∧ lo ≤ i ∧ i ≤ hi := by
  cases x with
  | int i =>
    simp [isB] at h
    exact ⟨i, rfl, h.1, h.2⟩
  | _ => simp [isB] at h
/-- a new data result -/
def spErr (F : Int → PyData → PyData) : Sp := fun vs H Q _ => ∃ (n : Int) (v : V) (d : PyData), vs = [.int n, v] ∧ Dq H v d ∧ ∀ H' r, Same H H' → Dq H' r (F n d) → Q r H'
theorem dq_pair {H : Hp} {t : Addr} {x : Str} {i : Nat} (h : H t = some (.tup [.str x, .int (i : Nat)])) : Dq H (.ref t) (.tuple [.str x, .int (i : Nat)]) :=
  .tup h (.cons (.str x) (.cons (.int _) .nil))
section
variable {P : Program} {w : World} {K : PySem.W.Frag} {mg : Str → Option Value} {base : Heap}
theorem scW : FnScope ["value", "low", "high"] ["value", "low", "high"] (defScope sWhole) := ⟨rfl, rfl, rfl, by decide +kernel, rfl, by decide +kernel, by decide +kernel⟩
theorem o_whole (D : Df K mg "_law_is_whole" sWhole ["value", "low", "high"]) (B : Bi mg) : Ok P w K mg base 1 "_law_is_whole" ["value", "low", "high"] spB := by
  refine D.ok fun f fd F => F.ok scW (fun vs H Q E h => ?_) (fun cdv A outer s H vs Q E hr h => ?_)
  · obtain ⟨v, d, lo, hi, rfl, _⟩ := h
    rfl
  · obtain ⟨v, d, lo, hi, rfl, hd, q⟩ := h
    refine ⟨_, pss_one (ps_ret (pe_and (pe_callB call_isi (by rfl) B.isinstance (by decide +kernel) (pa_cons (pv 0) (pa_cons (pe_bltn (v := .ty "int") (by rfl) B.int boot_int rfl) pa_nil)))
      (pe_and (pe_not (pe_callB call_isi (by rfl) B.isinstance (by decide +kernel) (pa_cons (pv 0) (pa_cons (pe_bltn (v := .ty "bool") (by rfl) B.bool (by decide +kernel) rfl) pa_nil))))
      (pe_one (pe_chain op_le op_le (pv 1) (pv 0) (pv 2)))))), ?_⟩
    refine ⟨v, rfl, v, .ty "int", _, _, isI d, rfl, .ty "int", hd.ty, kit_int d, isI d, rfl, ?_⟩
    by_cases hi1 : isI d = true
    · rw [hi1]
      refine iteT ?_
      refine ⟨v, rfl, v, .ty "bool", _, _, isBo d, rfl, .ty "bool", hd.ty, kit_bool d, isBo d, rfl, !isBo d, rfl, ?_⟩
      cases hd with
      | bl b => exact q
      | int i =>
        refine ⟨.int lo, rfl, .int i, rfl, _, _, rfl, rfl, decide (lo ≤ i), rfl, ?_⟩
        by_cases h1 : lo ≤ i
        · rw [decide_eq_true h1]
          refine iteT ⟨.int hi, rfl, _, _, rfl, rfl, ?_⟩
          have e : isB (.int i) lo hi = decide (i ≤ hi) := by simp [isB, h1]
          rw [e] at q
          exact q
        · rw [decide_eq_false h1]
          have e : isB (.int i) lo hi = false := by simp [isB, h1]
          rw [e] at q
          exact iteF q
      | _ => simp [isI] at hi1
    · rw [Bool.eq_false_iff.mpr hi1]
      have e : isB d lo hi = false := by cases d <;> first | rfl | exact absurd rfl hi1
      rw [e] at q
      exact iteF q
theorem scLE : FnScope ["n", "value", "least", "spot", "item"] ["n", "value"] (defScope sLotErr) := ⟨rfl, rfl, rfl, by decide +kernel, rfl, by decide +kernel, by decide +kernel⟩
theorem f_lotErr {f : Addr} {fd : FuncData} (F : Fun K "lot_error" "lot_error" sLotErr f fd) (B : Bi mg) (b : Ok P w K mg base 1 "is_between" ["value", "least", "most"] spB) : FnOk P w K mg base CX0 2 f fd ["n", "value"] (spErr lotErr) := by
  refine F.ok scLE (fun vs H Q E h => ?_) (fun cdv A outer s H vs Q E hr h => ?_)
  · obtain ⟨n, v, d, rfl, _⟩ := h
    rfl
  · obtain ⟨n, v, d, rfl, hd, q⟩ := h
    refine ⟨_, pss_cons (ps_if (pt_not (pt_val (pe_callB call_isi (by rfl) B.isinstance (by decide +kernel) (pa_cons (pv 1) (pa_cons (pe_bltn (v := .ty "tuple") (by rfl) B.tuple (by decide +kernel) rfl) pa_nil))))) (pss_one (ps_ret pe_str)) pss_nil)
      (pss_cons (ps_set (i := 2) scLE.nd rfl (.inl rfl) pe_int)
      (pss_cons (ps_for PassesOwn.never rfl (pi_enumT (by rfl) B.enumerate (pa_cons (pv 1) pa_nil)) (pg_tup rfl (pgs_cons (pg_name (i := 3) scLE.nd rfl (.inl rfl)) (pgs_cons (pg_name (i := 4) scLE.nd rfl (.inl rfl)) pgs_nil)))
        (pss_cons (ps_if (pt_not (pt_val (pe_fn b hr (by rfl) (pa_cons (pv 4) (pa_cons (pv 2) (pa_cons (pe_op op_sub (pv 0) pe_int) pa_nil)))))) (pss_one (ps_ret (pe_tup (pa_cons pe_str (pa_cons (pv 3) pa_nil))))) pss_nil)
        (pss_one (ps_set (i := 2) scLE.nd rfl (.inl rfl) (pe_op op_add (pv 4) pe_int)))))
      (pss_one (ps_ret pe_non)))), ?_⟩
    refine ⟨v, rfl, v, .ty "tuple", _, _, isTu d, rfl, .ty "tuple", hd.ty, kit_tuple d, isTu d, rfl, ?_⟩
    by_cases ht : isTu d = true
    · rw [ht]
      refine iteF ?_
      cases hd with
      | @tup a xs ds e qa =>
        refine ⟨.ref a, rfl, a, xs, rfl, SqT.of e, for_it walk_enumT (fun i σ H2 => ∃ (least : Int) (y3 y4 : Option V), σ = [some (.int n), some (.ref a), some (.int least), y3, y4] ∧ Same H H2 ∧ lotErr n (.tuple ds) = lotGo n least i (ds.drop i))
          ⟨0, none, none, rfl, Same.refl _, rfl⟩ (fun i σ H2 _ ⟨_, _, _, _, sm, _⟩ => SqT.of (sm _ _ e)) ?_ ?_⟩
        · rintro i _ σ H2 _ hi ⟨least, y3, y4, rfl, sm, el⟩ ⟨T, x, y, rfl, nT, rfl, e1, e2⟩
          cases Option.some.inj e1
          obtain ⟨dy, hdy, hq⟩ := (DqA.up sm qa).get e2
          have sT : Same H2 (upd H2 T (.tup [.int (i : Nat), y])) := same_new nT
          have ed : ds.drop i = dy :: ds.drop (i + 1) := by
            have := List.getElem?_eq_some_iff.mp hdy
            rw [List.drop_eq_getElem_cons this.1, this.2]
          refine ⟨T, [.int (i : Nat), y], rfl, SqT.of upd_same, rfl, .int (i : Nat), [y], rfl, y, [], rfl, rfl, ?_⟩
          refine ⟨y, rfl, .int least, rfl, .int n, rfl, n, 1, rfl, rfl, y, dy, least, n - 1, rfl, hq.up sT, isB dy least (n - 1), rfl, ?_⟩
          by_cases hb : isB dy least (n - 1) = true
          · rw [hb]
            refine iteF ?_
            obtain ⟨z, rfl, z0, z1⟩ := isB_int hb
            cases hq
            refine ⟨.int z, rfl, z, 1, rfl, rfl, ?_⟩
            refine ⟨z + 1, _, _, rfl, sm.trans sT, ?_⟩
            rw [el, ed]
            show (if _ then _ else _) = _
            rw [if_pos hb]
            rfl
          · rw [Bool.eq_false_iff.mpr hb]
            refine iteT ⟨.int (i : Nat), rfl, by show 2 ≤ sizeLine; decide, fun t nt => ?_⟩
            refine q _ _ ((sm.trans sT).trans (same_new nt)) ?_
            rw [el, ed]
            show Dq _ _ (if _ then _ else _)
            rw [if_neg hb]
            exact dq_pair upd_same
        · rintro σ H2 ⟨least, y3, y4, rfl, sm, el⟩
          refine q _ _ sm ?_
          rw [el, List.drop_of_length_le (by rw [← qa.len]; exact Nat.le_refl _)]
          exact .non
      | _ => simp [isTu] at ht
    · rw [Bool.eq_false_iff.mpr ht]
      refine iteT (q _ _ (Same.refl _) ?_)
      have e : lotErr n d = eForm := by cases d <;> first | rfl | exact absurd rfl ht
      rw [e]
      exact .str _
theorem scLD : FnScope ["many", "value", "spot", "item"] ["many", "value"] (defScope sLotDue) := ⟨rfl, rfl, rfl, by decide +kernel, rfl, by decide +kernel, by decide +kernel⟩
theorem o_lotDue (D : Df K mg "_law_lot_due" sLotDue ["many", "value"]) (B : Bi mg) (b : Ok P w K mg base 1 "_law_is_whole" ["value", "low", "high"] spB) : Ok P w K mg base 2 "_law_lot_due" ["many", "value"] (spErr lotErr) := by
  refine D.ok fun f fd F => F.ok scLD (fun vs H Q E h => ?_) (fun cdv A outer s H vs Q E hr h => ?_)
  · obtain ⟨n, v, d, rfl, _⟩ := h
    rfl
  · obtain ⟨n, v, d, rfl, hd, q⟩ := h
    refine ⟨_, pss_cons (ps_if (pt_not (pt_val (pe_callB call_isi (by rfl) B.isinstance (by decide +kernel) (pa_cons (pv 1) (pa_cons (pe_bltn (v := .ty "tuple") (by rfl) B.tuple (by decide +kernel) rfl) pa_nil))))) (pss_one (ps_ret pe_str)) pss_nil)
      (pss_cons (ps_for PassesOwn.never rfl (pi_enumT (by rfl) B.enumerate (pa_cons (pv 1) pa_nil)) (pg_tup rfl (pgs_cons (pg_name (i := 2) scLD.nd rfl (.inl rfl)) (pgs_cons (pg_name (i := 3) scLD.nd rfl (.inl rfl)) pgs_nil)))
        (pss_one (ps_if (PW.pt (pw_or (pt_not (pt_val (pe_fn b hr (by rfl) (pa_cons (pv 3) (pa_cons pe_int (pa_cons (pe_op op_sub (pv 0) pe_int) pa_nil))))))
            (pw_or1 (PW.pt (pw_and (pt_cmpR op_gt (pv 2) pe_int (nomark _)) (pw_and1 (pt_cmpR op_le (pv 3) (pe_ix ix_tup (pv 1) (pe_op op_sub (pv 2) pe_int) (fun _ _ => rfl)) (nomark _))))))))
          (pss_one (ps_ret (pe_tup (pa_cons pe_str (pa_cons (pv 2) pa_nil))))) pss_nil)))
      (pss_one (ps_ret pe_non))), ?_⟩
    refine ⟨v, rfl, v, .ty "tuple", _, _, isTu d, rfl, .ty "tuple", hd.ty, kit_tuple d, isTu d, rfl, ?_⟩
    by_cases ht : isTu d = true
    · rw [ht]
      refine iteF ?_
      cases hd with
      | @tup a xs ds e qa =>
        refine ⟨.ref a, rfl, a, xs, rfl, SqT.of e, for_it walk_enumT (fun i σ H2 => ∃ (least : Int) (y2 y3 : Option V), σ = [some (.int n), some (.ref a), y2, y3] ∧ Same H H2 ∧ lotErr n (.tuple ds) = lotGo n least i (ds.drop i) ∧
            ((i = 0 ∧ least = 0) ∨ ∃ (j : Nat) (z : Int), i = j + 1 ∧ xs[j]? = some (.int z) ∧ least = z + 1 ∧ 0 ≤ z))
          ⟨0, none, none, rfl, Same.refl _, rfl, .inl ⟨rfl, rfl⟩⟩ (fun i σ H2 _ ⟨_, _, _, _, sm, _⟩ => SqT.of (sm _ _ e)) ?_ ?_⟩
        · rintro i _ σ H2 _ hi ⟨least, y2, y3, rfl, sm, el, hp⟩ ⟨T, x, y, rfl, nT, rfl, e1, e2⟩
          cases Option.some.inj e1
          obtain ⟨dy, hdy, hq⟩ := (DqA.up sm qa).get e2
          have sT : Same H2 (upd H2 T (.tup [.int (i : Nat), y])) := same_new nT
          have ed : ds.drop i = dy :: ds.drop (i + 1) := by
            have := List.getElem?_eq_some_iff.mp hdy
            rw [List.drop_eq_getElem_cons this.1, this.2]
          refine ⟨T, [.int (i : Nat), y], rfl, SqT.of upd_same, rfl, .int (i : Nat), [y], rfl, y, [], rfl, rfl, ?_⟩
          refine ⟨y, rfl, .int n, rfl, n, 1, rfl, rfl, y, dy, 0, n - 1, rfl, hq.up sT, isB dy 0 (n - 1), rfl, ?_⟩
          -- what is told if the item is wrong
          have bad : isB dy least (n - 1) = false → ∀ H3 t, Same H2 H3 → H3 t = some (.tup [.str "item", .int (i : Nat)]) → Q (.ref t) H3 := fun hb H3 t s3 h3 => by
            refine q _ _ (sm.trans s3) ?_
            rw [el, ed]
            show Dq _ _ (if _ then _ else _)
            rw [if_neg (by rw [hb]; exact Bool.false_ne_true)]
            exact dq_pair h3
          have good : ∀ z : Int, y = .int z → isB dy least (n - 1) = true → 0 ≤ z → ∃ (least : Int) (y2' y3' : Option V), [some (V.int n), some (V.ref a), some (V.int (i : Nat)), some y] = [some (.int n), some (.ref a), y2', y3'] ∧ Same H (upd H2 T (.tup [.int (i : Nat), y])) ∧ lotErr n (.tuple ds) = lotGo n least (i + 1) (ds.drop (i + 1)) ∧
              ((i + 1 = 0 ∧ least = 0) ∨ ∃ (j : Nat) (z : Int), i + 1 = j + 1 ∧ xs[j]? = some (.int z) ∧ least = z + 1 ∧ 0 ≤ z) := fun z ey hb z0 => by
            obtain ⟨z', rfl, _, _⟩ := isB_int hb
            have ez : y = .int z' := by cases hq; rfl
            rw [ey] at ez
            cases V.int.inj ez
            refine ⟨z + 1, _, _, rfl, sm.trans sT, ?_, .inr ⟨i, z, rfl, (show xs[i]? = some y from e2).trans (congrArg some ey), rfl, z0⟩⟩
            rw [el, ed]
            show (if _ then _ else _) = _
            rw [if_pos hb]
            rfl
          by_cases hb0 : isB dy 0 (n - 1) = true
          · rw [hb0]
            obtain ⟨z, rfl, z0, z1⟩ := isB_int hb0
            cases hq
            refine iteF ⟨.int (i : Nat), rfl, _, _, rfl, rfl, _, rfl, ?_⟩
            rcases hp with ⟨rfl, rfl⟩ | ⟨j, w, rfl, hj, rfl, w0⟩
            · refine iteF ?_
              exact iteF (good z rfl hb0 z0)
            · rw [decide_eq_true (show (0 : Int) < ((j + 1 : Nat) : Int) by omega)]
              refine iteT ⟨.int z, rfl, .ref a, rfl, .int ((j + 1 : Nat) : Int), rfl, _, _, rfl, rfl, a, xs, _, .int w, rfl, rfl, SqT.of (sT _ _ (sm _ _ e)), ?_, z, w, rfl, rfl, _, rfl, ?_⟩
              · rw [show ((j + 1 : Nat) : Int) - 1 = (j : Int) by omega]
                exact atI_nat hj
              refine ite2 (fun h1 => ?_) (fun h1 => ?_)
              · have h2 : z ≤ w := of_decide_eq_true h1
                refine ⟨.int ((j + 1 : Nat) : Int), rfl, by show 2 ≤ sizeLine; decide, fun t nt => ?_⟩
                exact bad (by simp [isB]; omega) _ t (sT.trans (same_new nt)) upd_same
              · have h2 : ¬ z ≤ w := fun h => h1 (decide_eq_true h)
                exact good z rfl (by simp [isB]; omega) z0
          · rw [Bool.eq_false_iff.mpr hb0]
            refine iteT ⟨.int (i : Nat), rfl, by show 2 ≤ sizeLine; decide, fun t nt => ?_⟩
            refine bad (Bool.eq_false_iff.mpr fun hb => hb0 ?_) _ t (sT.trans (same_new nt)) upd_same
            obtain ⟨z, rfl, z0, z1⟩ := isB_int hb
            have l0 : 0 ≤ least := by
              rcases hp with ⟨_, h⟩ | ⟨_, w, _, _, h, w0⟩ <;> omega
            simp [isB]
            omega
        · rintro σ H2 ⟨least, y3, y4, rfl, sm, el, _⟩
          refine q _ _ sm ?_
          rw [el, List.drop_of_length_le (by rw [← qa.len]; exact Nat.le_refl _)]
          exact .non
      | _ => simp [isTu] at ht
    · rw [Bool.eq_false_iff.mpr ht]
      refine iteT (q _ _ (Same.refl _) ?_)
      have e : lotErr n d = eForm := by cases d <;> first | rfl | exact absurd rfl ht
      rw [e]
      exact .str _
end
end Kr

namespace Kr
open PySem PySem.Spec PyProof.Rows L2
/-- the first item that is no whole number from 0 to 99; else k -/
def itGo (k : PyData) : Nat → List PyData → PyData
  | _, [] => k
  | i, x :: r => if isB x 0 99 = true then itGo k (i + 1) r else eItem i
/-- the first one above 0 that stands ahead, too -/
def twGo : List Int → List Int → PyData
  | _, [] => .none
  | pre, x :: r => if 0 < x ∧ x ∈ pre then eTwice pre.length else twGo (pre ++ [x]) r
def standGo (ds : List PyData) : PyData := itGo (twGo [] (ds.map iv)) 0 ds
def standErr (n : Int) : PyData → PyData
  | .tuple ds => if (ds.length : Int) = n then standGo ds else eForm
  | _ => eForm
section
variable {P : Program} {w : World} {K : PySem.W.Frag} {mg : Str → Option Value} {base : Heap}
theorem scSE : FnScope ["n", "value", "spot", "item"] ["n", "value"] (defScope sStandErr) := ⟨rfl, rfl, rfl, by decide +kernel, rfl, by decide +kernel, by decide +kernel⟩
theorem f_standErr {f : Addr} {fd : FuncData} (F : Fun K "standing_error" "standing_error" sStandErr f fd) (B : Bi mg) (hM : ∃ t, mg "MAX_RIDER" = some (.int 99 t)) (c : Ok P w K mg base 1 "is_tuple_of" ["value", "size"] spT) (b : Ok P w K mg base 1 "is_between" ["value", "least", "most"] spB) : FnOk P w K mg base CX0 2 f fd ["n", "value"] (spErr standErr) := by
  obtain ⟨tM, gM⟩ := hM
  refine F.ok scSE (fun vs H Q E h => ?_) (fun cdv A outer s H vs Q E hr h => ?_)
  · obtain ⟨n, v, d, rfl, _⟩ := h
    rfl
  · obtain ⟨n, v, d, rfl, hd, q⟩ := h
    refine ⟨_, pss_cons (ps_if (pt_not (pt_val (pe_fn c hr (by rfl) (pa_cons (pv 1) (pa_cons (pv 0) pa_nil))))) (pss_one (ps_ret pe_str)) pss_nil)
      (pss_cons (ps_for PassesOwn.never rfl (pi_enumT (by rfl) B.enumerate (pa_cons (pv 1) pa_nil)) (pg_tup rfl (pgs_cons (pg_name (i := 2) scSE.nd rfl (.inl rfl)) (pgs_cons (pg_name (i := 3) scSE.nd rfl (.inl rfl)) pgs_nil)))
        (pss_one (ps_if (pt_not (pt_val (pe_fn b hr (by rfl) (pa_cons (pv 3) (pa_cons pe_int (pa_cons (pe_glob (v := .int 99) (by rfl) gM ⟨_, rfl⟩) pa_nil)))))) (pss_one (ps_ret (pe_tup (pa_cons pe_str (pa_cons (pv 2) pa_nil))))) pss_nil)))
      (pss_cons (ps_for PassesOwn.never rfl (pi_enumT (by rfl) B.enumerate (pa_cons (pv 1) pa_nil)) (pg_tup rfl (pgs_cons (pg_name (i := 2) scSE.nd rfl (.inl rfl)) (pgs_cons (pg_name (i := 3) scSE.nd rfl (.inl rfl)) pgs_nil)))
        (pss_one (ps_if (PW.pt (pw_and (pt_cmpR op_gt (pv 3) pe_int (nomark _)) (pw_and1 (pt_cmpR op_in_seq (pv 3) (pe_slice sl_tup (pv 1) po_none (po_some (pv 2))) (by rfl))))) (pss_one (ps_ret (pe_tup (pa_cons pe_str (pa_cons (pv 2) pa_nil))))) pss_nil)))
      (pss_one (ps_ret pe_non)))), ?_⟩
    by_cases ht : isT d n = true
    · refine ⟨v, rfl, .int n, rfl, v, d, n, rfl, hd, isT d n, rfl, ?_⟩
      rw [ht]
      refine iteF ?_
      cases hd with
      | @tup a xs ds e qa =>
        have en : standErr n (.tuple ds) = standGo ds := by
          have ht' : (ds.length : Int) = n := by simpa [isT] using ht
          show (if (ds.length : Int) = n then standGo ds else eForm) = _
          rw [if_pos ht']
        rw [en] at q
        have hdrop : ∀ (i : Nat) (dy : PyData), ds[i]? = some dy → ds.drop i = dy :: ds.drop (i + 1) := fun i dy h => by
          have := List.getElem?_eq_some_iff.mp h
          rw [List.drop_eq_getElem_cons this.1, this.2]
        refine ⟨.ref a, rfl, a, xs, rfl, SqT.of e, for_it walk_enumT (fun i σ H2 => ∃ (y2 y3 : Option V), σ = [some (.int n), some (.ref a), y2, y3] ∧ Same H H2 ∧ standGo ds = itGo (twGo [] (ds.map iv)) i (ds.drop i) ∧ ∀ (j : Nat), j < i → ∃ z : Int, xs[j]? = some (.int z) ∧ ds[j]? = some (.int z))
          ⟨none, none, rfl, Same.refl _, rfl, fun j h => absurd h (Nat.not_lt_zero _)⟩ (fun i σ H2 _ ⟨_, _, _, sm, _⟩ => SqT.of (sm _ _ e)) ?_ ?_⟩
        · rintro i _ σ H2 _ hi ⟨y2, y3, rfl, sm, el, hall⟩ ⟨T, x, y, rfl, nT, rfl, e1, e2⟩
          cases Option.some.inj e1
          obtain ⟨dy, hdy, hq⟩ := (DqA.up sm qa).get e2
          have sT : Same H2 (upd H2 T (.tup [.int (i : Nat), y])) := same_new nT
          refine ⟨T, [.int (i : Nat), y], rfl, SqT.of upd_same, rfl, .int (i : Nat), [y], rfl, y, [], rfl, rfl, ?_⟩
          refine ⟨y, rfl, y, dy, 0, 99, rfl, hq.up sT, isB dy 0 99, rfl, ?_⟩
          rw [hdrop i dy hdy] at el
          by_cases hb : isB dy 0 99 = true
          · rw [hb]
            refine iteF ?_
            obtain ⟨z, rfl, z0, z1⟩ := isB_int hb
            have ey : y = .int z := by cases hq; rfl
            refine ⟨_, _, rfl, sm.trans sT, ?_, fun j hj => ?_⟩
            · rw [el]
              show (if _ then _ else _) = _
              rw [if_pos hb]
            · by_cases hji : j = i
              · subst hji
                exact ⟨z, (show xs[j]? = some y from e2).trans (congrArg some ey), hdy⟩
              · exact hall j (by omega)
          · rw [Bool.eq_false_iff.mpr hb]
            refine iteT ⟨.int (i : Nat), rfl, by show 2 ≤ sizeLine; decide, fun t nt => ?_⟩
            refine q _ _ ((sm.trans sT).trans (same_new nt)) ?_
            rw [el]
            show Dq _ _ (if _ then _ else _)
            rw [if_neg hb]
            exact dq_pair upd_same
        · rintro σ H2 ⟨y2, y3, rfl, sm, el, hall⟩
          have elen := qa.len
          -- all are whole numbers now
          obtain ⟨ns, hxs, hds⟩ : ∃ ns : List Int, xs = ns.map V.int ∧ ds.map iv = ns := by
            refine ⟨ds.map iv, List.ext_getElem? fun j => ?_, rfl⟩
            by_cases hj : j < xs.length
            · obtain ⟨z, h1, h2⟩ := hall j hj
              rw [h1, List.getElem?_map, List.getElem?_map, h2]
              rfl
            · rw [List.getElem?_eq_none (by omega), List.getElem?_eq_none (by rw [List.length_map, List.length_map]; omega)]
          rw [List.drop_of_length_le (by rw [← elen]; exact Nat.le_refl _), hds] at el
          have el2 : standGo ds = twGo [] ns := el
          rw [el2] at q
          subst hxs
          have e2' : H2 a = some (.tup (ns.map V.int)) := sm _ _ e
          refine ⟨.ref a, rfl, a, _, rfl, SqT.of e2', for_it walk_enumT (fun i σ H3 => ∃ (y2 y3 : Option V), σ = [some (.int n), some (.ref a), y2, y3] ∧ Same H2 H3 ∧ twGo [] ns = twGo (ns.take i) (ns.drop i))
            ⟨y2, y3, rfl, Same.refl _, rfl⟩ (fun i σ H3 _ ⟨_, _, _, s3, _⟩ => SqT.of (s3 _ _ e2')) ?_ ?_⟩
          · rintro i _ σ H3 _ hi ⟨y2, y3, rfl, s3, el3⟩ ⟨T, x, y, rfl, nT, rfl, e1, e5⟩
            cases Option.some.inj e1
            rw [List.length_map] at hi
            have ey : y = .int ns[i] := by
              have e6 : (ns.map V.int)[i]? = some y := e5
              rw [List.getElem?_map, List.getElem?_eq_getElem hi] at e6
              exact (Option.some.inj e6).symm
            subst ey
            have sT : Same H3 (upd H3 T (.tup [.int (i : Nat), .int ns[i]])) := same_new nT
            refine ⟨T, [.int (i : Nat), .int ns[i]], rfl, SqT.of upd_same, rfl, .int (i : Nat), [.int ns[i]], rfl, .int ns[i], [], rfl, rfl, ?_⟩
            rw [List.drop_eq_getElem_cons hi] at el3
            generalize hz : ns[i] = z at el3 sT
            have next : ¬ (0 < z ∧ z ∈ ns.take i) → twGo [] ns = twGo (ns.take (i + 1)) (ns.drop (i + 1)) := fun h => by
              rw [el3]
              show (if _ then _ else _) = _
              rw [if_neg h, List.take_add_one, List.getElem?_eq_getElem hi, hz]
              rfl
            refine ⟨.int z, rfl, _, _, rfl, rfl, _, rfl, ?_⟩
            by_cases hp : 0 < z
            · rw [decide_eq_true hp]
              refine iteT ⟨.int z, rfl, .ref a, rfl, .int (i : Nat), rfl, (i : Int), rfl, a, _, rfl, SqT.of (sT _ _ (s3 _ _ e2')), ?_, fun t nt => ?_⟩
              · rw [HT.sIx_none, show HT.sIx (ns.map V.int).length (ns.map V.int).length (some (i : Int)) = min i (ns.map V.int).length from HT.sIx_nat _ _ i, List.length_map]
                omega
              have ec : cutV (ns.map V.int) none (some (i : Int)) = (ns.take i).map V.int := by
                unfold cutV
                rw [HT.sIx_none, show HT.sIx (ns.map V.int).length (ns.map V.int).length (some (i : Int)) = min i (ns.map V.int).length from HT.sIx_nat _ _ i, List.drop_zero, Nat.sub_zero, List.length_map, Nat.min_eq_left (Nat.le_of_lt hi), List.map_take]
              rw [ec]
              refine ⟨t, _, rfl, .inr (SqT.of upd_same), rfl, flat_ints _, _, rfl, ?_⟩
              rw [show (if false = true then !inV (V.int z) ((ns.take i).map V.int) else inV (V.int z) ((ns.take i).map V.int)) = decide (z ∈ ns.take i) from inV_ints z _]
              refine ite2 (fun h1 => ?_) (fun h1 => ?_)
              · refine ⟨.int (i : Nat), rfl, by show 2 ≤ sizeLine; decide, fun t2 nt2 => ?_⟩
                refine q _ _ (sm.trans (s3.trans ((sT.trans (same_new nt)).trans (same_new nt2)))) ?_
                rw [el3]
                show Dq _ _ (if _ then _ else _)
                rw [if_pos ⟨hp, of_decide_eq_true h1⟩, show (ns.take i).length = i by rw [List.length_take]; omega]
                exact dq_pair upd_same
              · exact ⟨_, _, rfl, s3.trans (sT.trans (same_new nt)), next fun h => h1 (decide_eq_true h.2)⟩
            · rw [decide_eq_false hp]
              refine iteF (iteF ?_)
              exact ⟨_, _, rfl, s3.trans sT, next fun h => hp h.1⟩
          · rintro σ H3 ⟨y2, y3, rfl, s3, el3⟩
            refine q _ _ (sm.trans s3) ?_
            rw [el3, List.drop_of_length_le (by rw [List.length_map]; exact Nat.le_refl _)]
            exact .non
      | _ => simp [isT] at ht
    · refine ⟨v, rfl, .int n, rfl, v, d, n, rfl, hd, isT d n, rfl, ?_⟩
      rw [Bool.eq_false_iff.mpr ht]
      refine iteT (q _ _ (Same.refl _) ?_)
      have e : standErr n d = eForm := by
        cases d with
        | tuple ds =>
          have ht' : ¬ (ds.length : Int) = n := by simpa [isT] using ht
          show (if (ds.length : Int) = n then standGo ds else eForm) = _
          rw [if_neg ht']
        | _ => rfl
      rw [e]
      exact .str _

theorem scSD : FnScope ["many", "value", "spot", "item"] ["many", "value"] (defScope sStandDue) := ⟨rfl, rfl, rfl, by decide +kernel, rfl, by decide +kernel, by decide +kernel⟩
theorem o_standDue (D : Df K mg "_law_standing_due" sStandDue ["many", "value"]) (B : Bi mg) (b : Ok P w K mg base 1 "_law_is_whole" ["value", "low", "high"] spB) : Ok P w K mg base 2 "_law_standing_due" ["many", "value"] (spErr standErr) := by
  refine D.ok fun f fd F => F.ok scSD (fun vs H Q E h => ?_) (fun cdv A outer s H vs Q E hr h => ?_)
  · obtain ⟨n, v, d, rfl, _⟩ := h
    rfl
  · obtain ⟨n, v, d, rfl, hd, q⟩ := h
    refine ⟨_, pss_cons (ps_if (PW.pt (pw_or (pt_not (pt_val (pe_callB call_isi (by rfl) B.isinstance (by decide +kernel) (pa_cons (pv 1) (pa_cons (pe_bltn (v := .ty "tuple") (by rfl) B.tuple (by decide +kernel) rfl) pa_nil))))) (pw_or1 (pt_cmpR op_ne (pe_callB call_len_seq (by rfl) B.len boot_len (pa_cons (pv 1) pa_nil)) (pv 0) (nomark _))))) (pss_one (ps_ret pe_str)) pss_nil)
      (pss_cons (ps_for PassesOwn.never rfl (pi_enumT (by rfl) B.enumerate (pa_cons (pv 1) pa_nil)) (pg_tup rfl (pgs_cons (pg_name (i := 2) scSD.nd rfl (.inl rfl)) (pgs_cons (pg_name (i := 3) scSD.nd rfl (.inl rfl)) pgs_nil)))
        (pss_one (ps_if (pt_not (pt_val (pe_fn b hr (by rfl) (pa_cons (pv 3) (pa_cons pe_int (pa_cons pe_int pa_nil)))))) (pss_one (ps_ret (pe_tup (pa_cons pe_str (pa_cons (pv 2) pa_nil))))) pss_nil)))
      (pss_cons (ps_for PassesOwn.never rfl (pi_enumT (by rfl) B.enumerate (pa_cons (pv 1) pa_nil)) (pg_tup rfl (pgs_cons (pg_name (i := 2) scSD.nd rfl (.inl rfl)) (pgs_cons (pg_name (i := 3) scSD.nd rfl (.inl rfl)) pgs_nil)))
        (pss_one (ps_if (PW.pt (pw_and (pt_cmpR op_gt (pv 3) pe_int (nomark _)) (pw_and1 (pt_cmpR op_in_seq (pv 3) (pe_slice sl_tup (pv 1) po_none (po_some (pv 2))) (by rfl))))) (pss_one (ps_ret (pe_tup (pa_cons pe_str (pa_cons (pv 2) pa_nil))))) pss_nil)))
      (pss_one (ps_ret pe_non)))), ?_⟩
    by_cases ht : isT d n = true
    · have htu : isTu d = true := by cases d <;> first | rfl | (simp [isT] at ht)
      refine ⟨v, rfl, v, .ty "tuple", _, _, isTu d, rfl, .ty "tuple", hd.ty, kit_tuple d, isTu d, rfl, ?_⟩
      rw [htu]
      refine iteF ?_
      obtain ⟨a, xs0, rfl, e0, q0⟩ : ∃ (a : Addr) (xs0 : List V), v = .ref a ∧ H a = some (.tup xs0) ∧ (xs0.length : Int) = n := by
        cases hd with
        | tup e qa =>
          refine ⟨_, _, rfl, e, ?_⟩
          rw [qa.len]
          simpa [isT] using ht
        | _ => simp [isT] at ht
      refine ⟨.ref a, rfl, a, xs0, rfl, .inr (SqT.of e0), .int n, rfl, rfl, _, rfl, ?_⟩
      rw [q0]
      refine iteNS rfl ?_
      cases hd with
      | @tup a xs ds e qa =>
        have en : standErr n (.tuple ds) = standGo ds := by
          have ht' : (ds.length : Int) = n := by simpa [isT] using ht
          show (if (ds.length : Int) = n then standGo ds else eForm) = _
          rw [if_pos ht']
        rw [en] at q
        have hdrop : ∀ (i : Nat) (dy : PyData), ds[i]? = some dy → ds.drop i = dy :: ds.drop (i + 1) := fun i dy h => by
          have := List.getElem?_eq_some_iff.mp h
          rw [List.drop_eq_getElem_cons this.1, this.2]
        refine ⟨.ref a, rfl, a, xs, rfl, SqT.of e, for_it walk_enumT (fun i σ H2 => ∃ (y2 y3 : Option V), σ = [some (.int n), some (.ref a), y2, y3] ∧ Same H H2 ∧ standGo ds = itGo (twGo [] (ds.map iv)) i (ds.drop i) ∧ ∀ (j : Nat), j < i → ∃ z : Int, xs[j]? = some (.int z) ∧ ds[j]? = some (.int z))
          ⟨none, none, rfl, Same.refl _, rfl, fun j h => absurd h (Nat.not_lt_zero _)⟩ (fun i σ H2 _ ⟨_, _, _, sm, _⟩ => SqT.of (sm _ _ e)) ?_ ?_⟩
        · rintro i _ σ H2 _ hi ⟨y2, y3, rfl, sm, el, hall⟩ ⟨T, x, y, rfl, nT, rfl, e1, e2⟩
          cases Option.some.inj e1
          obtain ⟨dy, hdy, hq⟩ := (DqA.up sm qa).get e2
          have sT : Same H2 (upd H2 T (.tup [.int (i : Nat), y])) := same_new nT
          refine ⟨T, [.int (i : Nat), y], rfl, SqT.of upd_same, rfl, .int (i : Nat), [y], rfl, y, [], rfl, rfl, ?_⟩
          refine ⟨y, rfl, y, dy, 0, 99, rfl, hq.up sT, isB dy 0 99, rfl, ?_⟩
          rw [hdrop i dy hdy] at el
          by_cases hb : isB dy 0 99 = true
          · rw [hb]
            refine iteF ?_
            obtain ⟨z, rfl, z0, z1⟩ := isB_int hb
            have ey : y = .int z := by cases hq; rfl
            refine ⟨_, _, rfl, sm.trans sT, ?_, fun j hj => ?_⟩
            · rw [el]
              show (if _ then _ else _) = _
              rw [if_pos hb]
            · by_cases hji : j = i
              · subst hji
                exact ⟨z, (show xs[j]? = some y from e2).trans (congrArg some ey), hdy⟩
              · exact hall j (by omega)
          · rw [Bool.eq_false_iff.mpr hb]
            refine iteT ⟨.int (i : Nat), rfl, by show 2 ≤ sizeLine; decide, fun t nt => ?_⟩
            refine q _ _ ((sm.trans sT).trans (same_new nt)) ?_
            rw [el]
            show Dq _ _ (if _ then _ else _)
            rw [if_neg hb]
            exact dq_pair upd_same
        · rintro σ H2 ⟨y2, y3, rfl, sm, el, hall⟩
          have elen := qa.len
          -- all are whole numbers now
          obtain ⟨ns, hxs, hds⟩ : ∃ ns : List Int, xs = ns.map V.int ∧ ds.map iv = ns := by
            refine ⟨ds.map iv, List.ext_getElem? fun j => ?_, rfl⟩
            by_cases hj : j < xs.length
            · obtain ⟨z, h1, h2⟩ := hall j hj
              rw [h1, List.getElem?_map, List.getElem?_map, h2]
              rfl
            · rw [List.getElem?_eq_none (by omega), List.getElem?_eq_none (by rw [List.length_map, List.length_map]; omega)]
          rw [List.drop_of_length_le (by rw [← elen]; exact Nat.le_refl _), hds] at el
          have el2 : standGo ds = twGo [] ns := el
          rw [el2] at q
          subst hxs
          have e2' : H2 a = some (.tup (ns.map V.int)) := sm _ _ e
          refine ⟨.ref a, rfl, a, _, rfl, SqT.of e2', for_it walk_enumT (fun i σ H3 => ∃ (y2 y3 : Option V), σ = [some (.int n), some (.ref a), y2, y3] ∧ Same H2 H3 ∧ twGo [] ns = twGo (ns.take i) (ns.drop i))
            ⟨y2, y3, rfl, Same.refl _, rfl⟩ (fun i σ H3 _ ⟨_, _, _, s3, _⟩ => SqT.of (s3 _ _ e2')) ?_ ?_⟩
          · rintro i _ σ H3 _ hi ⟨y2, y3, rfl, s3, el3⟩ ⟨T, x, y, rfl, nT, rfl, e1, e5⟩
            cases Option.some.inj e1
            rw [List.length_map] at hi
            have ey : y = .int ns[i] := by
              have e6 : (ns.map V.int)[i]? = some y := e5
              rw [List.getElem?_map, List.getElem?_eq_getElem hi] at e6
              exact (Option.some.inj e6).symm
            subst ey
            have sT : Same H3 (upd H3 T (.tup [.int (i : Nat), .int ns[i]])) := same_new nT
            refine ⟨T, [.int (i : Nat), .int ns[i]], rfl, SqT.of upd_same, rfl, .int (i : Nat), [.int ns[i]], rfl, .int ns[i], [], rfl, rfl, ?_⟩
            rw [List.drop_eq_getElem_cons hi] at el3
            generalize hz : ns[i] = z at el3 sT
            have next : ¬ (0 < z ∧ z ∈ ns.take i) → twGo [] ns = twGo (ns.take (i + 1)) (ns.drop (i + 1)) := fun h => by
              rw [el3]
              show (if _ then _ else _) = _
              rw [if_neg h, List.take_add_one, List.getElem?_eq_getElem hi, hz]
              rfl
            refine ⟨.int z, rfl, _, _, rfl, rfl, _, rfl, ?_⟩
            by_cases hp : 0 < z
            · rw [decide_eq_true hp]
              refine iteT ⟨.int z, rfl, .ref a, rfl, .int (i : Nat), rfl, (i : Int), rfl, a, _, rfl, SqT.of (sT _ _ (s3 _ _ e2')), ?_, fun t nt => ?_⟩
              · rw [HT.sIx_none, show HT.sIx (ns.map V.int).length (ns.map V.int).length (some (i : Int)) = min i (ns.map V.int).length from HT.sIx_nat _ _ i, List.length_map]
                omega
              have ec : cutV (ns.map V.int) none (some (i : Int)) = (ns.take i).map V.int := by
                unfold cutV
                rw [HT.sIx_none, show HT.sIx (ns.map V.int).length (ns.map V.int).length (some (i : Int)) = min i (ns.map V.int).length from HT.sIx_nat _ _ i, List.drop_zero, Nat.sub_zero, List.length_map, Nat.min_eq_left (Nat.le_of_lt hi), List.map_take]
              rw [ec]
              refine ⟨t, _, rfl, .inr (SqT.of upd_same), rfl, flat_ints _, _, rfl, ?_⟩
              rw [show (if false = true then !inV (V.int z) ((ns.take i).map V.int) else inV (V.int z) ((ns.take i).map V.int)) = decide (z ∈ ns.take i) from inV_ints z _]
              refine ite2 (fun h1 => ?_) (fun h1 => ?_)
              · refine ⟨.int (i : Nat), rfl, by show 2 ≤ sizeLine; decide, fun t2 nt2 => ?_⟩
                refine q _ _ (sm.trans (s3.trans ((sT.trans (same_new nt)).trans (same_new nt2)))) ?_
                rw [el3]
                show Dq _ _ (if _ then _ else _)
                rw [if_pos ⟨hp, of_decide_eq_true h1⟩, show (ns.take i).length = i by rw [List.length_take]; omega]
                exact dq_pair upd_same
              · exact ⟨_, _, rfl, s3.trans (sT.trans (same_new nt)), next fun h => h1 (decide_eq_true h.2)⟩
            · rw [decide_eq_false hp]
              refine iteF (iteF ?_)
              exact ⟨_, _, rfl, s3.trans sT, next fun h => hp h.1⟩
          · rintro σ H3 ⟨y2, y3, rfl, s3, el3⟩
            refine q _ _ (sm.trans s3) ?_
            rw [el3, List.drop_of_length_le (by rw [List.length_map]; exact Nat.le_refl _)]
            exact .non
      | _ => simp [isT] at ht
    · suffices hz : Dq H (.str "form") (standErr n d) by
        refine ⟨v, rfl, v, .ty "tuple", _, _, isTu d, rfl, .ty "tuple", hd.ty, kit_tuple d, isTu d, rfl, ?_⟩
        by_cases htu : isTu d = true
        · rw [htu]
          refine iteF ?_
          cases hd with
          | @tup a0 xs0 ds0 e0 qa0 =>
            refine ⟨.ref a0, rfl, a0, xs0, rfl, .inr (SqT.of e0), .int n, rfl, rfl, _, rfl, ?_⟩
            have hne : ¬ V.int (xs0.length : Int) = V.int n := fun z => ht (by
              have := V.int.inj z
              rw [qa0.len] at this
              simpa [isT] using this)
            rw [decide_eq_false hne]
            exact iteT (q _ _ (Same.refl _) hz)
          | _ => simp [isTu] at htu
        · rw [Bool.eq_false_iff.mpr htu]
          exact iteT (iteT (q _ _ (Same.refl _) hz))
      have e : standErr n d = eForm := by
        cases d with
        | tuple ds =>
          have ht' : ¬ (ds.length : Int) = n := by simpa [isT] using ht
          show (if (ds.length : Int) = n then standGo ds else eForm) = _
          rw [if_neg ht']
        | _ => rfl
      rw [e]
      exact .str _
end
end Kr

namespace Kr
open PySem PySem.Spec PyProof.Rows L2
/-- a list beside one without items -/
def rNeN : R2 := fun x y H Q => ∃ l b xs, x = .ref l ∧ y = .ref b ∧ H l = some (.lst xs) ∧ H b = some (.lst []) ∧ Q (.bl (!xs.isEmpty)) H
theorem op_neN {X : Cx} (hu : X.A.units + 64 < cLine) : OpR X (compareOp .NotEq) rNeN := by
  intro pins s σ H x y v u Q I rx ry h
  obtain ⟨l, b, xs, rfl, rfl, hl, hb, q⟩ := h
  obtain rfl : v = Value.ref l := rx
  obtain rfl : u = Value.ref b := ry
  obtain ⟨its, r1, p1, _⟩ := I.list (SqL.of (K := X.K) hl)
  obtain ⟨it2, r2, p2, _⟩ := I.list (SqL.of (K := X.K) hb)
  cases r2
  have hn : its.length = xs.length := r1.length.symm
  by_cases he : xs = []
  · subst he
    have : its = [] := List.length_eq_zero_iff.mp hn
    subst this
    exact SeqAt.RcNeAt.lists (e := fun _ => true) p1.isList p2.isList rfl (by omega) (fun j h1 _ => absurd h1 (by simp)) X.prog X.w X.xe _ ⟨.bl false, H, I, by rfl, q⟩
  · have hne : (its.toArray.size != ([] : List Value).toArray.size) = true := by
      have := List.length_pos_iff.mpr he
      simp
      intro z
      subst z
      simp at hn
      exact he (List.length_eq_zero_iff.mp hn.symm)
    have e1 : (!xs.isEmpty) = true := by
      cases xs with
      | nil => exact absurd rfl he
      | cons _ _ => rfl
    rw [e1] at q
    exact SeqAt.RcNeAt.lists_lengths p1.isList p2.isList hne (by omega) X.prog X.w X.xe _ ⟨.bl true, H, I, rfl, q⟩
/-! ### small data: what repr can show -/
structure Sm (k w : Nat) (d : PyData) : Prop where
  sh : d.showable = true
  ls : d.leavesShort 41 = true
  dp : d.depth ≤ k
  wt : d.weight ≤ w
theorem Sm.mono {k w k' w' : Nat} {d : PyData} (h : Sm k w d) (hk : k ≤ k') (hw : w ≤ w') : Sm k' w' d := ⟨h.sh, h.ls, Nat.le_trans h.dp hk, Nat.le_trans h.wt hw⟩
theorem sm_all {k w : Nat} : ∀ {ds : List PyData}, (∀ d ∈ ds, Sm k w d) → PyData.showableAll ds = true ∧ PyData.leavesShortAll 41 ds = true ∧ PyData.depthAll ds ≤ k ∧ PyData.weightAll ds ≤ (w + 1) * ds.length
  | [], _ => ⟨by simp [PyData.showableAll], by simp [PyData.leavesShortAll], by simp [PyData.depthAll], by simp [PyData.weightAll]⟩
  | d :: ds, h => by
    obtain ⟨h1, h2, h3, h4⟩ := sm_all fun x hx => h x (List.mem_cons_of_mem _ hx)
    have hd := h d List.mem_cons_self
    refine ⟨by simp [PyData.showableAll, hd.sh, h1], by simp [PyData.leavesShortAll, hd.ls, h2], ?_, ?_⟩
    · simp only [PyData.depthAll]
      have := hd.dp
      omega
    · simp only [PyData.weightAll, List.length_cons, Nat.mul_add]
      have := hd.wt
      omega
theorem Sm.lst {k w m : Nat} {ds : List PyData} (h : ∀ d ∈ ds, Sm k w d) (hm : ds.length ≤ m) : Sm (k + 1) ((w + 1) * m) (.list ds) := by
  obtain ⟨h1, h2, h3, h4⟩ := sm_all h
  refine ⟨by simpa [PyData.showable] using h1, by simpa [PyData.leavesShort] using h2, by simp only [PyData.depth]; omega, ?_⟩
  simp only [PyData.weight]
  exact Nat.le_trans h4 (Nat.mul_le_mul_left _ hm)
theorem Sm.tup {k w m : Nat} {ds : List PyData} (h : ∀ d ∈ ds, Sm k w d) (hm : ds.length ≤ m) : Sm (k + 1) ((w + 1) * m) (.tuple ds) := by
  obtain ⟨h1, h2, h3, h4⟩ := sm_all h
  refine ⟨by simpa [PyData.showable] using h1, by simpa [PyData.leavesShort] using h2, by simp only [PyData.depth]; omega, ?_⟩
  simp only [PyData.weight]
  exact Nat.le_trans h4 (Nat.mul_le_mul_left _ hm)
theorem Sm.int {i : Int} (h : i.natAbs < 10 ^ 40) : Sm 1 140 (.int i) := by
  have hl : (PyData.shown (.int i)).length ≤ 41 := by
    have e := int_text_length_le10 (k := 40) (by decide) h
    show (Str.ofString (toString i)).length ≤ 41
    rw [PySem.ofString_length]
    exact e
  have hg : i.natAbs.log2 < 134 := by
    by_cases h0 : i.natAbs = 0
    · rw [h0]
      decide
    · rw [Nat.log2_lt h0]
      exact Nat.lt_of_lt_of_le h (by decide)
  refine ⟨?_, by simpa [PyData.leavesShort] using hl, by simp [PyData.depth], ?_⟩
  · simp only [PyData.showable, decide_eq_true_eq]
    omega
  · simp only [PyData.weight]
    split <;> omega
theorem Sm.non : Sm 1 140 .none := ⟨rfl, rfl, by simp [PyData.depth], by simp [PyData.weight]⟩
theorem Sm.bl (b : Bool) : Sm 1 140 (.bool b) := ⟨rfl, rfl, by simp [PyData.depth], by simp [PyData.weight]⟩
theorem Sm.dic : Sm 1 140 (.dict []) := ⟨by simp [PyData.showable, PyData.showableKv], by simp [PyData.leavesShort, PyData.leavesShortKv], by simp [PyData.depth, PyData.depthKv], by simp [PyData.weight, PyData.weightKv]⟩
theorem Sm.str {x : Str} (h : (x.cps.toList.all fun c => decide (c < 16 ^ 8)) = true) (hs : x.length ≤ 4) : Sm 1 140 (.str x) :=
  ⟨by simp [PyData.showable], by simpa [PyData.leavesShort] using h, by simp [PyData.depth], Nat.le_trans (show x.cps.size ≤ 4 from hs) (by decide)⟩
/-- the text is short enough -/
theorem Sm.fits {k w : Nat} {d : PyData} (h : Sm k w d) (hw : w ≤ 380000) : d.shown.length ≤ sizeLine := by
  have h1 := PyData.shown_le 41 (by decide) d h.ls
  have h2 := h.wt
  rw [sizeLine_eq]
  omega
/-- repr of small data -/
theorem repr_sm {v : V} {d : PyData} {H : Hp} {Q : VK} {k w : Nat} (hd : Dq H v d) (h : Sm k w d) (hk : k ≤ 40) (hw : w ≤ 380000) (q : Q (.str d.shown) H) : rRepr [v] H Q :=
  ⟨v, d, rfl, hd, h.sh, Nat.le_trans h.dp hk, h.fits hw, q⟩
end Kr

namespace Kr
open PySem PySem.Spec PyProof.Rows L2
/-- the places of the noughts -/
def keysGo : Nat → List Int → List Int
  | _, [] => []
  | i, x :: r => if x = 0 then (i : Int) :: keysGo (i + 1) r else keysGo (i + 1) r
theorem keysGo_len : ∀ (i : Nat) (ns : List Int), (keysGo i ns).length ≤ ns.length
  | _, [] => Nat.le_refl _
  | i, x :: r => by
    have := keysGo_len (i + 1) r
    unfold keysGo
    split <;> simp <;> omega
theorem keysGo_bd : ∀ (i : Nat) (ns : List Int) (z : Int), z ∈ keysGo i ns → 0 ≤ z ∧ z < i + ns.length
  | _, [], z, h => nomatch h
  | i, x :: r, z, h => by
    unfold keysGo at h
    have ih := keysGo_bd (i + 1) r z
    simp only [List.length_cons]
    split at h
    · rcases List.mem_cons.mp h with h | h
      · omega
      · have := ih h
        omega
    · have := ih h
      omega
def spKeys : Sp := fun vs H Q _ => ∃ (a : Addr) (ns : List Int), vs = [.ref a] ∧ H a = some (.tup (ns.map V.int)) ∧ ns.length ≤ 1000 ∧ ∀ H' t, Same H H' → H t = none → H' t = some (.tup ((keysGo 0 ns).map V.int)) → Q (.ref t) H'
section
variable {P : Program} {w : World} {K : PySem.W.Frag} {mg : Str → Option Value} {base : Heap}
theorem scK : FnScope ["standing", "place", "item"] ["standing"] (defScope sKeys) := ⟨rfl, rfl, rfl, by decide +kernel, rfl, by decide +kernel, by decide +kernel⟩
theorem f_keys {f : Addr} {fd : FuncData} (F : Fun K "keys_of" "keys_of" sKeys f fd) (B : Bi mg) : FnOk P w K mg base CX0 1 f fd ["standing"] spKeys := by
  refine F.ok scK (fun vs H Q E h => ?_) (fun cdv A outer s H vs Q E hr h => ?_)
  · obtain ⟨a, ns, rfl, _⟩ := h
    rfl
  · obtain ⟨a, ns, rfl, e, hn, q⟩ := h
    refine ⟨_, pss_one (ps_ret (pe_callTy call_tuple_of (by rfl) B.tuple (by decide +kernel) (pa_cons
      (pe_lc (own := [("place", 1), ("item", 2)]) (g := gTup K 2 (gCons (gName 1) (gCons (gName 2) gNil))) rfl scK.nd (pi_enumT (by rfl) B.enumerate (pa_cons (pv 0) pa_nil)) (blkOk_by (own := [("place", 1), ("item", 2)]) (N := ["standing", "place", "item"]) (sc := defScope sKeys) (by decide +kernel))
        (fun _ _ _ _ _ => pg_tup rfl (pgs_cons (pg_name (i := 1) scK.nd rfl (.inl rfl)) (pgs_cons (pg_name (i := 2) scK.nd rfl (.inl rfl)) pgs_nil)))
        (fun _ _ _ _ _ => pts_one (pt_cmpR op_eq (pv 2) pe_int (nomark _))) (fun _ _ _ _ _ => pv 1)) pa_nil))), ?_⟩
    refine ⟨.ref a, rfl, a, _, rfl, SqT.of e, fun D nD => lc_it walk_enumT (fun i H2 => ∃ acc : List Int, H2 D = some (.lst (acc.map V.int)) ∧ Same H H2 ∧ acc.length ≤ i ∧ keysGo 0 ns = acc ++ keysGo i (ns.drop i))
      ⟨[], upd_same, same_new nD, Nat.le_refl _, rfl⟩ (fun i H2 _ ⟨_, _, sm, _⟩ => SqT.of (sm _ _ e)) ?_ ?_⟩
    · rintro i _ H2 _ hi ⟨acc, hD, sm, hl, ek⟩ ⟨T, x, y, rfl, nT, rfl, e1, e2⟩
      cases Option.some.inj e1
      rw [List.length_map] at hi
      have ey : y = .int ns[i] := by
        have e6 : (ns.map V.int)[i]? = some y := e2
        rw [List.getElem?_map, List.getElem?_eq_getElem hi] at e6
        exact (Option.some.inj e6).symm
      subst ey
      rw [List.drop_eq_getElem_cons hi] at ek
      generalize hz : ns[i] = z at ek
      have sT : Same H2 (upd H2 T (.tup [.int (i : Nat), .int z])) := same_new nT
      refine ⟨T, [.int (i : Nat), .int z], rfl, SqT.of upd_same, rfl, .int (i : Nat), [.int z], rfl, .int z, [], rfl, rfl, rfl, ?_⟩
      refine ⟨.int z, rfl, rfl, _, rfl, ?_⟩
      have hz2 : decide (V.int z = V.int 0) = decide (z = 0) := by simp
      rw [hz2]
      by_cases h0 : z = 0
      · rw [decide_eq_true h0]
        refine iteT ⟨.int (i : Nat), rfl, acc.map V.int, sT _ _ hD, szl (by rw [List.length_map]; omega), acc ++ [(i : Int)], by rw [upd_same, List.map_append]; rfl, fun b o hb => ?_, by rw [List.length_append]; show _ + 1 ≤ _; omega, ?_⟩
        · rw [upd_ne (ne_of_none hb nD)]
          exact sT _ _ (sm _ _ hb)
        · rw [ek]
          show acc ++ (if _ then _ else _) = _
          rw [if_pos h0, List.append_assoc]
          rfl
      · rw [decide_eq_false h0]
        refine iteF ⟨acc, sT _ _ hD, sm.trans sT, by omega, ?_⟩
        rw [ek]
        show acc ++ (if _ then _ else _) = _
        rw [if_neg h0]
    · rintro H2 ⟨acc, hD, sm, hl, ek⟩
      rw [List.drop_of_length_le (by rw [List.length_map]; exact Nat.le_refl _)] at ek
      have ek2 : keysGo 0 ns = acc := ek.trans (List.append_nil _)
      refine ⟨D, _, rfl, .inl ⟨SqL.of hD, fun t nt => q _ t (sm.trans (same_new nt)) (sm.free nt) ?_⟩⟩
      rw [upd_same, ek2]
end
end Kr

namespace Kr
open PySem PySem.Spec PyProof.Rows L2
/-! ### expressions that give data, beside the deck at p and l -/
def EvP (p l : Addr) (te : TE) (σ : L2.St) (H : Hp) (R : PyData → Prop) : Prop :=
  ∀ H1, Ext p l H H1 → Deck H1 p l → ∀ Q : VK, (∀ v H2 d, Ext p l H1 H2 → Deck H2 p l → Dq (hid p l H2) v d → R d → Q v H2) → te σ H1 Q
def EvA (p l : Addr) (ta : TA) (σ : L2.St) (H : Hp) (R : PyData → Prop) (n : Nat) : Prop :=
  ∀ H1, Ext p l H H1 → Deck H1 p l → ∀ Q : List V → Hp → Prop, (∀ vs H2 ds, Ext p l H1 H2 → Deck H2 p l → DqA (hid p l H2) vs ds → ds.length = n → (∀ d ∈ ds, R d) → Q vs H2) → ta σ H1 Q
/-- a list, a tuple of so many at most, each so -/
def AllL (S : PyData → Prop) (n : Nat) (d : PyData) : Prop := ∃ ds, d = .list ds ∧ (0 < ds.length ∧ ds.length ≤ n) ∧ ∀ x ∈ ds, S x
def AllT (S : PyData → Prop) (n : Nat) (d : PyData) : Prop := ∃ ds, d = .tuple ds ∧ ds.length ≤ n ∧ ∀ x ∈ ds, S x
section
variable {p l : Addr} {σ : L2.St} {H : Hp} {te ta' tb : TE} {ta : TA} {R S R' : PyData → Prop} {n m : Nat} {K : PySem.W.Frag}
theorem EvP.imp (h : EvP p l te σ H R) (f : ∀ d, R d → R' d) : EvP p l te σ H R' := fun H1 e D Q q => h H1 e D Q fun v H2 d e2 D2 hd r => q v H2 d e2 D2 hd (f d r)
theorem ev_non (r : R .none) : EvP p l (tC .non) σ H R := fun H1 e D Q q => q _ H1 _ Ext.rfl D .non r
theorem ev_bl {b : Bool} (r : R (.bool b)) : EvP p l (tC (.bl b)) σ H R := fun H1 e D Q q => q _ H1 _ Ext.rfl D (.bl b) r
theorem ev_int {i : Int} (r : R (.int i)) : EvP p l (tC (.int i)) σ H R := fun H1 e D Q q => q _ H1 _ Ext.rfl D (.int i) r
theorem ev_str {x : Str} (r : R (.str x)) : EvP p l (tC (.str x)) σ H R := fun H1 e D Q q => q _ H1 _ Ext.rfl D (.str x) r
theorem ev_var {i : Nat} {v : V} {d : PyData} (h : σ[i]? = some (some v)) (hd : Dq (hid p l H) v d) (r : R d) : EvP p l (tVar i) σ H R := fun H1 e D Q q => ⟨v, h, q _ H1 _ Ext.rfl D (hd.up e) r⟩
/-- a whole number that is reckoned -/
def EvI (te : TE) (σ : L2.St) (i : Int) : Prop := ∀ (H : Hp) (Q : VK), Q (.int i) H → te σ H Q
theorem EvI.data {i : Int} (h : EvI te σ i) (r : R (.int i)) : EvP p l te σ H R := fun H1 e D Q q => h H1 Q (q _ H1 _ Ext.rfl D (.int i) r)
theorem ei_c {i : Int} : EvI (tC (.int i)) σ i := fun _ _ q => q
theorem ei_v {j : Nat} {i : Int} (h : σ[j]? = some (some (.int i))) : EvI (tVar j) σ i := fun _ _ q => ⟨_, h, q⟩
theorem ei_add {i j : Int} (ha : EvI ta' σ i) (hb : EvI tb σ j) : EvI (tOp (rI0 fun i j => .int (i + j)) ta' tb) σ (i + j) := fun H Q q => ha H _ (hb H _ ⟨i, j, rfl, rfl, q⟩)
theorem ei_sub {i j : Int} (ha : EvI ta' σ i) (hb : EvI tb σ j) : EvI (tOp (rI0 fun i j => .int (i - j)) ta' tb) σ (i - j) := fun H Q q => ha H _ (hb H _ ⟨i, j, rfl, rfl, q⟩)
theorem ei_pow {i j : Int} (ha : EvI ta' σ i) (hb : EvI tb σ j) (hc : CPow i j) : EvI (tOp (rI CPow fun i j => .int (i ^ j.toNat)) ta' tb) σ (i ^ j.toNat) := fun H Q q => ha H _ (hb H _ ⟨i, j, rfl, rfl, hc, q⟩)
theorem ea_nil : EvA p l tNil σ H R 0 := fun H1 e D Q q => q [] H1 [] Ext.rfl D .nil rfl fun _ h => nomatch h
theorem ea_cons (h : EvP p l te σ H R) (t : EvA p l ta σ H R n) : EvA p l (tCons te ta) σ H R (n + 1) := fun H1 e D Q q =>
  h H1 e D _ fun v H2 d e2 D2 hd r => t H2 (e.trans e2) D2 _ fun vs H3 ds e3 D3 hds hn hr => q (v :: vs) H3 (d :: ds) (e2.trans e3) D3 (.cons (hd.up e3) hds) (by rw [List.length_cons, hn]) fun x hx => by
    rcases List.mem_cons.mp hx with hx | hx
    · rw [hx]; exact r
    · exact hr x hx
theorem new_dq {H : Hp} {q : Addr} {o : HO} (D : Deck H p l) (h : H q = none) : Ext p l H (upd H q o) ∧ Deck (upd H q o) p l ∧ hid p l (upd H q o) q = some o := by
  obtain ⟨h1, h2⟩ := D.new h
  exact ⟨Ext.rfl.new h, D.mut h1 h2, hid_upd h1 h2⟩
theorem ev_lst (h : EvA p l ta σ H S n) (hn : n ≤ 100000) (r : ∀ ds : List PyData, ds.length = n → (∀ d ∈ ds, S d) → R (.list ds)) : EvP p l (tLst ta) σ H R := fun H1 e D Q q =>
  h H1 e D _ fun vs H2 ds e2 D2 hds hl hr => ⟨sz (by rw [hds.len, hl]; exact hn), fun a na => by
    obtain ⟨e3, D3, ha⟩ := new_dq (o := .lst vs) D2 na
    exact q _ _ _ (e2.trans e3) D3 (.lst ha (hds.up e3)) (r ds hl hr)⟩
theorem ev_tup (h : EvA p l ta σ H S n) (hn : n ≤ 100000) (r : ∀ ds : List PyData, ds.length = n → (∀ d ∈ ds, S d) → R (.tuple ds)) : EvP p l (tTup ta) σ H R := fun H1 e D Q q =>
  h H1 e D _ fun vs H2 ds e2 D2 hds hl hr => ⟨sz (by rw [hds.len, hl]; exact hn), fun a na => by
    obtain ⟨e3, D3, ha⟩ := new_dq (o := .tup vs) D2 na
    exact q _ _ _ (e2.trans e3) D3 (.tup ha (hds.up e3)) (r ds hl hr)⟩
theorem ev_dic (r : R (.dict [])) : EvP p l tDNewK σ H R := fun H1 e D Q q a na => by
  obtain ⟨e3, D3, ha⟩ := new_dq (o := .dK []) D na
  exact q _ _ _ e3 D3 (.dic ha) r
theorem flat_rep (x : V) : ∀ k : Nat, (List.replicate k [x]).flatten = List.replicate k x
  | 0 => rfl
  | k + 1 => by rw [List.replicate_succ, List.flatten_cons, flat_rep x k]; rfl
/-- (x,) * k -/
theorem ev_rep {k : Int} (h : EvA p l ta σ H S 1) (hk : EvI tb σ k) (h1 : 2 ≤ k) (h2 : k ≤ 1000) (r : ∀ d, S d → R (.tuple (List.replicate k.toNat d))) : EvP p l (tOp (rRepT K) (tTup ta) tb) σ H R := fun H1 e D Q q =>
  h H1 e D _ fun vs H2 ds e2 D2 hds hl hr => ⟨sz (by rw [hds.len, hl]; decide), fun a na => by
    obtain ⟨e3, D3, ha⟩ := new_dq (o := .tup vs) D2 na
    refine hk _ _ ?_
    obtain ⟨d, rfl⟩ : ∃ d, ds = [d] := List.length_eq_one_iff.mp hl
    cases hds with
    | cons hd ht =>
      cases ht
      refine ⟨a, k, _, rfl, rfl, SqT.of (hid_same p l _ _ _ ha), by simp, h1, h2, by simp, fun b nb => ?_⟩
      rw [flat_rep]
      obtain ⟨e4, D4, hb⟩ := new_dq (o := .tup (List.replicate k.toNat _)) D3 nb
      exact q _ _ _ (e2.trans (e3.trans e4)) D4 (.tup hb (DqA.rep (hd.up (e3.trans e4)) _)) (r d (hr d List.mem_cons_self))⟩
/-- xs + ys, lists -/
theorem ev_cat (ha : EvP p l ta' σ H (AllL S n)) (hb : EvP p l tb σ H (AllL S m)) (hnm : n + m ≤ 100000) (r : ∀ d, AllL S (n + m) d → R d) : EvP p l (tOp rCat ta' tb) σ H R := fun H1 e D Q q =>
  ha H1 e D _ fun v H2 d e2 D2 hd hr => hb H2 (e.trans e2) D2 _ fun v' H3 d' e3 D3 hd' hr' => by
    obtain ⟨ds, rfl, ⟨l0, l1⟩, r1⟩ := hr
    obtain ⟨ds', rfl, ⟨l0', l2⟩, r2⟩ := hr'
    have hd3 := hd.up e3
    cases hd3 with
    | @lst a xs _ ea qa =>
      cases hd' with
      | @lst b ys _ eb qb =>
        refine ⟨a, b, xs, ys, rfl, rfl, hid_same p l _ _ _ ea, hid_same p l _ _ _ eb, sz (by rw [qa.len, qb.len]; omega), fun c nc => ?_⟩
        obtain ⟨e4, D4, hc⟩ := new_dq (o := .lst (xs ++ ys)) D3 nc
        refine q _ _ _ (e2.trans (e3.trans e4)) D4 (.lst hc ((qa.up e4).app (qb.up e4))) (r _ ⟨_, rfl, by rw [List.length_append]; omega, fun x hx => ?_⟩)
        rcases List.mem_append.mp hx with hx | hx
        · exact r1 x hx
        · exact r2 x hx
theorem ev_listRg {k : Int} (hk : EvI te σ k) (h0 : 0 ≤ k) (h1 : k ≤ 1000) (r : R (.list ((List.range k.toNat).map fun i => .int (i : Nat)))) : EvP p l (tLstRg (tRg1 te)) σ H R := fun H1 e D Q q =>
  hk _ _ ⟨k, rfl, RgOk.of_le (Int.le_refl _) (by omega) (by decide) h0, fun a na => by
    obtain ⟨e4, D4, hc⟩ := new_dq (o := .lst (rgV 0 k)) D na
    refine q _ _ _ e4 D4 (.lst hc ?_) r
    have e1 : rgV 0 k = ((List.range k.toNat).map fun i => ((i : Nat) : Int)).map V.int := by
      unfold rgV
      rw [List.map_map, show (k - 0) = k by omega]
      exact List.map_congr_left fun i _ => by simp
    have e2 : ((List.range k.toNat).map fun i => PyData.int (i : Nat)) = ((List.range k.toNat).map fun i => ((i : Nat) : Int)).map PyData.int := by
      rw [List.map_map]
      rfl
    rw [e1, e2]
    exact DqA.ints _⟩
theorem ev_tupRg {k : Int} (hk : EvI te σ k) (h0 : 0 ≤ k) (h1 : k ≤ 1000) (r : R (.tuple ((List.range k.toNat).map fun i => .int (i : Nat)))) : EvP p l (tTupRg (tRg1 te)) σ H R := fun H1 e D Q q =>
  hk _ _ ⟨k, rfl, RgOk.of_le (Int.le_refl _) (by omega) (by decide) h0, fun a na => by
    obtain ⟨e4, D4, hc⟩ := new_dq (o := .tup (rgV 0 k)) D na
    refine q _ _ _ e4 D4 (.tup hc ?_) r
    have e1 : rgV 0 k = ((List.range k.toNat).map fun i => ((i : Nat) : Int)).map V.int := by
      unfold rgV
      rw [List.map_map, show (k - 0) = k by omega]
      exact List.map_congr_left fun i _ => by simp
    have e2 : ((List.range k.toNat).map fun i => PyData.int (i : Nat)) = ((List.range k.toNat).map fun i => ((i : Nat) : Int)).map PyData.int := by
      rw [List.map_map]
      rfl
    rw [e1, e2]
    exact DqA.ints _⟩
/-- _law_pick(deck, e) -/
theorem ev_pick {j : Nat} (hj : σ[j]? = some (some (.ref p))) (h : EvP p l te σ H (AllL R n)) (hn : n ≤ 100000) : EvP p l (tCall spPick [] E0 (tCons (tVar j) (tCons te tNil))) σ H R := fun H1 e D Q q =>
  ⟨_, hj, h H1 e D _ fun v H2 d e2 D2 hd hr => by
    obtain ⟨ds, rfl, ⟨hl0, hl⟩, hR⟩ := hr
    cases hd with
    | @lst a xs _ ea qa =>
      have hlen := qa.len
      refine ⟨p, l, a, xs, rfl, D2, ea, fun z => by subst z; rw [← hlen] at hl0; exact absurd hl0 (by decide), by omega, fun H3 v D3 e3 hv => ?_⟩
      obtain ⟨i, hi, hx⟩ := List.mem_iff_getElem.mp hv
      obtain ⟨d, h1, h2⟩ := (qa.up e3).get (List.getElem?_eq_getElem hi)
      rw [hx] at h2
      exact q v H3 d (e2.trans e3) D3 h2 (hR d (List.mem_of_getElem? h1))⟩
/-- x = e; rest -/
theorem seq_asg {g : TG} {u : TS} {D : Ends} (h : EvP p l te σ H R) (Dk : Deck H p l) (k : ∀ v H2 d, Ext p l H H2 → Deck H2 p l → Dq (hid p l H2) v d → R d → g v σ H2 (u D)) : tSeq (tAsg te g) u D σ H := h H Ext.rfl Dk _ k
/-- return e -/
theorem ret_ev {D : Ends} (h : EvP p l te σ H R) (Dk : Deck H p l) (k : ∀ v H2 d, Ext p l H H2 → Deck H2 p l → Dq (hid p l H2) v d → R d → D.rt v H2) : tRet te D σ H := h H Ext.rfl Dk _ k
end
end Kr

namespace Kr
open PySem PySem.Spec PyProof.Rows L2
/-- an item; a value that is looked at -/
abbrev SmI : PyData → Prop := Sm 2 300
abbrev SmV : PyData → Prop := Sm 3 30100
theorem SmI.v {d : PyData} (h : SmI d) : SmV d := h.mono (by decide) (by decide)
theorem Sm.i {d : PyData} (h : Sm 1 140 d) : SmI d := h.mono (by decide) (by decide)
theorem SmV.lst {ds : List PyData} (h : ∀ d ∈ ds, SmI d) (hm : ds.length ≤ 100) : SmV (.list ds) := Sm.lst (m := 100) h hm
theorem SmV.tup {ds : List PyData} (h : ∀ d ∈ ds, SmI d) (hm : ds.length ≤ 100) : SmV (.tuple ds) := Sm.tup (m := 100) h hm
theorem SmI.lst {ds : List PyData} (h : ∀ d ∈ ds, Sm 1 140 d) (hm : ds.length ≤ 2) : SmI (.list ds) := (Sm.lst h hm).mono (by decide) (by decide)
theorem SmI.tup {ds : List PyData} (h : ∀ d ∈ ds, Sm 1 140 d) (hm : ds.length ≤ 2) : SmI (.tuple ds) := (Sm.tup h hm).mono (by decide) (by decide)
theorem sm_small {i : Int} (h0 : -1000 ≤ i) (h1 : i ≤ 1000) : Sm 1 140 (.int i) := .int (Nat.lt_of_le_of_lt (show i.natAbs ≤ 1000 by omega) (by decide))
theorem sm_rep {k : Nat} {d : PyData} (h : SmI d) (hk : k ≤ 100) : SmV (.tuple (List.replicate k d)) :=
  .tup (fun x hx => by rw [(List.mem_replicate.mp hx).2]; exact h) (by rw [List.length_replicate]; exact hk)
def spOdd : Sp := fun vs H Q _ => ∃ (p l : Addr) (m : Int), vs = [.ref p, .int m] ∧ Deck H p l ∧ 3 ≤ m ∧ m ≤ 90 ∧
  ∀ (H' : Hp) (v : V) (d : PyData), Deck H' p l → Ext p l H H' → Dq (hid p l H') v d → SmV d → Q v H'
section
variable {P : Program} {w : World} {K : PySem.W.Frag} {mg : Str → Option Value} {base : Heap}
theorem scOdd : FnScope ["deck", "many", "odd"] ["deck", "many"] (defScope sOdd) := ⟨rfl, rfl, rfl, by decide +kernel, rfl, by decide +kernel, by decide +kernel⟩
theorem o_odd (D : Df K mg "_law_odd" sOdd ["deck", "many"]) (B : Bi mg) (dp : Ok P w K mg base 2 "_law_pick" ["deck", "items"] spPick) : Ok P w K mg base 3 "_law_odd" ["deck", "many"] spOdd := by
  refine D.ok fun f fd F => F.ok scOdd (fun vs H Q E h => ?_) (fun cdv A outer s H vs Q E hr h => ?_)
  · obtain ⟨p, l, m, rfl, _⟩ := h
    rfl
  · obtain ⟨p, l, m, rfl, Dk, hm0, hm1, q⟩ := h
    refine ⟨_, pss_cons (ps_set (i := 2) scOdd.nd rfl (.inl rfl) (pe_lst (pa_cons pe_non (pa_cons pe_bl (pa_cons pe_int (pa_cons pe_str (pa_cons pe_str (pa_cons (pe_lst pa_nil) (pa_cons (pe_lst (pa_cons pe_int (pa_cons pe_int pa_nil))) (pa_cons pe_dnewK (pa_cons (pe_tup pa_nil) (pa_cons (pe_tup (pa_cons (pe_tup pa_nil) pa_nil))
        (pa_cons (pe_op op_repT (pe_tup (pa_cons pe_non pa_nil)) (pv 1)) (pa_cons (pe_op op_repT (pe_tup (pa_cons pe_str pa_nil)) (pv 1)) (pa_cons (pe_op op_repT (pe_tup (pa_cons pe_int pa_nil)) (pv 1)) pa_nil)))))))))))))))
      (pss_one (ps_ret (pe_fn dp hr (by rfl) (pa_cons (pv 0) (pa_cons (pe_op op_cat (pv 2) (pe_lst (pa_cons (pe_op op_pow pe_int pe_int) (pa_cons (pe_tup (pa_cons (pe_op op_pow pe_int pe_int) pa_nil)) (pa_cons (pe_listRg rfl (by rfl) B.list (prg_1 (by rfl) B.range (pv 1))) (pa_cons (pe_tupRg rfl (by rfl) B.tuple (prg_1 (by rfl) B.range (pv 1))) (pa_cons (pe_op op_repT (pe_tup (pa_cons pe_int pa_nil)) (pe_op op_add (pv 1) pe_int)) pa_nil))))))) pa_nil))))), ?_⟩
    have s0 : SmV (.tuple []) := SmV.tup (fun _ h => nomatch h) (by decide)
    have rg : ∀ x ∈ (List.range m.toNat).map (fun i => PyData.int (i : Nat)), SmI x := fun x hx => by
      obtain ⟨i, hi, rfl⟩ := List.mem_map.mp hx
      have := List.mem_range.mp hi
      exact Sm.i (sm_small (by omega) (by omega))
    have hten : Sm 1 140 (.int (10 ^ (30 : Int).toNat)) := .int (by decide +kernel)
    have one : ∀ i : Int, -1000 ≤ i → i ≤ 1000 → SmI (.int i) := fun i h0 h1 => Sm.i (sm_small h0 h1)
    refine seq_asg (p := p) (l := l) (R := AllL SmV 13) ?_ Dk fun v H2 d e2 D2 hd hr2 => ?_
    · refine ev_lst (S := SmV) (n := 13) ?_ (by decide) fun ds hl hr => ⟨ds, rfl, by omega, hr⟩
      refine ea_cons (ev_non (Sm.non.i.v)) (ea_cons (ev_bl ((Sm.bl _).i.v)) (ea_cons (ev_int (one _ (by decide) (by decide)).v) (ea_cons (ev_str (Sm.str (by decide) (by decide)).i.v) (ea_cons (ev_str (Sm.str (by decide) (by decide)).i.v) ?_))))
      refine ea_cons (ev_lst (S := SmI) (n := 0) ea_nil (by decide) fun ds hl hr => SmV.lst hr (by omega)) ?_
      refine ea_cons (ev_lst (S := SmI) (n := 2) (ea_cons (ev_int (one _ (by decide) (by decide))) (ea_cons (ev_int (one _ (by decide) (by decide))) ea_nil)) (by decide) fun ds hl hr => SmV.lst hr (by omega)) ?_
      refine ea_cons (ev_dic Sm.dic.i.v) (ea_cons (ev_tup (S := SmI) (n := 0) ea_nil (by decide) fun ds hl hr => SmV.tup hr (by omega)) ?_)
      refine ea_cons (ev_tup (S := SmI) (n := 1) (ea_cons (ev_tup (S := Sm 1 140) (n := 0) ea_nil (by decide) fun ds hl hr => SmI.tup hr (by omega)) ea_nil) (by decide) fun ds hl hr => SmV.tup hr (by omega)) ?_
      refine ea_cons (ev_rep (S := SmI) (k := m) (ea_cons (ev_non Sm.non.i) ea_nil) (ei_v rfl) (by omega) (by omega) fun d h => sm_rep h (by omega)) ?_
      refine ea_cons (ev_rep (S := SmI) (k := m) (ea_cons (ev_str (Sm.str (by decide) (by decide)).i) ea_nil) (ei_v rfl) (by omega) (by omega) fun d h => sm_rep h (by omega)) ?_
      exact ea_cons (ev_rep (S := SmI) (k := m) (ea_cons (ev_int (one _ (by decide) (by decide))) ea_nil) (ei_v rfl) (by omega) (by omega) fun d h => sm_rep h (by omega)) ea_nil
    · refine ret_ev (p := p) (l := l) (R := SmV) ?_ D2 fun v H3 d e3 D3 hd hS => q H3 v d D3 (e2.trans e3) hd hS
      refine ev_pick (n := 18) rfl ?_ (by decide)
      refine ev_cat (S := SmV) (n := 13) (m := 5) (ev_var (i := 2) rfl hd hr2) ?_ (by decide) fun d h => h
      refine ev_lst (S := SmV) (n := 5) ?_ (by decide) fun ds hl hr => ⟨ds, rfl, by omega, hr⟩
      refine ea_cons (EvI.data (ei_pow ei_c ei_c ⟨by decide, by decide, by decide⟩) hten.i.v) ?_
      refine ea_cons (ev_tup (S := SmI) (n := 1) (ea_cons (EvI.data (ei_pow ei_c ei_c ⟨by decide, by decide, by decide⟩) hten.i) ea_nil) (by decide) fun ds hl hr => SmV.tup hr (by omega)) ?_
      refine ea_cons (ev_listRg (k := m) (ei_v rfl) (by omega) (by omega) (SmV.lst rg (by rw [List.length_map, List.length_range]; omega))) ?_
      refine ea_cons (ev_tupRg (k := m) (ei_v rfl) (by omega) (by omega) (SmV.tup rg (by rw [List.length_map, List.length_range]; omega))) ?_
      exact ea_cons (ev_rep (S := SmI) (k := m + 1) (ea_cons (ev_int (one _ (by decide) (by decide))) ea_nil) (ei_add (ei_v rfl) ei_c) (by omega) (by omega) fun d h => sm_rep h (by omega)) ea_nil
end
end Kr

namespace Kr
open PySem PySem.Spec PyProof.Rows L2
def spSpoilt : Sp := fun vs H Q _ => ∃ (p l ra ia : Addr) (rxs ixs : List V) (rds ids : List PyData), vs = [.ref p, .ref ra, .ref ia] ∧ Deck H p l ∧ hid p l H ra = some (.tup rxs) ∧ DqA (hid p l H) rxs rds ∧ (∀ d ∈ rds, SmI d) ∧ rds.length ≤ 30 ∧
  hid p l H ia = some (.lst ixs) ∧ DqA (hid p l H) ixs ids ∧ (∀ d ∈ ids, SmI d) ∧ 0 < ids.length ∧ ids.length ≤ 1000 ∧
  ∀ (H' : Hp) (v : V) (d : PyData), Deck H' p l → Ext p l H H' → Dq (hid p l H') v d → SmV d → Q v H'
theorem DqA.of_mem {G : Hp} {v : V} : ∀ {vs : List V} {ds : List PyData}, DqA G vs ds → v ∈ vs → ∃ d ∈ ds, Dq G v d := fun {vs ds} h hm => by
  obtain ⟨i, hi, e⟩ := List.mem_iff_getElem.mp hm
  obtain ⟨d, h1, h2⟩ := h.get (List.getElem?_eq_getElem hi)
  rw [e] at h2
  exact ⟨d, List.mem_of_getElem? h1, h2⟩
theorem cut_dq {G : Hp} {xs : List V} {ds : List PyData} (h : DqA G xs ds) (lo hi : Option Int) : ∃ es, DqA G (cutV xs lo hi) es ∧ es.length ≤ ds.length ∧ ∀ d ∈ es, d ∈ ds := by
  unfold cutV
  generalize HT.sIx xs.length 0 lo = i
  generalize HT.sIx xs.length xs.length hi - i = k
  refine ⟨(ds.drop i).take k, (h.drop i).take k, ?_, fun d hd => List.mem_of_mem_drop (List.mem_of_mem_take hd)⟩
  rw [List.length_take, List.length_drop]
  omega
theorem fin_tup {K : PySem.W.Frag} {p l c : Addr} {H H2 : Hp} {σ : L2.St} {xs : List V} {ds : List PyData} {Q : VK} (h3 : σ[3]? = some (some (.ref c))) (D : Deck H2 p l) (e : Ext p l H H2) (hc : H2 c = some (.lst xs)) (hd : DqA (hid p l H) xs ds)
    (hs : ∀ d ∈ ds, SmI d) (hl : ds.length ≤ 100) (q : ∀ (H' : Hp) (v : V) (d : PyData), Deck H' p l → Ext p l H H' → Dq (hid p l H') v d → SmV d → Q v H') :
    tCB (fun vs H Q => ∃ p ys, vs = [.ref p] ∧ ((SqL K H p ys ∧ ∀ l, H l = none → Q (.ref l) (upd H l (.tup ys))) ∨ (SqT K H p ys ∧ Q (.ref p) H))) (tCons (tVar 3) tNil) σ H2 Q :=
  ⟨.ref c, h3, c, xs, rfl, .inl ⟨SqL.of hc, fun t nt => by
    obtain ⟨e3, D3, ht⟩ := new_dq (o := .tup xs) D nt
    exact q _ _ _ D3 (e.trans e3) (.tup ht (hd.up (e.trans e3))) (SmV.tup hs hl)⟩⟩
section
variable {P : Program} {w : World} {K : PySem.W.Frag} {mg : Str → Option Value} {base : Heap}
theorem scSp : FnScope ["deck", "row", "items", "found", "way", "spot", "turn"] ["deck", "row", "items"] (defScope sSpoilt) := ⟨rfl, rfl, rfl, by decide +kernel, rfl, by decide +kernel, by decide +kernel⟩
theorem o_spoilt (D : Df K mg "_law_spoilt" sSpoilt ["deck", "row", "items"]) (B : Bi mg) (d : Ok P w K mg base 1 "_law_draw" ["deck", "many"] spDraw) (dp : Ok P w K mg base 2 "_law_pick" ["deck", "items"] spPick) :
    Ok P w K mg base 3 "_law_spoilt" ["deck", "row", "items"] spSpoilt := by
  refine D.ok fun f fd F => F.ok scSp (fun vs H Q E h => ?_) (fun cdv A outer s H vs Q E hr h => ?_)
  · obtain ⟨p, l, ra, ia, rxs, ixs, rds, ids, rfl, _⟩ := h
    rfl
  · obtain ⟨p, l, ra, ia, rxs, ixs, rds, ids, rfl, Dk, hra, hrd, hrs, hrl, hia, hid', his, hi0, hil, q⟩ := h
    have hr1 := hr.mono (show 1 ≤ 2 by decide)
    refine ⟨_, pss_cons (ps_par (i := 3) (j := 4) rfl scSp.nd rfl rfl (by decide) rfl rfl (pa_cons (pe_callTy call_list_of (by rfl) B.list (by decide +kernel) (pa_cons (pv 1) pa_nil)) (pa_cons (pe_fn d hr1 (by rfl) (pa_cons (pv 0) (pa_cons pe_int pa_nil))) pa_nil)) (by rfl))
      (pss_cons (ps_set (i := 5) scSp.nd rfl (.inl rfl) (pe_fn d hr1 (by rfl) (pa_cons (pv 0) (pa_cons (pe_op op_add (pe_callB call_len_seq (by rfl) B.len boot_len (pa_cons (pv 3) pa_nil)) pe_int) pa_nil))))
      (pss_cons (ps_if (pt_cmpR op_lt (pv 4) pe_int (nomark _))
        (pss_one (ps_for PassesOwn.never rfl (pi_range1 (by rfl) B.range (pa_cons (pe_op op_add pe_int (pe_op op_fdiv (pv 4) pe_int)) pa_nil)) (pg_name (i := 6) scSp.nd rfl (.inl rfl))
          (pss_one (ps_if (pt_cmpR (op_neN hr.units) (pv 3) (pe_lst pa_nil) (nomark _))
            (pss_one (ps_asg (pe_fn dp hr (by rfl) (pa_cons (pv 0) (pa_cons (pv 2) pa_nil))) (pg_sub (pv 3) (pe_fn d hr1 (by rfl) (pa_cons (pv 0) (pa_cons (pe_callB call_len_seq (by rfl) B.len boot_len (pa_cons (pv 3) pa_nil)) pa_nil))) set_list))) pss_nil))))
        (pss_one (ps_if (pt_cmpR op_eq (pv 4) pe_int (nomark _))
          (pss_one (ps_set (i := 3) scSp.nd rfl (.inl rfl) (pe_op op_cat (pe_op op_cat (pe_slice sl_list (pv 3) po_none (po_some (pv 5))) (pe_lst (pa_cons (pe_fn dp hr (by rfl) (pa_cons (pv 0) (pa_cons (pv 2) pa_nil))) pa_nil))) (pe_slice sl_list (pv 3) (po_some (pv 5)) po_none))))
          (pss_one (ps_if (pt_cmpR op_eq (pv 4) pe_int (nomark _))
            (pss_one (ps_set (i := 3) scSp.nd rfl (.inl rfl) (pe_op op_cat (pe_slice sl_list (pv 3) po_none (po_some (pv 5))) (pe_slice sl_list (pv 3) (po_some (pe_op op_add (pv 5) pe_int)) po_none))))
            (pss_one (ps_ret (pv 3))))))))
      (pss_one (ps_ret (pe_callTy call_tuple_of (by rfl) B.tuple (by decide +kernel) (pa_cons (pv 3) pa_nil)))))), ?_⟩
    -- found, way = list(row), a draw
    refine ⟨.ref ra, rfl, ra, rxs, rfl, .inr (SqT.of (hid_same p l H _ _ hra)), fun a na => ?_⟩
    obtain ⟨e1, D1, ha1⟩ := new_dq (o := .lst rxs) Dk na
    obtain ⟨nap, nal⟩ := Dk.new na
    refine ⟨.ref p, rfl, p, l, 7, rfl, D1, by decide, fun H2 way D2 e2 w0 w1 => ⟨_, _, rfl, ?_⟩⟩
    have ha2 := e2 _ _ ha1
    have hla : rxs.length = rds.length := hrd.len
    refine ⟨.ref p, rfl, .ref a, rfl, a, rxs, rfl, .inl (SqL.of (hid_same p l H2 _ _ ha2)), _, _, rfl, rfl, p, l, _, rfl, D2, by show (rxs.length : Int) + 1 < 1073741824; omega, fun H3 spot D3 e3 s0 s1 => ?_⟩
    have ha3 := hid_same p l H3 _ _ (e3 _ _ ha2)
    have E3 : Ext p l H H3 := (e1.trans e2).trans e3
    have hpick : ∀ {H4 : Hp}, Ext p l H H4 → hid p l H4 ia = some (.lst ixs) := fun e => e _ _ hia
    have hixne : ixs ≠ [] := fun z => by subst z; rw [← hid'.len] at hi0; exact absurd hi0 (by decide)
    have hixl : ixs.length < 1000000 := by rw [hid'.len]; omega
    refine ⟨.int way, rfl, _, _, rfl, rfl, _, rfl, ite2 (fun hw => ?_) (fun hw => ?_)⟩
    · -- items exchanged
      have hw4 : way < 4 := of_decide_eq_true hw
      refine ⟨.int way, rfl, _, _, rfl, rfl, ⟨by decide, by decide⟩, _, _, rfl, rfl, _, rfl, by omega, by omega, for_range (n := (1 + way / 3).toNat)
        (fun i σ H4 => ∃ (y6 : Option V) (xs : List V) (ds : List PyData), σ = [some (.ref p), some (.ref ra), some (.ref ia), some (.ref a), some (.int way), some (.int spot), y6] ∧ Deck H4 p l ∧ Ext p l H H4 ∧ H4 a = some (.lst xs) ∧ DqA (hid p l H) xs ds ∧ (∀ d ∈ ds, SmI d) ∧ ds.length ≤ 30)
        ⟨none, rxs, rds, rfl, D3, E3, ha3, hrd, hrs, hrl⟩ ?_ ?_⟩
      · rintro i σ H4 hi ⟨y6, xs, ds, rfl, D4, E4, ha4, hd4, hs4, hl4⟩
        refine ⟨.ref a, rfl, by show 0 ≤ sizeLine; decide, fun e ne => ?_⟩
        have nea : a ≠ e := ne_of_none ha4 ne
        obtain ⟨nep, nel⟩ := D4.new ne
        refine ⟨a, e, xs, rfl, rfl, by rw [upd_ne nea]; exact ha4, upd_same, _, rfl, ?_⟩
        have D5 : Deck (upd H4 e (.lst [])) p l := D4.mut nep nel
        have E5 : Ext p l H (upd H4 e (.lst [])) := E4.new ne
        have ha5 : upd H4 e (.lst []) a = some (.lst xs) := by rw [upd_ne nea]; exact ha4
        generalize upd H4 e (.lst []) = H5 at D5 E5 ha5
        cases hx : xs.isEmpty with
        | true => exact iteF ⟨_, xs, ds, rfl, D5, E5, ha5, hd4, hs4, hl4⟩
        | false =>
          have hxl : 0 < xs.length := by
            cases xs with
            | nil => simp at hx
            | cons _ _ => exact Nat.succ_pos _
          refine iteT ⟨.ref p, rfl, .ref ia, rfl, p, l, ia, ixs, rfl, D5, hpick E5, hixne, hixl, fun H6 v D6 e6 hv => ?_⟩
          have ha6 : H6 a = some (.lst xs) := hid_same p l H6 _ _ (e6 _ _ (by rw [hid_ne nap nal]; exact ha5))
          refine ⟨.ref a, rfl, .ref p, rfl, .ref a, rfl, a, xs, rfl, .inl (SqL.of ha6), p, l, _, rfl, D6, by show (xs.length : Int) < 1073741824; rw [hd4.len]; omega, fun H7 r D7 e7 r0 r1 => ?_⟩
          have ha7 : H7 a = some (.lst xs) := hid_same p l H7 _ _ (e7 _ _ (by rw [hid_ne nap nal]; exact ha6))
          obtain ⟨dv, hdv, hqv⟩ := hid'.of_mem hv
          refine ⟨a, xs, r, r.toNat, rfl, rfl, ha7, ?_, ?_⟩
          · unfold ixN
            rw [if_pos r0, if_pos (by omega)]
          · refine ⟨_, xs.set r.toNat v, ds.set r.toNat dv, rfl, D7.mut nap nal, Ext.mut ((E5.trans e6).trans e7) na, upd_same, hd4.set hqv _, fun d hd => ?_, by rw [List.length_set]; exact hl4⟩
            rcases List.mem_or_eq_of_mem_set hd with h | h
            · exact hs4 d h
            · rw [h]; exact his dv hdv
      · rintro σ H4 ⟨y6, xs, ds, rfl, D4, E4, ha4, hd4, hs4, hl4⟩
        exact fin_tup rfl D4 E4 ha4 hd4 hs4 (by omega) q
    · refine ⟨.int way, rfl, rfl, _, rfl, ite2 (fun hw2 => ?_) (fun hw2 => ?_)⟩
      · -- one put in
        refine ⟨.ref a, rfl, .int spot, rfl, spot, rfl, a, rxs, rfl, SqL.of ha3, fun b nb => ?_⟩
        obtain ⟨e4, D4, hb4⟩ := new_dq (o := .lst (cutV rxs none (some spot))) D3 nb
        refine ⟨.ref p, rfl, .ref ia, rfl, p, l, ia, ixs, rfl, D4, hpick (E3.trans e4), hixne, hixl, fun H5 v D5 e5 hv => ?_⟩
        have hb5 := e5 _ _ hb4
        refine ⟨by show 1 ≤ sizeLine; decide, fun c nc => ?_⟩
        obtain ⟨e6, D6, hc6⟩ := new_dq (o := .lst [v]) D5 nc
        have hb6 := e6 _ _ hb5
        obtain ⟨es, q1, q2, q3⟩ := cut_dq hrd none (some spot)
        obtain ⟨es2, q4, q5, q6⟩ := cut_dq hrd (some spot) none
        obtain ⟨dv, hdv, hqv⟩ := hid'.of_mem hv
        refine ⟨b, c, _, _, rfl, rfl, hid_same p l _ _ _ hb6, hid_same p l _ _ _ hc6, sz (by rw [q1.len]; show _ + 1 ≤ _; omega), fun g ng => ?_⟩
        obtain ⟨e7, D7, hg7⟩ := new_dq (o := .lst (cutV rxs none (some spot) ++ [v])) D6 ng
        have ha7 := e7 _ _ (e6 _ _ (e5 _ _ (e4 _ _ (by rw [hid_ne nap nal]; exact ha3))))
        refine ⟨.ref a, rfl, .int spot, rfl, spot, rfl, a, rxs, rfl, SqL.of (hid_same p l _ _ _ ha7), fun k nk => ?_⟩
        obtain ⟨e8, D8, hk8⟩ := new_dq (o := .lst (cutV rxs (some spot) none)) D7 nk
        refine ⟨g, k, _, _, rfl, rfl, hid_same p l _ _ _ (e8 _ _ hg7), hid_same p l _ _ _ hk8, sz (by rw [List.length_append, q1.len, q4.len]; show _ + 1 + _ ≤ _; omega), fun m nm => ?_⟩
        obtain ⟨e9, D9, hm9⟩ := new_dq (o := .lst ((cutV rxs none (some spot) ++ [v]) ++ cutV rxs (some spot) none)) D8 nm
        refine fin_tup rfl D9 ((((((E3.trans e4).trans e5).trans e6).trans e7).trans e8).trans e9) (hid_same p l _ _ _ hm9) ((q1.app (.one hqv)).app q4) (fun d hd => ?_) (by rw [List.length_append, List.length_append]; show _ + 1 + _ ≤ _; omega) q
        rcases List.mem_append.mp hd with hd | hd
        · rcases List.mem_append.mp hd with hd | hd
          · exact hrs d (q3 d hd)
          · rw [List.mem_singleton.mp hd]; exact his dv hdv
        · exact hrs d (q6 d hd)
      · refine ⟨.int way, rfl, rfl, _, rfl, ite2 (fun hw3 => ?_) (fun hw3 => ?_)⟩
        · -- one left out
          refine ⟨.ref a, rfl, .int spot, rfl, spot, rfl, a, rxs, rfl, SqL.of ha3, fun b nb => ?_⟩
          obtain ⟨e4, D4, hb4⟩ := new_dq (o := .lst (cutV rxs none (some spot))) D3 nb
          have ha4 := e4 _ _ (show hid p l H3 a = _ by rw [hid_ne nap nal]; exact ha3)
          refine ⟨.ref a, rfl, .int spot, rfl, _, _, rfl, rfl, spot + 1, rfl, a, rxs, rfl, SqL.of (hid_same p l _ _ _ ha4), fun c nc => ?_⟩
          obtain ⟨e5, D5, hc5⟩ := new_dq (o := .lst (cutV rxs (some (spot + 1)) none)) D4 nc
          obtain ⟨es, q1, q2, q3⟩ := cut_dq hrd none (some spot)
          obtain ⟨es2, q4, q5, q6⟩ := cut_dq hrd (some (spot + 1)) none
          refine ⟨b, c, _, _, rfl, rfl, hid_same p l _ _ _ (e5 _ _ hb4), hid_same p l _ _ _ hc5, sz (by rw [q1.len, q4.len]; omega), fun g ng => ?_⟩
          obtain ⟨e6, D6, hg6⟩ := new_dq (o := .lst (cutV rxs none (some spot) ++ cutV rxs (some (spot + 1)) none)) D5 ng
          refine fin_tup rfl D6 (((E3.trans e4).trans e5).trans e6) (hid_same p l _ _ _ hg6) (q1.app q4) (fun d hd => ?_) (by rw [List.length_append]; omega) q
          rcases List.mem_append.mp hd with hd | hd
          · exact hrs d (q3 d hd)
          · exact hrs d (q6 d hd)
        · -- a list
          refine ⟨.ref a, rfl, q H3 _ _ D3 E3 (.lst (by rw [hid_ne nap nal]; exact ha3) (hrd.up E3)) (SmV.lst hrs (by omega))⟩
end
end Kr

namespace Kr
open PySem PySem.Spec PyProof.Rows L2
section
variable {p l : Addr} {σ : L2.St} {H : Hp} {te ta' tb : TE} {ta : TA} {R S R' : PyData → Prop} {n m : Nat} {K : PySem.W.Frag}
theorem ev_draw {j : Nat} {k : Int} (hj : σ[j]? = some (some (.ref p))) (hk : EvI te σ k) (hb : k < 1073741824) (r : ∀ z : Int, 0 ≤ z → (z < k ∨ z = 0) → R (.int z)) : EvP p l (tCall spDraw [] E0 (tCons (tVar j) (tCons te tNil))) σ H R := fun H1 e D Q q =>
  ⟨_, hj, hk H1 _ ⟨p, l, k, rfl, D, hb, fun H2 z D2 e2 h0 h1 => q _ H2 _ e2 D2 (.int z) (r z h0 h1)⟩⟩
theorem ev_spoilt {j i1 i2 : Nat} {rv iw : V} {rds ids : List PyData} (hj : σ[j]? = some (some (.ref p))) (h1 : σ[i1]? = some (some rv)) (h2 : σ[i2]? = some (some iw)) (hr : Dq (hid p l H) rv (.tuple rds)) (hi : Dq (hid p l H) iw (.list ids))
    (hrs : ∀ d ∈ rds, SmI d) (hrl : rds.length ≤ 30) (his : ∀ d ∈ ids, SmI d) (hi0 : 0 < ids.length) (hil : ids.length ≤ 1000) (r : ∀ d, SmV d → R d) :
    EvP p l (tCall spSpoilt [] E0 (tCons (tVar j) (tCons (tVar i1) (tCons (tVar i2) tNil)))) σ H R := fun H1 e D Q q => by
  have hr' := hr.up e
  have hi' := hi.up e
  cases hr' with
  | @tup ra rxs _ ea qa =>
    cases hi' with
    | @lst ia ixs _ eb qb =>
      exact ⟨_, hj, _, h1, _, h2, p, l, ra, ia, rxs, ixs, rds, ids, rfl, D, ea, qa, hrs, hrl, eb, qb, his, hi0, hil, fun H2 v d D2 e2 hd hs => q v H2 d e2 D2 hd (r d hs)⟩
theorem ev_odd {j i1 : Nat} {k : Int} (hj : σ[j]? = some (some (.ref p))) (h1 : σ[i1]? = some (some (.int k))) (k0 : 3 ≤ k) (k1 : k ≤ 90) (r : ∀ d, SmV d → R d) : EvP p l (tCall spOdd [] E0 (tCons (tVar j) (tCons (tVar i1) tNil))) σ H R := fun H1 e D Q q =>
  ⟨_, hj, _, h1, p, l, k, rfl, D, k0, k1, fun H2 v d D2 e2 hd hs => q v H2 d e2 D2 hd (r d hs)⟩
theorem ev_rev {j : Nat} {v : V} {ds : List PyData} (hj : σ[j]? = some (some v)) (hd : Dq (hid p l H) v (.tuple ds)) (r : R (.tuple ds.reverse)) : EvP p l (tRevT K (tVar j)) σ H R := fun H1 e D Q q => by
  have hd' := hd.up e
  cases hd' with
  | @tup a xs _ ea qa =>
    refine ⟨_, hj, a, xs, rfl, SqT.of (hid_same p l _ _ _ ea), fun c nc => ?_⟩
    obtain ⟨e4, D4, hc⟩ := new_dq (o := .tup xs.reverse) D nc
    exact q _ _ _ e4 D4 (.tup hc (qa.rev.up e4)) r
theorem ev_catT {j : Nat} {v : V} {ds : List PyData} (hj : σ[j]? = some (some v)) (hd : Dq (hid p l H) v (.tuple ds)) (hne : ds ≠ []) (hl : ds.length ≤ 1000) (h : EvA p l ta σ H S 1) (r : ∀ d, S d → R (.tuple (ds ++ [d]))) :
    EvP p l (tOp (rCatT K) (tVar j) (tTup ta)) σ H R := fun H1 e D Q q =>
  ⟨_, hj, h H1 e D _ fun vs H2 es e2 D2 hes hl2 hr => ⟨sz (by rw [hes.len, hl2]; decide), fun c nc => by
    have hd' := hd.up (e.trans e2)
    obtain ⟨e4, D4, hc⟩ := new_dq (o := .tup vs) D2 nc
    obtain ⟨x, rfl⟩ : ∃ d, es = [d] := List.length_eq_one_iff.mp hl2
    cases hd' with
    | @tup a xs _ ea qa =>
      have hxl := qa.len
      have hvl := hes.len
      refine ⟨a, c, xs, vs, rfl, rfl, SqT.of (hid_same p l _ _ _ (e4 _ _ ea)), SqT.of (hid_same p l _ _ _ hc), fun z => hne (by subst z; exact List.length_eq_zero_iff.mp hxl.symm), sz (by rw [hvl, hxl]; show _ + 1 ≤ _; omega), fun z => by subst z; simp at hvl, fun _ g ng => ?_⟩
      obtain ⟨e5, D5, hg⟩ := new_dq (o := .tup (xs ++ vs)) D4 ng
      exact q _ _ _ (e2.trans (e4.trans e5)) D5 (.tup hg ((qa.up (e4.trans e5)).app (hes.up (e4.trans e5)))) (r x (hr x List.mem_cons_self))⟩⟩
/-- t[1:] -/
theorem ev_sl1 {j : Nat} {v : V} {ds : List PyData} (hj : σ[j]? = some (some v)) (hd : Dq (hid p l H) v (.tuple ds)) (hne : 2 ≤ ds.length) (r : ∀ es : List PyData, es.length ≤ ds.length → (∀ d ∈ es, d ∈ ds) → R (.tuple es)) :
    EvP p l (tSl (rSlT K) (tVar j) (tPart (tC (.int 1))) tNoPart) σ H R := fun H1 e D Q q => by
  have hd' := hd.up e
  cases hd' with
  | @tup a xs _ ea qa =>
    refine ⟨_, hj, 1, rfl, a, xs, rfl, SqT.of (hid_same p l _ _ _ ea), fun z => ?_, fun c nc => ?_⟩
    · have := qa.len
      have h1 : HT.sIx xs.length 0 (some 1) = min 1 xs.length := HT.sIx_nat _ _ 1
      rw [h1] at z
      omega
    · obtain ⟨e4, D4, hc⟩ := new_dq (o := .tup (cutV xs (some 1) none)) D nc
      obtain ⟨es, q1, q2, q3⟩ := cut_dq qa (some 1) none
      exact q _ _ _ e4 D4 (.tup hc (q1.up e4)) (r es q2 q3)
/-- xs[k] of a list of whole numbers -/
theorem ev_ixI {j : Nat} {a : Addr} {zs : List Int} {k z : Int} (hj : σ[j]? = some (some (.ref a))) (ha : hid p l H a = some (.lst (zs.map V.int))) (hk : EvI te σ k) (hz : atI (zs.map V.int) k = some (.int z)) (r : R (.int z)) :
    EvP p l (tOp (rIxL K) (tVar j) te) σ H R := fun H1 e D Q q =>
  ⟨_, hj, hk _ _ ⟨a, _, k, _, rfl, rfl, SqL.of (hid_same p l _ _ _ (e _ _ ha)), hz, q _ H1 _ Ext.rfl D (.int z) r⟩⟩
theorem ei_neg {i : Int} (ha : EvI ta' σ i) : EvI (tUn (rU fun i => .int (-i)) ta') σ (-i) := fun H Q q => ha H _ ⟨i, rfl, q⟩
end
theorem sm_nat (i : Nat) (h : i ≤ 100000) : Sm 1 140 (.int (i : Nat)) := .int (Nat.lt_of_le_of_lt (show ((i : Nat) : Int).natAbs ≤ 100000 by omega) (by decide +kernel))
theorem sm5 {x : Str} (h : (x.cps.toList.all fun c => decide (c < 16 ^ 8)) = true) (hs : x.length ≤ 140) : Sm 1 140 (.str x) :=
  ⟨by simp [PyData.showable], by simpa [PyData.leavesShort] using h, by simp [PyData.depth], hs⟩
theorem item_sm (i : Nat) (h : i ≤ 100000) : SmI (eItem i) := SmI.tup (fun d hd => by
  rcases List.mem_cons.mp hd with hd | hd
  · rw [hd]; exact .str (by decide) (by decide)
  · rw [List.mem_singleton.mp hd]; exact sm_nat i h) (Nat.le_refl _)
theorem twice_sm (i : Nat) (h : i ≤ 100000) : SmI (eTwice i) := SmI.tup (fun d hd => by
  rcases List.mem_cons.mp hd with hd | hd
  · rw [hd]; exact sm5 (by decide) (by decide)
  · rw [List.mem_singleton.mp hd]; exact sm_nat i h) (Nat.le_refl _)
theorem form_sm : SmI eForm := Sm.i (.str (by decide) (by decide))
theorem lotGo_sm (n : Int) : ∀ (least : Int) (i : Nat) (ds : List PyData), i + ds.length ≤ 100000 → SmI (lotGo n least i ds)
  | _, _, [], _ => Sm.non.i
  | least, i, x :: r, h => by
    rw [List.length_cons] at h
    unfold lotGo
    split
    · exact lotGo_sm n _ (i + 1) r (by omega)
    · exact item_sm i (by omega)
theorem itGo_sm (k : PyData) (hk : SmI k) : ∀ (i : Nat) (ds : List PyData), i + ds.length ≤ 100000 → SmI (itGo k i ds)
  | _, [], _ => hk
  | i, x :: r, h => by
    rw [List.length_cons] at h
    unfold itGo
    split
    · exact itGo_sm k hk (i + 1) r (by omega)
    · exact item_sm i (by omega)
theorem twGo_sm : ∀ (pre ns : List Int), pre.length + ns.length ≤ 100000 → SmI (twGo pre ns)
  | _, [], _ => Sm.non.i
  | pre, x :: r, h => by
    rw [List.length_cons] at h
    unfold twGo
    split
    · exact twice_sm _ (by omega)
    · exact twGo_sm _ r (by rw [List.length_append]; show _ + 1 + _ ≤ _; omega)
theorem weight_len : ∀ ds : List PyData, ds.length ≤ PyData.weightAll ds
  | [] => Nat.zero_le _
  | d :: ds => by
    have := weight_len ds
    simp only [PyData.weightAll, List.length_cons]
    omega
theorem SmV.len {ds : List PyData} (h : SmV (.tuple ds)) : ds.length ≤ 30100 := by
  have := h.wt
  simp only [PyData.weight] at this
  exact Nat.le_trans (weight_len ds) this
theorem lotErr_sm (n : Int) {d : PyData} (h : SmV d) : SmI (lotErr n d) := by
  cases d with
  | tuple ds =>
    have := SmV.len h
    exact lotGo_sm n 0 0 ds (by omega)
  | _ => exact form_sm
theorem standErr_sm (n : Int) {d : PyData} (h : SmV d) : SmI (standErr n d) := by
  cases d with
  | tuple ds =>
    have := SmV.len h
    show SmI (if _ then _ else _)
    split
    · exact itGo_sm _ (twGo_sm _ _ (by simp; omega)) 0 ds (by omega)
    · exact form_sm
  | _ => exact form_sm
end Kr

namespace Kr
open PySem PySem.Spec PyProof.Rows L2
abbrev nLaw : List Str := ["script", "deck", "turn", "many", "lot", "standing", "riders", "wrong", "bad", "lots", "standings", "kept", "place", "value", "told", "due", "own"]
theorem scLaw : FnScope nLaw ["script"] (defScope sLaw) := ⟨rfl, rfl, rfl, by decide +kernel, rfl, by decide +kernel, by decide +kernel⟩
def spLaw (K : PySem.W.Frag) : Sp := fun vs H Q _ => ∃ (a : Addr) (ns : List Int), vs = [.ref a] ∧ SqL K H a (ns.map V.int) ∧ ns.length ≤ 63 ∧ ∀ H', Q (.bl true) H'
/-- the defs that the law calls -/
structure Fns (P : Program) (w : World) (K : PySem.W.Frag) (mg : Str → Option Value) (base : Heap) : Prop where
  deck : Ok P w K mg base 1 "_law_deck" ["script"] (spDeck K)
  draw : Ok P w K mg base 1 "_law_draw" ["deck", "many"] spDraw
  standing : Ok P w K mg base 3 "_law_standing" ["deck", "many"] spStanding
  odd : Ok P w K mg base 3 "_law_odd" ["deck", "many"] spOdd
  spoilt : Ok P w K mg base 3 "_law_spoilt" ["deck", "row", "items"] spSpoilt
  lotDue : Ok P w K mg base 2 "_law_lot_due" ["many", "value"] (spErr lotErr)
  standDue : Ok P w K mg base 2 "_law_standing_due" ["many", "value"] (spErr standErr)
  lotErr : ∃ f fd, FnOk P w K mg base CX0 2 f fd ["n", "value"] (spErr lotErr) ∧ PySem.W.keepIn K (.ref f) = true ∧ mg "lot_error" = some (.ref f) ∧ Binds K fd ["n", "value"] [] ∧ KBn K fd ["n", "value"] 0 ["value", "n"] (fun _ ws => ws.reverse) (fun _ zs => zs.reverse)
  standErr : ∃ f fd, FnOk P w K mg base CX0 2 f fd ["n", "value"] (spErr standErr) ∧ PySem.W.keepIn K (.ref f) = true ∧ mg "standing_error" = some (.ref f) ∧ Binds K fd ["n", "value"] [] ∧ KBn K fd ["n", "value"] 0 ["value", "n"] (fun _ ws => ws.reverse) (fun _ zs => zs.reverse)
  keys : ∃ f fd, FnOk P w K mg base CX0 1 f fd ["standing"] spKeys ∧ PySem.W.keepIn K (.ref f) = true ∧ mg "keys_of" = some (.ref f) ∧ Binds K fd ["standing"] [] ∧ KBn K fd ["standing"] 0 ["standing"] (fun _ ws => ws) (fun _ zs => zs)
theorem dqa_ints_inv {G : Hp} : ∀ {xs : List V} {rs : List Int}, DqA G xs (rs.map PyData.int) → xs = rs.map V.int
  | _, [], h => by
    cases h
    rfl
  | _, r :: rs, h => by
    cases h with
    | cons h1 h2 =>
      cases h1
      rw [dqa_ints_inv h2]
      rfl
theorem dq_tup_ints {G : Hp} {v : V} {rs : List Int} (h : Dq G v (.tuple (rs.map PyData.int))) : ∃ a, v = .ref a ∧ G a = some (.tup (rs.map V.int)) := by
  cases h with
  | tup e q =>
    rw [dqa_ints_inv q] at e
    exact ⟨_, rfl, e⟩
theorem dq_lst_ints {G : Hp} {v : V} {rs : List Int} (h : Dq G v (.list (rs.map PyData.int))) : ∃ a, v = .ref a ∧ G a = some (.lst (rs.map V.int)) := by
  cases h with
  | lst e q =>
    rw [dqa_ints_inv q] at e
    exact ⟨_, rfl, e⟩
/-- x = repr(e); rest -/
theorem seq_repr {te : TE} {g : TG} {u : TS} {D : Ends} {σ : L2.St} {H : Hp} (h : te σ H fun v H1 => rRepr [v] H1 fun s H2 => g s σ H2 (u D)) : tSeq (tAsg (tCB rRepr (tCons te tNil)) g) u D σ H := h
/-- repr(e) != repr(e'), as a test -/
theorem ne_repr {te te2 : TE} {σ : L2.St} {H : Hp} {Q : Bool → Hp → Prop} (h : te σ H fun v H1 => rRepr [v] H1 fun x H2 => te2 σ H2 fun v2 H3 => rRepr [v2] H3 fun y H4 => rNe x y H4 fun z H5 => ∃ k, z = .bl k ∧ Q k H5) :
    tTest (tOp rNe (tCB rRepr (tCons te tNil)) (tCB rRepr (tCons te2 tNil))) σ H Q := h
/-- repr(e) != e', as a test -/
theorem ne_repr1 {te te2 : TE} {σ : L2.St} {H : Hp} {Q : Bool → Hp → Prop} (h : te σ H fun v H1 => rRepr [v] H1 fun x H2 => te2 σ H2 fun y H4 => rNe x y H4 fun z H5 => ∃ k, z = .bl k ∧ Q k H5) :
    tTest (tOp rNe (tCB rRepr (tCons te tNil)) te2) σ H Q := h
/-! ### expressions that give data and change nothing -/
def EvS (te : TE) (σ : L2.St) (H : Hp) (R : PyData → Prop) : Prop := ∀ H1, Same H H1 → ∀ Q : VK, (∀ v H2 d, Same H1 H2 → Dq H2 v d → R d → Q v H2) → te σ H1 Q
theorem es_if {t : TT} {ta tb : TE} {σ : L2.St} {H : Hp} {R : PyData → Prop} (ht : ∀ (H1 : Hp) (Q : Bool → Hp → Prop), (∀ b, Q b H1) → t σ H1 Q) (ha : EvS ta σ H R) (hb : EvS tb σ H R) : EvS (tIf t ta tb) σ H R := fun H1 e Q q =>
  ht H1 _ fun b => by
    cases b with
    | true => exact iteT (ha H1 e Q q)
    | false => exact iteF (hb H1 e Q q)
theorem seq_asgS {te : TE} {g : TG} {u : TS} {D : Ends} {σ : L2.St} {H : Hp} {R : PyData → Prop} (h : EvS te σ H R) (k : ∀ v H2 d, Same H H2 → Dq H2 v d → R d → g v σ H2 (u D)) : tSeq (tAsg te g) u D σ H := h H (Same.refl _) _ k
section
variable {P : Program} {w : World} {K : PySem.W.Frag} {mg : Str → Option Value} {base : Heap}
theorem ok_law {f : Addr} {fd : FuncData} (F : Fun K "law" "law" sLaw f fd) (B : Bi mg) (T : Fns P w K mg base) : FnG P w K mg base CX0 4 f fd ["script"] (spLaw K) := by
  obtain ⟨fL, dL, gL, kL, mL, bL, nL⟩ := T.lotErr
  obtain ⟨fS, dS, gS, kS, mS, bS, nS⟩ := T.standErr
  obtain ⟨fK, dK, gK, kK, mK, bK, nK⟩ := T.keys
  refine okG F scLaw (fun vs H Q E h => ?_) (fun cdv A outer s H vs Q E hg hr h => ?_)
  · obtain ⟨a, ns, rfl, _⟩ := h
    rfl
  · obtain ⟨a, ns, rfl, hS, hlen, q⟩ := h
    have hr1 := hr.mono (show 1 ≤ 3 by decide)
    have hr2 := hr.mono (show 2 ≤ 3 by decide)
    have cr := call_repr (X := (cxOf CX0 P w K mg base nLaw "law" (defScope sLaw) f cdv A outer s H E).nox) hg hr.units
    refine ⟨_, pss_cons (ps_set (i := 1) scLaw.nd rfl (.inr rfl) (pe_fn T.deck hr1 (by rfl) (pa_cons (pv 0) pa_nil)))
      (pss_cons (ps_for PassesOwn.never rfl (pi_range1 (by rfl) B.range (pa_cons pe_int pa_nil)) (pg_name (i := 2) scLaw.nd rfl (.inl rfl))
        (pss_cons (ps_set (i := 3) scLaw.nd rfl (.inl rfl) (pe_op op_add pe_int (pe_fn T.draw hr1 (by rfl) (pa_cons (pv 1) (pa_cons (pe_ifExp (pt_cmpR op_lt (pv 2) pe_int (nomark _)) pe_int pe_int) pa_nil)))))
        (pss_cons (ps_set (i := 4) scLaw.nd rfl (.inl rfl) (pe_callTy call_tuple_of (by rfl) B.tuple (by decide +kernel) (pa_cons
          (pe_lc (own := [("place", 12)]) (g := gName 12) rfl scLaw.nd (pi_range1 (by rfl) B.range (pa_cons (pv 3) pa_nil)) (blkOk_by (own := [("place", 12)]) (N := nLaw) (sc := defScope sLaw) (by decide +kernel))
            (fun _ _ _ _ _ => pg_name (i := 12) scLaw.nd rfl (.inl rfl)) (fun _ _ _ _ _ => pts_one (pt_cmpR op_eq (pe_fn T.draw hr1 (by rfl) (pa_cons (pv 1) (pa_cons pe_int pa_nil))) pe_int (nomark _))) (fun _ _ _ _ _ => pv 12)) pa_nil)))
        (pss_cons (ps_set (i := 5) scLaw.nd rfl (.inr rfl) (pe_fn T.standing hr (by rfl) (pa_cons (pv 1) (pa_cons (pv 3) pa_nil))))
        (pss_cons (ps_set (i := 6) scLaw.nd rfl (.inl rfl) (pe_op op_cat
          (pe_lc (own := [("own", 16)]) (g := gName 16) rfl scLaw.nd (pi_tup (pv 5)) (blkOk_by (own := [("own", 16)]) (N := nLaw) (sc := defScope sLaw) (by decide +kernel))
            (fun _ _ _ _ _ => pg_name (i := 16) scLaw.nd rfl (.inl rfl)) (fun _ _ _ _ _ => pts_one (pt_cmpR op_gt (pv 16) pe_int (nomark _))) (fun _ _ _ _ _ => pv 16))
          (pe_lst (pa_cons pe_int pa_nil))))
        (pss_cons (ps_set (i := 7) scLaw.nd rfl (.inl rfl) (pe_lst (pa_cons (pv 3) (pa_cons (pe_un un_neg pe_int) (pa_cons (pe_op op_sub (pv 3) pe_int) (pa_cons pe_int (pa_cons pe_bl (pa_cons pe_bl (pa_cons pe_non (pa_cons pe_str (pa_cons (pe_tup (pa_cons pe_int pa_nil)) (pa_cons (pe_op op_pow pe_int pe_int)
          (pa_cons (pe_op op_add (pv 3) pe_int) (pa_cons (pe_fn T.draw hr1 (by rfl) (pa_cons (pv 1) (pa_cons (pv 3) pa_nil))) pa_nil))))))))))))))
        (pss_cons (ps_set (i := 7) scLaw.nd rfl (.inl rfl) (pe_op op_cat (pv 7) (pe_lst (pa_cons (pe_lst (pa_cons pe_int pa_nil)) (pa_cons pe_dnewK (pa_cons (pe_tup (pa_cons (pe_lst pa_nil) pa_nil)) pa_nil))))))
        (pss_cons (ps_set (i := 8) scLaw.nd rfl (.inl rfl) (pe_lst (pa_cons pe_int (pa_cons (pe_un un_neg pe_int) (pa_cons pe_bl (pa_cons pe_bl (pa_cons pe_non (pa_cons pe_str (pa_cons (pe_tup (pa_cons pe_int pa_nil)) (pa_cons (pe_op op_pow pe_int pe_int)
          (pa_cons (pe_ix ix_list (pv 6) pe_int (fun _ _ => rfl)) (pa_cons (pe_ix ix_list (pv 6) (pe_un un_neg pe_int) (fun _ _ => rfl)) (pa_cons pe_int (pa_cons pe_int pa_nil))))))))))))))
        (pss_cons (ps_set (i := 8) scLaw.nd rfl (.inl rfl) (pe_op op_cat (pv 8) (pe_lst (pa_cons (pe_lst (pa_cons pe_int pa_nil)) (pa_cons pe_dnewK (pa_cons (pe_tup (pa_cons (pe_lst pa_nil) pa_nil)) pa_nil))))))
        (pss_cons (ps_set (i := 9) scLaw.nd rfl (.inl rfl) (pe_lst (pa_cons (pv 4) (pa_cons (pe_fn T.spoilt hr (by rfl) (pa_cons (pv 1) (pa_cons (pv 4) (pa_cons (pv 7) pa_nil)))) (pa_cons (pe_fn T.spoilt hr (by rfl) (pa_cons (pv 1) (pa_cons (pv 4) (pa_cons (pv 7) pa_nil))))
          (pa_cons (pe_revT (pv 4)) (pa_cons (pe_fn T.odd hr (by rfl) (pa_cons (pv 1) (pa_cons (pv 3) pa_nil))) pa_nil)))))))
        (pss_cons (ps_set (i := 10) scLaw.nd rfl (.inl rfl) (pe_lst (pa_cons (pv 5) (pa_cons (pe_fn T.spoilt hr (by rfl) (pa_cons (pv 1) (pa_cons (pv 5) (pa_cons (pv 8) pa_nil)))) (pa_cons (pe_fn T.spoilt hr (by rfl) (pa_cons (pv 1) (pa_cons (pv 5) (pa_cons (pv 8) pa_nil)))) pa_nil)))))
        (pss_cons (ps_set (i := 10) scLaw.nd rfl (.inl rfl) (pe_op op_cat (pv 10) (pe_lst (pa_cons (pe_fn T.odd hr (by rfl) (pa_cons (pv 1) (pa_cons (pv 3) pa_nil))) (pa_cons (pe_op op_catT (pv 5) (pe_tup (pa_cons pe_int pa_nil))) (pa_cons (pe_slice sl_tup (pv 5) (po_some pe_int) po_none) pa_nil))))))
        (pss_cons (ps_set (i := 11) scLaw.nd rfl (.inl rfl) (pe_callB cr (by rfl) B.repr (by decide +kernel) (pa_cons (pe_lst (pa_cons (pv 9) (pa_cons (pv 10) pa_nil))) pa_nil)))
        (pss_cons (ps_for PassesOwn.never rfl (pi_enum (by rfl) B.enumerate (pa_cons (pv 9) pa_nil)) (pg_tup rfl (pgs_cons (pg_name (i := 12) scLaw.nd rfl (.inl rfl)) (pgs_cons (pg_name (i := 13) scLaw.nd rfl (.inl rfl)) pgs_nil)))
          (pss_cons (ps_set (i := 14) scLaw.nd rfl (.inl rfl) (pe_ifExp (pt_cmpR op_eq (pv 12) (pv 2) (nomark _)) (pe_callN gL hr2 (by rfl) mL kL nL pass0 (pk_cons (pv 13) (pk_cons (pv 3) pk_nil))) (pe_call gL hr2 (by rfl) mL kL bL .nil pass0 (pa_cons (pv 3) (pa_cons (pv 13) pa_nil)))))
          (pss_one (ps_if (pt_cmpR op_ne (pe_callB cr (by rfl) B.repr (by decide +kernel) (pa_cons (pv 14) pa_nil)) (pe_callB cr (by rfl) B.repr (by decide +kernel) (pa_cons (pe_fn T.lotDue hr2 (by rfl) (pa_cons (pv 3) (pa_cons (pv 13) pa_nil))) pa_nil)) (nomark _)) (pss_one (ps_ret pe_bl)) pss_nil))))
        (pss_cons (ps_for PassesOwn.never rfl (pi_enum (by rfl) B.enumerate (pa_cons (pv 10) pa_nil)) (pg_tup rfl (pgs_cons (pg_name (i := 12) scLaw.nd rfl (.inl rfl)) (pgs_cons (pg_name (i := 13) scLaw.nd rfl (.inl rfl)) pgs_nil)))
          (pss_cons (ps_set (i := 14) scLaw.nd rfl (.inl rfl) (pe_ifExp (pt_cmpR op_eq (pv 12) (pv 2) (nomark _)) (pe_callN gS hr2 (by rfl) mS kS nS pass0 (pk_cons (pv 13) (pk_cons (pv 3) pk_nil))) (pe_call gS hr2 (by rfl) mS kS bS .nil pass0 (pa_cons (pv 3) (pa_cons (pv 13) pa_nil)))))
          (pss_one (ps_if (pt_cmpR op_ne (pe_callB cr (by rfl) B.repr (by decide +kernel) (pa_cons (pv 14) pa_nil)) (pe_callB cr (by rfl) B.repr (by decide +kernel) (pa_cons (pe_fn T.standDue hr2 (by rfl) (pa_cons (pv 3) (pa_cons (pv 13) pa_nil))) pa_nil)) (nomark _)) (pss_one (ps_ret pe_bl)) pss_nil))))
        (pss_cons (ps_set (i := 15) scLaw.nd rfl (.inl rfl) (pe_callTy call_tuple_of (by rfl) B.tuple (by decide +kernel) (pa_cons
          (pe_lc (own := [("place", 12)]) (g := gName 12) rfl scLaw.nd (pi_range1 (by rfl) B.range (pa_cons (pv 3) pa_nil)) (blkOk_by (own := [("place", 12)]) (N := nLaw) (sc := defScope sLaw) (by decide +kernel))
            (fun _ _ _ _ _ => pg_name (i := 12) scLaw.nd rfl (.inl rfl)) (fun _ _ _ _ _ => pts_one (pt_cmpR op_eq (pe_ix (r := rIxT K) ix_tup (pv 5) (pv 12) (fun _ _ => rfl)) pe_int (nomark _))) (fun _ _ _ _ _ => pv 12)) pa_nil)))
        (pss_cons (ps_set (i := 14) scLaw.nd rfl (.inl rfl) (pe_ifExp (pt_cmpR op_eq (pv 2) pe_int (nomark _)) (pe_callN gK hr1 (by rfl) mK kK nK pass0 (pk_cons (pv 5) pk_nil)) (pe_call gK hr1 (by rfl) mK kK bK .nil pass0 (pa_cons (pv 5) pa_nil))))
        (pss_one (ps_if (PW.pt (pw_or (pt_cmpR op_ne (pe_callB cr (by rfl) B.repr (by decide +kernel) (pa_cons (pe_lst (pa_cons (pv 14) (pa_cons (pe_call gK hr1 (by rfl) mK kK bK .nil pass0 (pa_cons (pv 5) pa_nil)) pa_nil))) pa_nil)) (pe_callB cr (by rfl) B.repr (by decide +kernel) (pa_cons (pe_lst (pa_cons (pv 15) (pa_cons (pv 15) pa_nil))) pa_nil)) (nomark _))
            (pw_or1 (pt_cmpR op_ne (pe_callB cr (by rfl) B.repr (by decide +kernel) (pa_cons (pe_lst (pa_cons (pv 9) (pa_cons (pv 10) pa_nil))) pa_nil)) (pv 11) (nomark _))))) (pss_one (ps_ret pe_bl)) pss_nil)))))))))))))))))))
      (pss_one (ps_ret pe_bl))), ?_⟩
    refine ⟨.ref a, rfl, a, ns, rfl, hS, hlen, fun H1 p l s1 np nl D1 => ?_⟩
    refine ⟨7, rfl, by decide, by decide, for_range (n := 7) (fun i σ H2 => ∃ y2 y3 y4 y5 y6 y7 y8 y9 y10 y11 y12 y13 y14 y15 y16 : Option V,
      σ = [some (.ref a), some (.ref p), y2, y3, y4, y5, y6, y7, y8, y9, y10, y11, y12, y13, y14, y15, y16] ∧ Deck H2 p l) ⟨none, none, none, none, none, none, none, none, none, none, none, none, none, none, none, rfl, D1⟩ ?_ ?_⟩
    rotate_left
    · rintro σ H2 _
      exact q H2
    rintro i σ H2 hi ⟨y2, y3, y4, y5, y6, y7, y8, y9, y10, y11, y12, y13, y14, y15, y16, rfl, D2⟩
    have hten : Sm 1 140 (.int (10 ^ (30 : Int).toNat)) := .int (by decide +kernel)
    have one : ∀ i : Int, -1000 ≤ i → i ≤ 1000 → SmI (.int i) := fun i h0 h1 => Sm.i (sm_small h0 h1)
    -- many
    refine seq_asg (p := p) (l := l) (R := fun d => ∃ m : Int, d = .int m ∧ 3 ≤ m ∧ m ≤ 24) (fun G e D Q' q' => ?_) D2 fun v H3 d e3 D3 hd r => ?_
    · refine ⟨.ref p, rfl, .int _, rfl, _, _, rfl, rfl, _, rfl, ite2 (fun _ => ?_) (fun _ => ?_)⟩
      · exact ⟨p, l, 22, rfl, D, by decide, fun G2 z D' e' z0 z1 => ⟨3, z, rfl, rfl, q' _ G2 _ e' D' (.int _) ⟨_, rfl, by omega, by omega⟩⟩⟩
      · exact ⟨p, l, 5, rfl, D, by decide, fun G2 z D' e' z0 z1 => ⟨3, z, rfl, rfl, q' _ G2 _ e' D' (.int _) ⟨_, rfl, by omega, by omega⟩⟩⟩
    obtain ⟨m, rfl, m0, m1⟩ := r
    cases hd
    -- lot
    refine seq_asg (p := p) (l := l) (R := AllT SmI 24) (fun G e D Q' q' => ?_) D3 fun vlot H4 dlot e4 D4 hlot rlot => ?_
    · refine ⟨.int m, rfl, m, rfl, by omega, by omega, fun Da nDa => lc_range (n := m.toNat) (fun i G2 => ∃ zs : List Int, G2 Da = some (.lst (zs.map V.int)) ∧ Deck G2 p l ∧ Ext p l G G2 ∧ zs.length ≤ i ∧ ∀ z ∈ zs, 0 ≤ z ∧ z ≤ 24)
        ⟨[], upd_same, (new_dq D nDa).2.1, (new_dq D nDa).1, Nat.le_refl _, fun _ h => nomatch h⟩ ?_ ?_⟩
      · rintro j G2 hj ⟨zs, hDa, D', e', hl, hb⟩
        obtain ⟨nDp, nDl⟩ := D.new nDa
        refine ⟨rfl, .ref p, rfl, p, l, 2, rfl, D', by decide, fun G3 z D'' e'' z0 z1 => ?_⟩
        have hDa3 : G3 Da = some (.lst (zs.map V.int)) := hid_same p l G3 _ _ (e'' _ _ (by rw [hid_ne nDp nDl]; exact hDa))
        refine ⟨rfl, _, rfl, ite2 (fun _ => ?_) (fun _ => ?_)⟩
        · refine ⟨.int _, rfl, zs.map V.int, hDa3, szl (by rw [List.length_map]; omega), zs ++ [0 + (j : Int)], by rw [upd_same, List.map_append]; rfl, D''.mut nDp nDl, Ext.mut (Same.trans e' e'') nDa, by rw [List.length_append]; show _ + 1 ≤ _; omega, fun z hz => ?_⟩
          rcases List.mem_append.mp hz with hz | hz
          · exact hb z hz
          · rw [List.mem_singleton.mp hz]; omega
        · exact ⟨zs, hDa3, D'', Same.trans e' e'', by omega, hb⟩
      · rintro G2 ⟨zs, hDa, D', e', hl, hb⟩
        refine ⟨Da, _, rfl, .inl ⟨SqL.of hDa, fun t nt => ?_⟩⟩
        obtain ⟨e5, D5, ht⟩ := new_dq (o := .tup (zs.map V.int)) D' nt
        refine q' _ _ _ (Same.trans e' e5) D5 (.tup ht (DqA.ints zs)) ⟨_, rfl, by rw [List.length_map]; omega, fun x hx => ?_⟩
        obtain ⟨z, hz, rfl⟩ := List.mem_map.mp hx
        have := hb z hz
        exact one z (by omega) (by omega)
    obtain ⟨lds, rfl, ll, ls⟩ := rlot
    -- standing
    refine seq_asg (p := p) (l := l) (R := fun d => ∃ ss : List Int, d = .tuple (ss.map .int) ∧ ss.length = m.toNat ∧ ∀ z ∈ ss, 0 ≤ z ∧ z ≤ 99) (fun G e D Q' q' => ?_) D4 fun vst H5 dst e5 D5 hdst rst => ?_
    · exact ⟨.ref p, rfl, .int m, rfl, p, l, m, rfl, D, by omega, by omega, fun G2 st ss D' e' hst hsl hsb => q' _ G2 _ e' D' (.tup hst (DqA.ints ss)) ⟨ss, rfl, hsl, hsb⟩⟩
    obtain ⟨ss, rfl, hsl, hsb⟩ := rst
    obtain ⟨st, rfl, hst⟩ := dq_tup_ints hdst
    have hlot5 := hlot.up e5
    have hss : ∀ d ∈ ss.map PyData.int, SmI d := fun d hd => by
      obtain ⟨z, hz, rfl⟩ := List.mem_map.mp hd
      have := hsb z hz
      exact one z (by omega) (by omega)
    -- riders
    refine seq_asg (p := p) (l := l) (R := fun d => ∃ rs : List Int, d = .list (rs.map .int) ∧ 0 < rs.length ∧ rs.length ≤ 100 ∧ ∀ z ∈ rs, 0 ≤ z ∧ z ≤ 99) (fun G e D Q' q' => ?_) D5 fun vrid H6 drid e6 D6 hrid rrid => ?_
    · have hst' := e _ _ hst
      obtain ⟨_, _, hstG⟩ := hid_some hst'
      refine ⟨.ref st, rfl, st, rfl, ⟨_, SqT.of hstG⟩, fun Da nDa => lc_tup (K := K) (xs := ss.map V.int) (fun i G2 => ∃ zs : List Int, G2 Da = some (.lst (zs.map V.int)) ∧ Deck G2 p l ∧ Same G G2 ∧ zs.length ≤ i ∧ ∀ z ∈ zs, 0 ≤ z ∧ z ≤ 99)
        ⟨[], upd_same, (new_dq D nDa).2.1, same_new nDa, Nat.le_refl _, fun _ h => nomatch h⟩ (fun i G2 _ ⟨_, _, _, sm, _⟩ => SqT.of (sm _ _ hstG)) ?_ ?_⟩
      · rintro j x G2 hx ⟨zs, hDa, D', sm, hl, hb⟩
        obtain ⟨z, hz, rfl⟩ : ∃ z ∈ ss, x = V.int z := by
          obtain ⟨z, hz, e⟩ := List.mem_map.mp (List.mem_of_getElem? hx)
          exact ⟨z, hz, e.symm⟩
        obtain ⟨nDp, nDl⟩ := D.new nDa
        refine ⟨rfl, .int z, rfl, _, _, rfl, rfl, _, rfl, ite2 (fun _ => ?_) (fun _ => ?_)⟩
        · have hjl := (List.getElem?_eq_some_iff.mp hx).1
          rw [List.length_map, hsl] at hjl
          refine ⟨.int z, rfl, zs.map V.int, hDa, szl (by rw [List.length_map]; omega), zs ++ [z], by rw [upd_same, List.map_append]; rfl, D'.mut nDp nDl, fun b o hb' => ?_, by rw [List.length_append]; show _ + 1 ≤ _; omega, fun z' hz' => ?_⟩
          · rw [upd_ne (ne_of_none hb' nDa)]
            exact sm _ _ hb'
          · rcases List.mem_append.mp hz' with hz' | hz'
            · exact hb z' hz'
            · rw [List.mem_singleton.mp hz']; exact hsb z hz
        · exact ⟨zs, hDa, D', sm, by omega, hb⟩
      · rintro G2 ⟨zs, hDa, D', sm, hl, hb⟩
        rw [List.length_map, hsl] at hl
        refine ⟨by show 1 ≤ sizeLine; decide, fun b nb => ?_⟩
        obtain ⟨e7, D7, hb7⟩ := new_dq (o := .lst [.int 99]) D' nb
        have hDa7 : upd G2 b (.lst [.int 99]) Da = some (.lst (zs.map V.int)) := same_new nb _ _ hDa
        refine ⟨Da, b, _, _, rfl, rfl, hDa7, upd_same, sz (by rw [List.length_map]; show _ + 1 ≤ _; omega), fun c nc => ?_⟩
        obtain ⟨e8, D8, hc⟩ := new_dq (o := .lst (zs.map V.int ++ [.int 99])) D7 nc
        have hm : zs.map V.int ++ [.int 99] = (zs ++ [99]).map V.int := by rw [List.map_append]; rfl
        rw [hm] at hc ⊢
        rw [hm] at e8 D8
        refine q' _ _ _ (Same.trans (Ext.of sm) (Same.trans e7 e8)) D8 (.lst hc (DqA.ints _)) ⟨_, rfl, by rw [List.length_append]; show 0 < _ + 1; omega, by rw [List.length_append]; show _ + 1 ≤ _; omega, fun z hz => ?_⟩
        rcases List.mem_append.mp hz with hz | hz
        · exact hb z hz
        · rw [List.mem_singleton.mp hz]; omega
    obtain ⟨rs, rfl, rs0, rs1, rsb⟩ := rrid
    obtain ⟨rid, rfl, hrid6⟩ := dq_lst_ints hrid
    have hlot6 := hlot5.up e6
    have hst6 := e6 _ _ hst
    -- wrong
    have more : ∀ {σ : L2.St} {G : Hp} {z : Int}, -1000 ≤ z → z ≤ 1000 → EvP p l (tLst (tCons (tLst (tCons (tC (.int z)) tNil)) (tCons tDNewK (tCons (tTup (tCons (tLst tNil) tNil)) tNil)))) σ G (AllL SmI 3) := fun {σ G z} h0 h1 => by
      refine ev_lst (S := SmI) (n := 3) ?_ (by decide) fun ds hl hr => ⟨ds, rfl, by omega, hr⟩
      refine ea_cons (ev_lst (S := Sm 1 140) (n := 1) (ea_cons (ev_int (sm_small h0 h1)) ea_nil) (by decide) fun ds hl hr => SmI.lst hr (by omega)) ?_
      refine ea_cons (ev_dic Sm.dic.i) (ea_cons (ev_tup (S := Sm 1 140) (n := 1) (ea_cons (ev_lst (S := Sm 1 140) (n := 0) ea_nil (by decide) fun ds hl hr => ?_) ea_nil) (by decide) fun ds hl hr => SmI.tup hr (by omega)) ea_nil)
      obtain rfl : ds = [] := List.length_eq_zero_iff.mp hl
      exact ⟨by simp [PyData.showable, PyData.showableAll], by simp [PyData.leavesShort, PyData.leavesShortAll], by simp [PyData.depth, PyData.depthAll], by simp [PyData.weight, PyData.weightAll]⟩
    refine seq_asg (p := p) (l := l) (R := AllL SmI 12) ?_ D6 fun vwr H7 dwr e7 D7 hwr rwr => ?_
    · refine ev_lst (S := SmI) (n := 12) ?_ (by decide) fun ds hl hr => ⟨ds, rfl, by omega, hr⟩
      refine ea_cons (EvI.data (i := m) (ei_v rfl) (one _ (by omega) (by omega))) (ea_cons (EvI.data (ei_neg ei_c) (one _ (by decide) (by decide))) (ea_cons (EvI.data (i := m - 1) (ei_sub (ei_v rfl) ei_c) (one _ (by omega) (by omega))) ?_))
      refine ea_cons (ev_int (one _ (by decide) (by decide))) (ea_cons (ev_bl (Sm.bl _).i) (ea_cons (ev_bl (Sm.bl _).i) (ea_cons (ev_non Sm.non.i) (ea_cons (ev_str (Sm.str (by decide) (by decide)).i) ?_))))
      refine ea_cons (ev_tup (S := Sm 1 140) (n := 1) (ea_cons (ev_int (sm_small (by decide) (by decide))) ea_nil) (by decide) fun ds hl hr => SmI.tup hr (by omega)) ?_
      refine ea_cons (EvI.data (ei_pow ei_c ei_c ⟨by decide, by decide, by decide⟩) hten.i) (ea_cons (EvI.data (i := m + 3) (ei_add (ei_v rfl) ei_c) (one _ (by omega) (by omega))) ?_)
      exact ea_cons (ev_draw (k := m) rfl (ei_v rfl) (by omega) fun z h0 h1 => one z (by omega) (by omega)) ea_nil
    refine seq_asg (p := p) (l := l) (R := AllL SmI 15) ?_ D7 fun vwr2 H8 dwr2 e8 D8 hwr2 rwr2 => ?_
    · exact ev_cat (S := SmI) (n := 12) (m := 3) (ev_var rfl hwr rwr) (more (by decide) (by decide)) (by decide) fun d h => h
    have hrid8 := e8 _ _ (e7 _ _ hrid6)
    have hlast : ∃ z, atI (rs.map V.int) (-1) = some (.int z) ∧ 0 ≤ z ∧ z ≤ 99 := by
      have hne : rs ≠ [] := List.length_pos_iff.mp rs0
      have hb := rsb (rs.getLast hne) (List.getLast_mem hne)
      refine ⟨rs.getLast hne, ?_, hb.1, hb.2⟩
      have e1 : rs.map V.int = rs.dropLast.map V.int ++ [.int (rs.getLast hne)] := by
        rw [← List.map_singleton, ← List.map_append, List.dropLast_concat_getLast]
      rw [e1]
      exact atI_last _ _
    obtain ⟨zl, hzl, zl0, zl1⟩ := hlast
    have hfirst : ∃ z, atI (rs.map V.int) 0 = some (.int z) ∧ 0 ≤ z ∧ z ≤ 99 := by
      have hb := rsb rs[0] (List.getElem_mem rs0)
      refine ⟨rs[0], atI_nat (j := 0) ?_, hb.1, hb.2⟩
      rw [List.getElem?_map, List.getElem?_eq_getElem rs0]
      rfl
    obtain ⟨zf, hzf, zf0, zf1⟩ := hfirst
    -- bad
    refine seq_asg (p := p) (l := l) (R := AllL SmI 12) ?_ D8 fun vbd H9 dbd e9 D9 hbd rbd => ?_
    · refine ev_lst (S := SmI) (n := 12) ?_ (by decide) fun ds hl hr => ⟨ds, rfl, by omega, hr⟩
      refine ea_cons (ev_int (one _ (by decide) (by decide))) (ea_cons (EvI.data (ei_neg ei_c) (one _ (by decide) (by decide))) (ea_cons (ev_bl (Sm.bl _).i) (ea_cons (ev_bl (Sm.bl _).i) (ea_cons (ev_non Sm.non.i) (ea_cons (ev_str (Sm.str (by decide) (by decide)).i) ?_)))))
      refine ea_cons (ev_tup (S := Sm 1 140) (n := 1) (ea_cons (ev_int (sm_small (by decide) (by decide))) ea_nil) (by decide) fun ds hl hr => SmI.tup hr (by omega)) ?_
      refine ea_cons (EvI.data (ei_pow ei_c ei_c ⟨by decide, by decide, by decide⟩) hten.i) ?_
      refine ea_cons (ev_ixI (k := 0) (z := zf) rfl hrid8 ei_c hzf (one _ (by omega) (by omega))) (ea_cons (ev_ixI (k := -1) (z := zl) rfl hrid8 (ei_neg ei_c) hzl (one _ (by omega) (by omega))) ?_)
      exact ea_cons (ev_int (one _ (by decide) (by decide))) (ea_cons (ev_int (one _ (by decide) (by decide))) ea_nil)
    refine seq_asg (p := p) (l := l) (R := AllL SmI 15) ?_ D9 fun vbd2 H10 dbd2 e10 D10 hbd2 rbd2 => ?_
    · exact ev_cat (S := SmI) (n := 12) (m := 3) (ev_var rfl hbd rbd) (more (by decide) (by decide)) (by decide) fun d h => h
    have e610 : Ext p l H6 H10 := ((e7.trans e8).trans e9).trans e10
    have hlot10 := hlot6.up e610
    have hst10 := e610 _ _ hst6
    have hwr10 := hwr2.up (e9.trans e10)
    obtain ⟨wds, rfl, ⟨wl0, wl1⟩, wsm⟩ := rwr2
    obtain ⟨bds, rfl, ⟨bl0, bl1⟩, bsm⟩ := rbd2
    have vlotS : SmV (.tuple lds) := SmV.tup ls (by omega)
    have hssl : (ss.map PyData.int).length ≤ 30 := by rw [List.length_map]; omega
    -- lots
    refine seq_asg (p := p) (l := l) (R := AllL SmV 5) ?_ D10 fun vlots H11 dlots e11 D11 hlots rlots => ?_
    · refine ev_lst (S := SmV) (n := 5) ?_ (by decide) fun ds hl hr => ⟨ds, rfl, by omega, hr⟩
      refine ea_cons (ev_var rfl hlot10 vlotS) (ea_cons (ev_spoilt rfl rfl rfl hlot10 hwr10 ls (by omega) wsm wl0 (by omega) fun d h => h) (ea_cons (ev_spoilt rfl rfl rfl hlot10 hwr10 ls (by omega) wsm wl0 (by omega) fun d h => h) ?_))
      exact ea_cons (ev_rev rfl hlot10 (SmV.tup (fun d hd => ls d (List.mem_reverse.mp hd)) (by rw [List.length_reverse]; omega))) (ea_cons (ev_odd (k := m) rfl rfl (by omega) (by omega) fun d h => h) ea_nil)
    have hst11 := e11 _ _ hst10
    have hbd11 := hbd2.up e11
    have hstd : ∀ {G : Hp}, hid p l G st = some (.tup (ss.map V.int)) → Dq (hid p l G) (.ref st) (.tuple (ss.map .int)) := fun h => .tup h (DqA.ints ss)
    -- standings
    refine seq_asg (p := p) (l := l) (R := AllL SmV 3) ?_ D11 fun vsts H12 dsts e12 D12 hsts rsts => ?_
    · refine ev_lst (S := SmV) (n := 3) ?_ (by decide) fun ds hl hr => ⟨ds, rfl, by omega, hr⟩
      exact ea_cons (ev_var rfl (hstd hst11) (SmV.tup hss (by omega))) (ea_cons (ev_spoilt rfl rfl rfl (hstd hst11) hbd11 hss hssl bsm bl0 (by omega) fun d h => h) (ea_cons (ev_spoilt rfl rfl rfl (hstd hst11) hbd11 hss hssl bsm bl0 (by omega) fun d h => h) ea_nil))
    have hst12 := e12 _ _ hst11
    refine seq_asg (p := p) (l := l) (R := AllL SmV 6) ?_ D12 fun vst2 H13 dst2 e13 D13 hst2 rst2 => ?_
    · refine ev_cat (S := SmV) (n := 3) (m := 3) (ev_var rfl hsts rsts) ?_ (by decide) fun d h => h
      refine ev_lst (S := SmV) (n := 3) ?_ (by decide) fun ds hl hr => ⟨ds, rfl, by omega, hr⟩
      refine ea_cons (ev_odd (k := m) rfl rfl (by omega) (by omega) fun d h => h) ?_
      have hne : ss.map PyData.int ≠ [] := fun z => by
        have := congrArg List.length z
        rw [List.length_map, hsl] at this
        simp at this
        omega
      refine ea_cons (ev_catT (S := SmI) rfl (hstd hst12) hne (by omega) (ea_cons (ev_int (one _ (by decide) (by decide))) ea_nil) fun d hd => SmV.tup (fun x hx => ?_) (by rw [List.length_append]; show _ + 1 ≤ _; omega)) ?_
      · rcases List.mem_append.mp hx with hx | hx
        · exact hss x hx
        · rw [List.mem_singleton.mp hx]; exact hd
      · exact ea_cons (ev_sl1 rfl (hstd hst12) (by rw [List.length_map]; omega) fun es hl hr => SmV.tup (fun d hd => hss d (hr d hd)) (by omega)) ea_nil
    obtain ⟨ldss, rfl, ⟨ll0, ll1⟩, lsm⟩ := rlots
    obtain ⟨sdss, rfl, ⟨sl0, sl1⟩, ssm⟩ := rst2
    have hl13 := (hlots.up (e12.trans e13))
    have hst13 := e13 _ _ hst12
    obtain ⟨la, lxs, rfl, hla, hlq⟩ : ∃ la lxs, vlots = .ref la ∧ hid p l H13 la = some (.lst lxs) ∧ DqA (hid p l H13) lxs ldss := by
      cases hl13 with
      | lst e q => exact ⟨_, _, rfl, e, q⟩
    obtain ⟨sa, sxs, rfl, hsa, hsq⟩ : ∃ sa sxs, vst2 = .ref sa ∧ hid p l H13 sa = some (.lst sxs) ∧ DqA (hid p l H13) sxs sdss := by
      cases hst2 with
      | lst e q => exact ⟨_, _, rfl, e, q⟩
    -- kept
    have smK : Sm 5 361214 (.list [.list ldss, .list sdss]) := by
      refine (Sm.lst (k := 4) (w := 180606) (m := 2) (fun d hd => ?_) (Nat.le_refl _)).mono (by decide) (by decide)
      rcases List.mem_cons.mp hd with hd | hd
      · rw [hd]
        exact (Sm.lst (m := 5) lsm ll1).mono (by decide) (by decide)
      · rw [List.mem_singleton.mp hd]
        exact (Sm.lst (m := 6) ssm sl1).mono (by decide) (by decide)
    generalize hshown : (PyData.list [.list ldss, .list sdss]).shown = shownK
    have up13 : ∀ {G : Hp}, Same H13 G → Same (hid p l H13) G := fun h => (hid_same p l H13).trans h
    have both : ∀ {G : Hp} {c : Addr}, Same H13 G → G c = some (.lst [.ref la, .ref sa]) → Dq G (.ref c) (.list [.list ldss, .list sdss]) := fun h hc =>
      .lst hc (.cons (.lst (up13 h _ _ hla) (hlq.up (up13 h))) (.cons (.lst (up13 h _ _ hsa) (hsq.up (up13 h))) .nil))
    refine seq_repr ⟨.ref la, rfl, .ref sa, rfl, by show 2 ≤ sizeLine; decide, fun c nc => ?_⟩
    have s14 : Same H13 (upd H13 c (.lst [.ref la, .ref sa])) := same_new nc
    refine repr_sm (both s14 upd_same) smK (by decide) (by decide) ?_
    rw [hshown]
    have D14 := D13.up s14
    generalize upd H13 c (.lst [.ref la, .ref sa]) = H14 at s14 D14
    have hst14 : H14 st = some (.tup (ss.map V.int)) := up13 s14 _ _ hst13
    have hla14 := up13 s14 _ _ hla
    have hsa14 := up13 s14 _ _ hsa
    have hlq14 := hlq.up (up13 s14)
    have hsq14 := hsq.up (up13 s14)
    -- the lots
    refine ⟨.ref la, rfl, la, lxs, rfl, SqL.of hla14, for_it walk_enum (fun j σ G => ∃ y12 y13 y14 : Option V, σ = [some (.ref a), some (.ref p), some (.int (0 + (i : Nat))), some (.int m), some vlot, some (.ref st), some (.ref rid), some vwr2, some vbd2, some (.ref la), some (.ref sa), some (.str shownK), y12, y13, y14, y15, y16] ∧ Same H14 G)
      ⟨_, _, _, rfl, Same.refl _⟩ (fun j σ G _ ⟨_, _, _, _, sm⟩ => SqL.of (sm _ _ hla14)) ?_ ?_⟩
    · rintro j _ σ G _ hj ⟨z12, z13, z14, rfl, sm⟩ ⟨T, x, y, rfl, nT, rfl, e1, e2⟩
      cases Option.some.inj e1
      obtain ⟨dy, hdy, hqy⟩ := (DqA.up sm hlq14).get e2
      have dyS : SmV dy := lsm dy (List.mem_of_getElem? hdy)
      have sT : Same G (upd G T (.tup [.int (j : Nat), y])) := same_new nT
      refine ⟨T, [.int (j : Nat), y], rfl, SqT.of upd_same, rfl, .int (j : Nat), [y], rfl, y, [], rfl, rfl, ?_⟩
      have sm2 := sm.trans sT
      have hqy2 := hqy.up sT
      generalize upd G T (.tup [.int (j : Nat), y]) = G2 at sm2 hqy2
      refine seq_asgS (R := fun d => d = lotErr m dy) (es_if (fun G3 Q' q' => ?_) (fun G3 e3 Q' q' => ?_) (fun G3 e3 Q' q' => ?_)) fun r G4 dr s4 hr4 er => ?_
      · exact ⟨_, rfl, _, rfl, rfl, _, rfl, q' _⟩
      · exact ⟨y, rfl, .int m, rfl, rfl, m, y, dy, rfl, hqy2.up e3, fun G5 r s5 hr => q' _ _ _ s5 hr rfl⟩
      · exact ⟨.int m, rfl, y, rfl, m, y, dy, rfl, hqy2.up e3, fun G5 r s5 hr => q' _ _ _ s5 hr rfl⟩
      subst er
      have esm := lotErr_sm m dyS
      refine ne_repr ⟨r, rfl, repr_sm hr4 esm (by decide) (by decide) ⟨.int m, rfl, y, rfl, m, y, dy, rfl, hqy2.up s4, fun G5 r2 s5 hr5 => repr_sm hr5 esm (by decide) (by decide) ⟨rfl, _, rfl, iteNS rfl ?_⟩⟩⟩
      exact ⟨_, _, _, rfl, (sm2.trans s4).trans s5⟩
    rintro σ H15 ⟨z12, z13, z14, rfl, s15⟩
    -- the standings
    refine ⟨.ref sa, rfl, sa, sxs, rfl, SqL.of (s15 _ _ hsa14), for_it walk_enum (fun j σ G => ∃ y12 y13 y14 : Option V, σ = [some (.ref a), some (.ref p), some (.int (0 + (i : Nat))), some (.int m), some vlot, some (.ref st), some (.ref rid), some vwr2, some vbd2, some (.ref la), some (.ref sa), some (.str shownK), y12, y13, y14, y15, y16] ∧ Same H14 G)
      ⟨_, _, _, rfl, s15⟩ (fun j σ G _ ⟨_, _, _, _, sm⟩ => SqL.of (sm _ _ hsa14)) ?_ ?_⟩
    · rintro j _ σ G _ hj ⟨z12, z13, z14, rfl, sm⟩ ⟨T, x, y, rfl, nT, rfl, e1, e2⟩
      cases Option.some.inj e1
      obtain ⟨dy, hdy, hqy⟩ := (DqA.up sm hsq14).get e2
      have dyS : SmV dy := ssm dy (List.mem_of_getElem? hdy)
      have sT : Same G (upd G T (.tup [.int (j : Nat), y])) := same_new nT
      refine ⟨T, [.int (j : Nat), y], rfl, SqT.of upd_same, rfl, .int (j : Nat), [y], rfl, y, [], rfl, rfl, ?_⟩
      have sm2 := sm.trans sT
      have hqy2 := hqy.up sT
      generalize upd G T (.tup [.int (j : Nat), y]) = G2 at sm2 hqy2
      refine seq_asgS (R := fun d => d = standErr m dy) (es_if (fun G3 Q' q' => ?_) (fun G3 e3 Q' q' => ?_) (fun G3 e3 Q' q' => ?_)) fun r G4 dr s4 hr4 er => ?_
      · exact ⟨_, rfl, _, rfl, rfl, _, rfl, q' _⟩
      · exact ⟨y, rfl, .int m, rfl, rfl, m, y, dy, rfl, hqy2.up e3, fun G5 r s5 hr => q' _ _ _ s5 hr rfl⟩
      · exact ⟨.int m, rfl, y, rfl, m, y, dy, rfl, hqy2.up e3, fun G5 r s5 hr => q' _ _ _ s5 hr rfl⟩
      subst er
      have esm := standErr_sm m dyS
      refine ne_repr ⟨r, rfl, repr_sm hr4 esm (by decide) (by decide) ⟨.int m, rfl, y, rfl, m, y, dy, rfl, hqy2.up s4, fun G5 r2 s5 hr5 => repr_sm hr5 esm (by decide) (by decide) ⟨rfl, _, rfl, iteNS rfl ?_⟩⟩⟩
      exact ⟨_, _, _, rfl, (sm2.trans s4).trans s5⟩
    rintro σ H16 ⟨z12', z13', z14', rfl, s16⟩
    have hst16 : H16 st = some (.tup (ss.map V.int)) := s16 _ _ hst14
    -- due
    have smD : SmV (.tuple ((keysGo 0 ss).map .int)) := SmV.tup (fun d hd => by
      obtain ⟨z, hz, rfl⟩ := List.mem_map.mp hd
      have := keysGo_bd 0 ss z hz
      exact one z (by omega) (by omega)) (by
      rw [List.length_map]
      have := keysGo_len 0 ss
      omega)
    dsimp only
    refine seq_asgS (R := fun d => d = .tuple ((keysGo 0 ss).map .int)) (fun G e Q' q' => ?_) fun vdue H17 ddue s17 hdue edue => ?_
    · have hstG := e _ _ hst16
      refine ⟨.int m, rfl, m, rfl, by omega, by omega, fun Da nDa => lc_range (n := m.toNat) (fun j G2 => ∃ acc : List Int, G2 Da = some (.lst (acc.map V.int)) ∧ Same G G2 ∧ acc.length ≤ j ∧ keysGo 0 ss = acc ++ keysGo j (ss.drop j))
        ⟨[], upd_same, same_new nDa, Nat.le_refl _, rfl⟩ ?_ ?_⟩
      · rintro j G2 hj ⟨acc, hDa, sm, hl, ek⟩
        have hjs : j < ss.length := by omega
        rw [List.drop_eq_getElem_cons hjs] at ek
        have hat : atI (ss.map V.int) (0 + (j : Int)) = some (.int ss[j]) := by
          rw [show (0 + (j : Int)) = ((j : Nat) : Int) by omega]
          refine atI_nat ?_
          rw [List.getElem?_map, List.getElem?_eq_getElem hjs]
          rfl
        generalize hz : ss[j] = z at ek hat
        refine ⟨rfl, .ref st, rfl, .int (0 + (j : Int)), rfl, st, _, _, .int z, rfl, rfl, SqT.of (sm _ _ hstG), hat, rfl, _, rfl, ?_⟩
        have hz2 : decide (V.int z = V.int 0) = decide (z = 0) := by simp
        rw [hz2]
        by_cases h0 : z = 0
        · rw [decide_eq_true h0]
          refine iteT ⟨.int (0 + (j : Int)), rfl, acc.map V.int, hDa, szl (by rw [List.length_map]; omega), acc ++ [(j : Int)], by rw [upd_same, List.map_append, show (0 + (j : Int)) = (j : Int) by omega]; rfl, fun b o hb => ?_, by rw [List.length_append]; show _ + 1 ≤ _; omega, ?_⟩
          · rw [upd_ne (ne_of_none hb nDa)]
            exact sm _ _ hb
          · rw [ek]
            show acc ++ (if _ then _ else _) = _
            rw [if_pos h0, List.append_assoc]
            rfl
        · rw [decide_eq_false h0]
          refine iteF ⟨acc, hDa, sm, by omega, ?_⟩
          rw [ek]
          show acc ++ (if _ then _ else _) = _
          rw [if_neg h0]
      · rintro G2 ⟨acc, hDa, sm, hl, ek⟩
        rw [List.drop_of_length_le (by omega)] at ek
        have ek2 : keysGo 0 ss = acc := ek.trans (List.append_nil _)
        refine ⟨Da, _, rfl, .inl ⟨SqL.of hDa, fun t nt => q' _ _ _ (sm.trans (same_new nt)) (.tup upd_same (DqA.ints acc)) (by rw [ek2])⟩⟩
    subst edue
    -- told
    have hst17 := s17 _ _ hst16
    refine seq_asgS (R := fun d => d = .tuple ((keysGo 0 ss).map .int)) (es_if (fun G3 Q' q' => ?_) (fun G3 e3 Q' q' => ?_) (fun G3 e3 Q' q' => ?_)) fun vt H18 dt s18 ht18 et => ?_
    · exact ⟨_, rfl, rfl, _, rfl, q' _⟩
    · exact ⟨.ref st, rfl, rfl, st, ss, rfl, e3 _ _ hst17, by omega, fun G5 t s5 nt ht => q' _ _ _ s5 (.tup ht (DqA.ints _)) rfl⟩
    · exact ⟨.ref st, rfl, st, ss, rfl, e3 _ _ hst17, by omega, fun G5 t s5 nt ht => q' _ _ _ s5 (.tup ht (DqA.ints _)) rfl⟩
    subst et
    have hdue18 := hdue.up s18
    have hst18 := s18 _ _ hst17
    have sm2 : Sm 5 70000 (.list [.tuple ((keysGo 0 ss).map .int), .tuple ((keysGo 0 ss).map .int)]) := by
      refine (Sm.lst (k := 3) (w := 30100) (m := 2) (fun d hd => ?_) (Nat.le_refl _)).mono (by decide) (by decide)
      rcases List.mem_cons.mp hd with hd | hd
      · rw [hd]; exact smD
      · rw [List.mem_singleton.mp hd]; exact smD
    refine ne_repr ⟨vt, rfl, .ref st, rfl, st, ss, rfl, hst18, by omega, fun Hx t2 sx nt2 ht2 => ⟨by show 2 ≤ sizeLine; decide, fun c nc => ?_⟩⟩
    have sc := same_new (o := .lst [vt, .ref t2]) nc
    refine repr_sm (.lst upd_same (.cons (ht18.up (sx.trans sc)) (.cons (.tup (sc _ _ ht2) (DqA.ints _)) .nil))) sm2 (by decide) (by decide) ?_
    have s19 := (s18.trans sx).trans sc
    have hdue19 := hdue18.up (sx.trans sc)
    generalize upd Hx c (.lst [vt, .ref t2]) = H19 at s19 hdue19
    refine ⟨vdue, rfl, vdue, rfl, by show 2 ≤ sizeLine; decide, fun c2 nc2 => ?_⟩
    have sc2 := same_new (o := .lst [vdue, vdue]) nc2
    refine repr_sm (.lst upd_same (.cons (hdue19.up sc2) (.cons (hdue19.up sc2) .nil))) sm2 (by decide) (by decide) ?_
    have s20 := ((s16.trans s17).trans s19).trans sc2
    generalize upd H19 c2 (.lst [vdue, vdue]) = H20 at s20
    refine ⟨rfl, _, rfl, iteNS rfl ?_⟩
    refine ne_repr1 ⟨.ref la, rfl, .ref sa, rfl, by show 2 ≤ sizeLine; decide, fun c3 nc3 => ?_⟩
    have sc3 := same_new (o := .lst [.ref la, .ref sa]) nc3
    refine repr_sm (both ((s14.trans s20).trans sc3) upd_same) smK (by decide) (by decide) ?_
    rw [hshown]
    refine ⟨.str shownK, rfl, rfl, _, rfl, iteNS rfl ?_⟩
    exact ⟨_, _, _, _, _, _, _, _, _, _, _, _, _, _, _, rfl, D14.up (s20.trans sc3)⟩
end
end Kr

namespace Kr
open PySem PySem.Spec PyProof.Rows L2
/-! ### what the head has written -/
theorem df_mk {K : PySem.W.Frag} {h : Heap} {mg : Str → Option Value} {x : Str} {st : Stmt} {f : Addr} {ps : List Str} {oc : Value} {od an : Option Addr} {osl : Array (Option Value)} {kV doc pm cdv ct : Value} (X : K.In h) (G : h.Ns mainGlobals mg)
    (a : PySem.W.nsIn K mainGlobals x = some (some (.ref f))) (l : K.lookup f = some ⟨oc, od, .func (PySem.W.fnOf x x (defArgs st) (defBody st) (defScope st) .none kV doc pm an cdv ct), osl⟩) (c : PySem.W.codeIn K cdv x = true) (k : PySem.W.keepIn K (.ref f) = true)
    (hb : ∀ (kV doc pm : Value) (an : Option Addr) (cdv ct : Value) (us : List Value), us.length = ps.length → bindArgs (PySem.W.fnOf x x (defArgs st) (defBody st) (defScope st) .none kV doc pm an cdv ct) ⟨us, []⟩ = pure (ps.zip us)) : Df K mg x st ps :=
  ⟨_, _, fun_mk l c k, (fun_mk l c k).binds hb, PySem.W.mg_of X G a⟩

theorem all_mk {l : PySem.W.OpenLaw} {w : World} {K : PySem.W.Frag} {h : Heap} {mg : Str → Option Value} {fa : Addr} (X : K.In h) (G : h.Ns mainGlobals mg) (hfa : mg "law" = some (.ref fa))
    {f1 : Addr} {oc1 kV1 dc1 pm1 cd1 ct1 : Value} {od1 an1 : Option Addr} {sl1 : Array (Option Value)}
    {f2 : Addr} {oc2 kV2 dc2 pm2 cd2 ct2 : Value} {od2 an2 : Option Addr} {sl2 : Array (Option Value)}
    {f3 : Addr} {oc3 kV3 dc3 pm3 cd3 ct3 : Value} {od3 an3 : Option Addr} {sl3 : Array (Option Value)}
    {f4 : Addr} {oc4 kV4 dc4 pm4 cd4 ct4 : Value} {od4 an4 : Option Addr} {sl4 : Array (Option Value)}
    {f5 : Addr} {oc5 kV5 dc5 pm5 cd5 ct5 : Value} {od5 an5 : Option Addr} {sl5 : Array (Option Value)}
    {f6 : Addr} {oc6 kV6 dc6 pm6 cd6 ct6 : Value} {od6 an6 : Option Addr} {sl6 : Array (Option Value)}
    {f7 : Addr} {oc7 kV7 dc7 pm7 cd7 ct7 : Value} {od7 an7 : Option Addr} {sl7 : Array (Option Value)}
    {f8 : Addr} {oc8 kV8 dc8 pm8 cd8 ct8 : Value} {od8 an8 : Option Addr} {sl8 : Array (Option Value)}
    {f9 : Addr} {oc9 kV9 dc9 pm9 cd9 ct9 : Value} {od9 an9 : Option Addr} {sl9 : Array (Option Value)}
    {f10 : Addr} {oc10 kV10 dc10 pm10 cd10 ct10 : Value} {od10 an10 : Option Addr} {sl10 : Array (Option Value)}
    {f11 : Addr} {oc11 kV11 dc11 pm11 cd11 ct11 : Value} {od11 an11 : Option Addr} {sl11 : Array (Option Value)}
    {f12 : Addr} {oc12 kV12 dc12 pm12 cd12 ct12 : Value} {od12 an12 : Option Addr} {sl12 : Array (Option Value)}
    {f13 : Addr} {oc13 kV13 dc13 pm13 cd13 ct13 : Value} {od13 an13 : Option Addr} {sl13 : Array (Option Value)}
    {f14 : Addr} {oc14 kV14 dc14 pm14 cd14 ct14 : Value} {od14 an14 : Option Addr} {sl14 : Array (Option Value)}
    {f15 : Addr} {oc15 kV15 dc15 pm15 cd15 ct15 : Value} {od15 an15 : Option Addr} {sl15 : Array (Option Value)}
    {t : Tok}
    (a1 : PySem.W.nsIn K mainGlobals "is_between" = some (some (.ref f1))) (l1 : K.lookup f1 = some ⟨oc1, od1, .func (PySem.W.fnOf "is_between" "is_between" (defArgs sBetween) (defBody sBetween) (defScope sBetween) .none kV1 dc1 pm1 an1 cd1 ct1), sl1⟩) (c1 : PySem.W.codeIn K cd1 "is_between" = true) (k1 : PySem.W.keepIn K (.ref f1) = true)
    (a2 : PySem.W.nsIn K mainGlobals "is_tuple_of" = some (some (.ref f2))) (l2 : K.lookup f2 = some ⟨oc2, od2, .func (PySem.W.fnOf "is_tuple_of" "is_tuple_of" (defArgs sTupleOf) (defBody sTupleOf) (defScope sTupleOf) .none kV2 dc2 pm2 an2 cd2 ct2), sl2⟩) (c2 : PySem.W.codeIn K cd2 "is_tuple_of" = true) (k2 : PySem.W.keepIn K (.ref f2) = true)
    (a3 : PySem.W.nsIn K mainGlobals "standing_error" = some (some (.ref f3))) (l3 : K.lookup f3 = some ⟨oc3, od3, .func (PySem.W.fnOf "standing_error" "standing_error" (defArgs sStandErr) (defBody sStandErr) (defScope sStandErr) .none kV3 dc3 pm3 an3 cd3 ct3), sl3⟩) (c3 : PySem.W.codeIn K cd3 "standing_error" = true) (k3 : PySem.W.keepIn K (.ref f3) = true)
    (a4 : PySem.W.nsIn K mainGlobals "keys_of" = some (some (.ref f4))) (l4 : K.lookup f4 = some ⟨oc4, od4, .func (PySem.W.fnOf "keys_of" "keys_of" (defArgs sKeys) (defBody sKeys) (defScope sKeys) .none kV4 dc4 pm4 an4 cd4 ct4), sl4⟩) (c4 : PySem.W.codeIn K cd4 "keys_of" = true) (k4 : PySem.W.keepIn K (.ref f4) = true)
    (a5 : PySem.W.nsIn K mainGlobals "lot_error" = some (some (.ref f5))) (l5 : K.lookup f5 = some ⟨oc5, od5, .func (PySem.W.fnOf "lot_error" "lot_error" (defArgs sLotErr) (defBody sLotErr) (defScope sLotErr) .none kV5 dc5 pm5 an5 cd5 ct5), sl5⟩) (c5 : PySem.W.codeIn K cd5 "lot_error" = true) (k5 : PySem.W.keepIn K (.ref f5) = true)
    (a6 : PySem.W.nsIn K mainGlobals "_law_deck" = some (some (.ref f6))) (l6 : K.lookup f6 = some ⟨oc6, od6, .func (PySem.W.fnOf "_law_deck" "_law_deck" (defArgs sDeck) (defBody sDeck) (defScope sDeck) .none kV6 dc6 pm6 an6 cd6 ct6), sl6⟩) (c6 : PySem.W.codeIn K cd6 "_law_deck" = true) (k6 : PySem.W.keepIn K (.ref f6) = true)
    (a7 : PySem.W.nsIn K mainGlobals "_law_draw" = some (some (.ref f7))) (l7 : K.lookup f7 = some ⟨oc7, od7, .func (PySem.W.fnOf "_law_draw" "_law_draw" (defArgs sDraw) (defBody sDraw) (defScope sDraw) .none kV7 dc7 pm7 an7 cd7 ct7), sl7⟩) (c7 : PySem.W.codeIn K cd7 "_law_draw" = true) (k7 : PySem.W.keepIn K (.ref f7) = true)
    (a8 : PySem.W.nsIn K mainGlobals "_law_pick" = some (some (.ref f8))) (l8 : K.lookup f8 = some ⟨oc8, od8, .func (PySem.W.fnOf "_law_pick" "_law_pick" (defArgs sPick) (defBody sPick) (defScope sPick) .none kV8 dc8 pm8 an8 cd8 ct8), sl8⟩) (c8 : PySem.W.codeIn K cd8 "_law_pick" = true) (k8 : PySem.W.keepIn K (.ref f8) = true)
    (a9 : PySem.W.nsIn K mainGlobals "_law_standing" = some (some (.ref f9))) (l9 : K.lookup f9 = some ⟨oc9, od9, .func (PySem.W.fnOf "_law_standing" "_law_standing" (defArgs sStanding) (defBody sStanding) (defScope sStanding) .none kV9 dc9 pm9 an9 cd9 ct9), sl9⟩) (c9 : PySem.W.codeIn K cd9 "_law_standing" = true) (k9 : PySem.W.keepIn K (.ref f9) = true)
    (a10 : PySem.W.nsIn K mainGlobals "_law_is_whole" = some (some (.ref f10))) (l10 : K.lookup f10 = some ⟨oc10, od10, .func (PySem.W.fnOf "_law_is_whole" "_law_is_whole" (defArgs sWhole) (defBody sWhole) (defScope sWhole) .none kV10 dc10 pm10 an10 cd10 ct10), sl10⟩) (c10 : PySem.W.codeIn K cd10 "_law_is_whole" = true) (k10 : PySem.W.keepIn K (.ref f10) = true)
    (a11 : PySem.W.nsIn K mainGlobals "_law_lot_due" = some (some (.ref f11))) (l11 : K.lookup f11 = some ⟨oc11, od11, .func (PySem.W.fnOf "_law_lot_due" "_law_lot_due" (defArgs sLotDue) (defBody sLotDue) (defScope sLotDue) .none kV11 dc11 pm11 an11 cd11 ct11), sl11⟩) (c11 : PySem.W.codeIn K cd11 "_law_lot_due" = true) (k11 : PySem.W.keepIn K (.ref f11) = true)
    (a12 : PySem.W.nsIn K mainGlobals "_law_standing_due" = some (some (.ref f12))) (l12 : K.lookup f12 = some ⟨oc12, od12, .func (PySem.W.fnOf "_law_standing_due" "_law_standing_due" (defArgs sStandDue) (defBody sStandDue) (defScope sStandDue) .none kV12 dc12 pm12 an12 cd12 ct12), sl12⟩) (c12 : PySem.W.codeIn K cd12 "_law_standing_due" = true) (k12 : PySem.W.keepIn K (.ref f12) = true)
    (a13 : PySem.W.nsIn K mainGlobals "_law_odd" = some (some (.ref f13))) (l13 : K.lookup f13 = some ⟨oc13, od13, .func (PySem.W.fnOf "_law_odd" "_law_odd" (defArgs sOdd) (defBody sOdd) (defScope sOdd) .none kV13 dc13 pm13 an13 cd13 ct13), sl13⟩) (c13 : PySem.W.codeIn K cd13 "_law_odd" = true) (k13 : PySem.W.keepIn K (.ref f13) = true)
    (a14 : PySem.W.nsIn K mainGlobals "_law_spoilt" = some (some (.ref f14))) (l14 : K.lookup f14 = some ⟨oc14, od14, .func (PySem.W.fnOf "_law_spoilt" "_law_spoilt" (defArgs sSpoilt) (defBody sSpoilt) (defScope sSpoilt) .none kV14 dc14 pm14 an14 cd14 ct14), sl14⟩) (c14 : PySem.W.codeIn K cd14 "_law_spoilt" = true) (k14 : PySem.W.keepIn K (.ref f14) = true)
    (a15 : PySem.W.nsIn K mainGlobals "law" = some (some (.ref f15))) (l15 : K.lookup f15 = some ⟨oc15, od15, .func (PySem.W.fnOf "law" "law" (defArgs sLaw) (defBody sLaw) (defScope sLaw) .none kV15 dc15 pm15 an15 cd15 ct15), sl15⟩) (c15 : PySem.W.codeIn K cd15 "law" = true) (k15 : PySem.W.keepIn K (.ref f15) = true)
    (z1 : PySem.W.nsIn K mainGlobals "len" = some none)
    (z2 : PySem.W.nsIn K mainGlobals "abs" = some none)
    (z3 : PySem.W.nsIn K mainGlobals "int" = some none)
    (z4 : PySem.W.nsIn K mainGlobals "bool" = some none)
    (z5 : PySem.W.nsIn K mainGlobals "tuple" = some none)
    (z6 : PySem.W.nsIn K mainGlobals "list" = some none)
    (z7 : PySem.W.nsIn K mainGlobals "range" = some none)
    (z8 : PySem.W.nsIn K mainGlobals "enumerate" = some none)
    (z9 : PySem.W.nsIn K mainGlobals "isinstance" = some none)
    (z10 : PySem.W.nsIn K mainGlobals "repr" = some none)
    (m : PySem.W.nsIn K mainGlobals "MAX_RIDER" = some (some (.int 99 t))) :
    ∃ fd : FuncData, (∀ (s : Shared) (u : Value), BindsTo s fd ⟨[u], []⟩ [("script", u)]) ∧ ∀ base : Heap, K.In base → base.Ns mainGlobals mg → FnG l.prog w K mg base CX0 4 fa fd ["script"] (spLaw K) := by
  have e := hfa.symm.trans (PySem.W.mg_of X G a15)
  cases e
  have D1 : Df K mg "is_between" sBetween ["value", "least", "most"] := df_mk X G a1 l1 c1 k1 fun _ _ _ _ _ _ us hl => match us, hl with | [_, _, _], _ => rfl
  have D2 : Df K mg "is_tuple_of" sTupleOf ["value", "size"] := df_mk X G a2 l2 c2 k2 fun _ _ _ _ _ _ us hl => match us, hl with | [_, _], _ => rfl
  have F3 := fun_mk (st := sStandErr) l3 c3 k3
  have b3 := F3.binds (ps := ["n", "value"]) fun _ _ _ _ _ _ us hl => match us, hl with | [_, _], _ => rfl
  have g3 := PySem.W.mg_of X G a3
  have n3 := kbn_of (ps := ["n", "value"]) (ks := ["value", "n"]) F3 (fun zs => zs.reverse) vals_swap fun _ _ _ _ _ _ ws hl => match ws, hl with | [_, _], _ => rfl
  have F4 := fun_mk (st := sKeys) l4 c4 k4
  have b4 := F4.binds (ps := ["standing"]) fun _ _ _ _ _ _ us hl => match us, hl with | [_], _ => rfl
  have g4 := PySem.W.mg_of X G a4
  have n4 := kbn_of (ps := ["standing"]) (ks := ["standing"]) F4 (fun zs => zs) (fun r => r) fun _ _ _ _ _ _ ws hl => match ws, hl with | [_], _ => rfl
  have F5 := fun_mk (st := sLotErr) l5 c5 k5
  have b5 := F5.binds (ps := ["n", "value"]) fun _ _ _ _ _ _ us hl => match us, hl with | [_, _], _ => rfl
  have g5 := PySem.W.mg_of X G a5
  have n5 := kbn_of (ps := ["n", "value"]) (ks := ["value", "n"]) F5 (fun zs => zs.reverse) vals_swap fun _ _ _ _ _ _ ws hl => match ws, hl with | [_, _], _ => rfl
  have D6 : Df K mg "_law_deck" sDeck ["script"] := df_mk X G a6 l6 c6 k6 fun _ _ _ _ _ _ us hl => match us, hl with | [_], _ => rfl
  have D7 : Df K mg "_law_draw" sDraw ["deck", "many"] := df_mk X G a7 l7 c7 k7 fun _ _ _ _ _ _ us hl => match us, hl with | [_, _], _ => rfl
  have D8 : Df K mg "_law_pick" sPick ["deck", "items"] := df_mk X G a8 l8 c8 k8 fun _ _ _ _ _ _ us hl => match us, hl with | [_, _], _ => rfl
  have D9 : Df K mg "_law_standing" sStanding ["deck", "many"] := df_mk X G a9 l9 c9 k9 fun _ _ _ _ _ _ us hl => match us, hl with | [_, _], _ => rfl
  have D10 : Df K mg "_law_is_whole" sWhole ["value", "low", "high"] := df_mk X G a10 l10 c10 k10 fun _ _ _ _ _ _ us hl => match us, hl with | [_, _, _], _ => rfl
  have D11 : Df K mg "_law_lot_due" sLotDue ["many", "value"] := df_mk X G a11 l11 c11 k11 fun _ _ _ _ _ _ us hl => match us, hl with | [_, _], _ => rfl
  have D12 : Df K mg "_law_standing_due" sStandDue ["many", "value"] := df_mk X G a12 l12 c12 k12 fun _ _ _ _ _ _ us hl => match us, hl with | [_, _], _ => rfl
  have D13 : Df K mg "_law_odd" sOdd ["deck", "many"] := df_mk X G a13 l13 c13 k13 fun _ _ _ _ _ _ us hl => match us, hl with | [_, _], _ => rfl
  have D14 : Df K mg "_law_spoilt" sSpoilt ["deck", "row", "items"] := df_mk X G a14 l14 c14 k14 fun _ _ _ _ _ _ us hl => match us, hl with | [_, _, _], _ => rfl
  have B : Bi mg := ⟨PySem.W.mg_none_of X G z1, PySem.W.mg_none_of X G z2, PySem.W.mg_none_of X G z3, PySem.W.mg_none_of X G z4, PySem.W.mg_none_of X G z5, PySem.W.mg_none_of X G z6, PySem.W.mg_none_of X G z7, PySem.W.mg_none_of X G z8, PySem.W.mg_none_of X G z9, PySem.W.mg_none_of X G z10⟩
  have hM : ∃ t, mg "MAX_RIDER" = some (.int 99 t) := ⟨_, PySem.W.mg_of X G m⟩
  refine ⟨PySem.W.fnOf "law" "law" (defArgs sLaw) (defBody sLaw) (defScope sLaw) .none kV15 dc15 pm15 an15 cd15 ct15, fun s v => .of_eq rfl, fun base _ _ => ?_⟩
  have ob := o_between (P := l.prog) (w := w) (base := base) D1 B
  have ot := o_tupleOf (P := l.prog) (w := w) (base := base) D2 B
  have ow := o_whole (P := l.prog) (w := w) (base := base) D10 B
  have od := o_draw (P := l.prog) (w := w) (base := base) D7 B
  have ok := o_deck (P := l.prog) (w := w) (base := base) D6 B
  have op := o_pick D8 B od
  exact ok_law (fun_mk (st := sLaw) l15 c15 k15) B ⟨ok, od, o_standing D9 B od op, o_odd D13 B op, o_spoilt D14 B od op, o_lotDue D11 B ow, o_standDue D12 B ow,
    ⟨_, _, f_lotErr F5 B ob, F5.kp, g5, b5, n5⟩,
    ⟨_, _, f_standErr F3 B hM ot ob, F3.kp, g3, b3, n3⟩,
    ⟨_, _, f_keys F4 B, F4.kp, g4, b4, n4⟩⟩
end Kr

open PySem PySem.W PyProof.Rows
set_option maxHeartbeats 0 in
theorem PySem.Challenge.cw_keyriders_k01_what_are_lots_and_standing_holds : PySem.Challenge.rw_keyriders_k01_what_are_lots_and_standing.Holds := by
  w_on; o_law; k_head; (case hw => w_witness2)
  k_fill
  refine Kr.walkG (l := PySem.Challenge.rw_keyriders_k01_what_are_lots_and_standing) (n := 63) (k := 4) (x := "script") (sp := Kr.spLaw) rfl (by decide) rfl ⟨rfl, by decide, by decide⟩ (fun w h Y => PySem.W.kIn_of Y) ?F (fun _ _ a ns hl _ hS => ⟨a, ns, rfl, hS, hl, fun _ => rfl⟩)
  case F =>
    intro w mg fa h KX G hmg
    refine' Kr.all_mk KX G hmg ?a1 ?l1 ?c1 ?k1 ?a2 ?l2 ?c2 ?k2 ?a3 ?l3 ?c3 ?k3 ?a4 ?l4 ?c4 ?k4 ?a5 ?l5 ?c5 ?k5 ?a6 ?l6 ?c6 ?k6 ?a7 ?l7 ?c7 ?k7 ?a8 ?l8 ?c8 ?k8 ?a9 ?l9 ?c9 ?k9 ?a10 ?l10 ?c10 ?k10 ?a11 ?l11 ?c11 ?k11 ?a12 ?l12 ?c12 ?k12 ?a13 ?l13 ?c13 ?k13 ?a14 ?l14 ?c14 ?k14 ?a15 ?l15 ?c15 ?k15 ?z1 ?z2 ?z3 ?z4 ?z5 ?z6 ?z7 ?z8 ?z9 ?z10 ?m
    (case a1 => k_is); (case l1 => k_is); (case c1 => k_is); (case k1 => k_is); (case a2 => k_is); (case l2 => k_is); (case c2 => k_is); (case k2 => k_is); (case a3 => k_is); (case l3 => k_is); (case c3 => k_is); (case k3 => k_is); (case a4 => k_is); (case l4 => k_is); (case c4 => k_is); (case k4 => k_is); (case a5 => k_is); (case l5 => k_is); (case c5 => k_is); (case k5 => k_is); (case a6 => k_is); (case l6 => k_is); (case c6 => k_is); (case k6 => k_is); (case a7 => k_is); (case l7 => k_is); (case c7 => k_is); (case k7 => k_is); (case a8 => k_is); (case l8 => k_is); (case c8 => k_is); (case k8 => k_is); (case a9 => k_is); (case l9 => k_is); (case c9 => k_is); (case k9 => k_is); (case a10 => k_is); (case l10 => k_is); (case c10 => k_is); (case k10 => k_is); (case a11 => k_is); (case l11 => k_is); (case c11 => k_is); (case k11 => k_is); (case a12 => k_is); (case l12 => k_is); (case c12 => k_is); (case k12 => k_is); (case a13 => k_is); (case l13 => k_is); (case c13 => k_is); (case k13 => k_is); (case a14 => k_is); (case l14 => k_is); (case c14 => k_is); (case k14 => k_is); (case a15 => k_is); (case l15 => k_is); (case c15 => k_is); (case k15 => k_is); (case z1 => k_is); (case z2 => k_is); (case z3 => k_is); (case z4 => k_is); (case z5 => k_is); (case z6 => k_is); (case z7 => k_is); (case z8 => k_is); (case z9 => k_is); (case z10 => k_is); (case m => k_is)
