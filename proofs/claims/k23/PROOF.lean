import PyProof.Rows.All
import Wide.All
import OpenK.AllK
import Wide.FinOn
import KE.GoesEnum
import HandS.ForMost
import HandS.Walk
import KE.KRevSl
import PyProof.ReprReads
import PyProof.ReprRoads
import HandS.IsInst
import HandS.Defaults
import HandS.TupAny
import HandS.TupMul
import HandS.Conv
import HandS.Zip
import HandS.SortInts
import HandS.WordsExc
import HandS.ExcOwn
import HandS.ExcIs
import HandS.ExcInit
import KE.KMathGC
import PyProof.ReprLen
import KE.KMinKey
import HandS.SortKw
import PyProof.Rows.StrOr
import PyProof.FString4
import HandS.Wide
import HandS.WideBits
import KE.KMathG
import HandS.NoneIn
import PyProof.EqKinds
import PyProof.Rows.Digits
import PySem.Challenge.RW_keyriders_k23_whole_how_many_tables
set_option Elab.async false
set_option linter.all false
set_option maxRecDepth 100000
set_option maxHeartbeats 4000000
namespace Kr
open PySem PySem.Spec PyProof.Rows L2
open AutoSeq1 (wpAny_loadPart')

theorem enum_new_tup (l : Addr) (items : Array Value) :
    Meets (Builtin.«enumerate.__new__» ⟨[.type "enumerate", .ref l], []⟩) (fun _ R s => s.heap.IsTuple l items ∧
      R (.ok (.ret (.ref (s.heap.push { cls := .type "tuple_iterator", data := .fields #[.ref l, .int 0 0] }).objs.size)))
        { s with heap := (s.heap.push { cls := .type "tuple_iterator", data := .fields #[.ref l, .int 0 0] }).push { cls := .type "enumerate", data := .fields #[.none, .bool false, .ref s.heap.objs.size, rawInt 0, .none, .none] } }) :=
  .of_wp fun prog w A R s h => by
    obtain ⟨hp, g, d, tk, os⟩ := s
    obtain ⟨hL, h⟩ := h
    have hsub := sub_enumerate
    wp_walk using wpAny_pyIter_tuple hL
    refine wpAny_stack_any fun st => wpAny_pure ?_
    split
    · rename_i c _ _ _ _ _
      cases (c == Value.type "enumerate")
      all_goals
        wp_walk using wpAny_pyIter_tuple hL
        exact ⟨_, rfl, h⟩
    · wp_walk using wpAny_pyIter_tuple hL
      exact ⟨_, rfl, h⟩

section
variable {prog : Program} {w : World} {A : Around} {E : Value → Shared → Prop} {s : Shared}
theorem enum_call_tup {l : Addr} {items : Array Value} {Q : Value → Shared → Prop} (hL : s.heap.IsTuple l items)
    (h : ∀ h', IsEnum h' (s.heap.objs.size + 1) s.heap.objs.size 0 .none → h'.IsTupleIter s.heap.objs.size l 0 → h'.objs.size = s.heap.objs.size + 2 →
      (∀ b o, s.heap.get? b = some o → h'.get? b = some o) → Q (.ref (s.heap.objs.size + 1)) { s with heap := h' }) :
    wpAny (model prog w) A (call (.type "enumerate") [.ref l]) Q E s := by
  refine callType_new F.called_enumerate (by decide) (F.typeCall_enumerate_1 _) (F.newCall_enumerate_1 _) (fun obj => F.args_object_init_2 obj _) F.entry_enumerate_new
    (enum_new_tup l items) ⟨hL, ?_⟩
  generalize hh1 : s.heap.push { cls := .type "tuple_iterator", data := .fields #[.ref l, .int 0 0] } = h1
  have hz : h1.objs.size = s.heap.objs.size + 1 := by rw [← hh1]; exact Heap.size_push ..
  have g1 : h1.get? s.heap.objs.size = some { cls := .type "tuple_iterator", data := .fields #[.ref l, .int 0 0] } := by rw [← hh1]; exact Heap.get?_push_size _ rfl
  have k1 : ∀ b o, s.heap.get? b = some o → h1.get? b = some o := fun b o e => by rw [← hh1]; exact Heap.get?_push_of_some _ e
  have he : IsEnum (h1.push { cls := .type "enumerate", data := .fields #[.none, .bool false, .ref s.heap.objs.size, rawInt 0, .none, .none] }) (s.heap.objs.size + 1) s.heap.objs.size 0 .none := by
    have q := Heap.get?_push_size h1 (o := { cls := .type "enumerate", data := .fields #[.none, .bool false, .ref s.heap.objs.size, rawInt 0, .none, .none] }) rfl
    rw [hz] at q
    exact q
  show _ ∧ _
  rw [hz]
  exact ⟨⟨_, he, rfl⟩, h _ he ⟨_, Heap.get?_push_of_some _ g1, rfl, rfl⟩ (by rw [Heap.size_push, hz]) fun b o x => Heap.get?_push_of_some _ (k1 b o x)⟩
end

/-- the tuple at a, each item in a new pair -/
def Itet (K : PySem.W.Frag) (a : Addr) : It :=
  ⟨fun i H => ∃ (xs : List V) (x : V), SqT K H a xs ∧ xs[i]? = some x,
    fun i H v H' => ∃ T x, v = .ref T ∧ H T = none ∧ H' = upd H T (.tup [.int (i : Nat), x]) ∧ ∀ xs, SqT K H a xs → xs[i]? = some x,
    fun i H => ∃ xs : List V, SqT K H a xs ∧ xs.length = i⟩
theorem tup_ne {h : Heap} {a it : Addr} {items : Array Value} {o : Obj} (p : IsTup h a items) (ho : h.get? it = some o) (hc : o.cls ≠ .type "tuple") : a ≠ it := fun z => by
  obtain ⟨u, hu, hcu, _⟩ := p
  rw [z, ho] at hu
  cases hu
  exact hc hcu
theorem turn_enumT {P : Program} {w : World} {K : PySem.W.Frag} {elts : List Expr} {kk : Nat} {tpos : Pos} (a e it : Addr) :
    Turn P w K (.Tuple elts kk tpos) (Itet K a) [e, it] e (fun i h => (∃ old, IsEnum h e it ((i : Nat) : Int) old) ∧ h.IsTupleIter it a i ∧ e ≠ it) where
  mem := by simp
  obj := fun i h st b hb => by
    obtain ⟨⟨old, he⟩, ⟨o, ho, hc, hd⟩, _⟩ := st
    rcases (show b = e ∨ b = it by simpa using hb) with z | z
    · rw [z]; exact ⟨_, he, fun v q => nomatch q⟩
    · rw [z]; exact ⟨o, ho, fun v q => by rw [hd] at q; cases q⟩
  keep := fun i h h' st k => let ⟨⟨old, he⟩, hi, hne⟩ := st; ⟨⟨old, k e (by simp) _ he⟩, hi.at fun o q => k it (by simp) o q, hne⟩
  item := by
    intro X hP hw hK hc i pins s σ H E I hf st hg
    subst hP hw hK
    obtain ⟨⟨old, he⟩, hit, hne⟩ := st
    obtain ⟨xs, x, hq, hx⟩ := hg
    obtain ⟨its, rv, p, hz⟩ := I.tuple hq
    obtain ⟨u, hu, ru⟩ := rv.get hx
    have hel : e < s.heap.objs.size := Heap.lt_size he
    have hil : it < s.heap.objs.size := by obtain ⟨_, q, _⟩ := hit; exact Heap.lt_size q
    have nai : a ≠ it := by
      obtain ⟨o, ho, hcl, _⟩ := id hit
      exact tup_ne p ho (by rw [hcl]; decide)
    have hlt : i < its.toArray.size := by
      rw [List.size_toArray]
      exact (List.getElem?_eq_some_iff.mp hu).1
    have nea : e ≠ a := fun z => tup_ne p he (by show Value.type "enumerate" ≠ Value.type "tuple"; decide) z.symm
    refine PySem.wpAny_pyNext_enum_itemC (Draws.tuple (A := X.A.in1) (I.ok.hd hc) it a nai its.toArray) he ⟨hit, p⟩ hlt hne (by simp [hne, nea]) fun y h' tk hy ho hst hT hsz hk => ?_
    have ey : y = u := by
      have : its.toArray[i]? = some y := hy
      rw [List.getElem?_toArray, hu] at this
      exact (Option.some.inj this).symm
    subst ey
    refine ⟨_, rfl, wpAny_letOwnedTupleGo_enum (s := { s with heap := h', toks := tk + 1 }) ho fun h'' he' sb => ?_⟩
    have hT2 : h''.get? s.heap.objs.size = some { cls := .type "tuple", data := .seq #[.int i tk, y] } := (sb.2 _ (Nat.ne_of_gt hel)).trans hT
    have new : ObjOk X.prog X.w (upd H s.heap.objs.size (.tup [.int (i : Nat), x])) h'' s.heap.objs.size (.tup [.int (i : Nat), x]) :=
      ⟨by show 2 ≤ sizeLine; decide, [.int i tk, y], .cons ⟨_, rfl⟩ (.cons ru .nil), ⟨_, hT2, rfl, _, rfl⟩⟩
    have I1 : Inv X pins σ (upd H s.heap.objs.size (.tup [.int (i : Nat), x])) { s with heap := h'', toks := tk + 1 } :=
      I.turnedNew (ch := [e, it]) (fun b ob hb q => (sb.2 b (fun z => hb (by simp [z]))).trans (hk b ob (fun z => hb (by simp [z])) (fun z => hb (by simp [z])) q)) hf (Nat.le_refl _) new
    refine ⟨.ref s.heap.objs.size, _, I1, rfl, ⟨_, x, rfl, I.hok.fresh (Nat.le_refl _), rfl, fun ys hy => by rw [I.tuple_inj hy hq]; exact hx⟩, ⟨⟨y, ?_⟩, hst.1.at fun o q => (sb.2 it (Ne.symm hne)).trans q, hne⟩, fun b hb => ?_⟩
    · rw [show ((i + 1 : Nat) : Int) = (i : Int) + 1 by omega]
      exact he'
    · have hb' : b < s.heap.objs.size := by
        rcases (show b = e ∨ b = it by simpa using hb) with z | z
        · rw [z]; exact hel
        · rw [z]; exact hil
      rw [upd_ne (Nat.ne_of_lt hb')]
      exact (hf b hb).1
  done := by
    intro X hP hw hK hc i pins s σ H E I hf st hg
    subst hP hw hK
    obtain ⟨⟨old, he⟩, hit, hne⟩ := st
    obtain ⟨xs, hq, hx⟩ := hg
    obtain ⟨its, rv, p, hz⟩ := I.tuple hq
    obtain ⟨f0, f1, f2, f3, f4, f5⟩ := hf it (by simp)
    have nai : a ≠ it := by
      obtain ⟨o, ho, hcl, _⟩ := id hit
      exact tup_ne p ho (by rw [hcl]; decide)
    have ez : its.toArray.size = i := by
      rw [List.size_toArray, ← rv.length, hx]
    refine PySem.wpAny_pyNext_enum_endD (Draws.tuple (A := X.A.in1) (I.ok.hd hc) it a nai its.toArray) he ?_ fun h' eb => ⟨rfl, I.turned (t' := s.toks) (fun b o hb q => eb b o hb q) f0 f1 f3 f4 f5⟩
    rw [ez]
    exact ⟨hit, p⟩
  self := fun A i s Q E st h => let ⟨⟨_, he⟩, _⟩ := st; wpAny_pyIter_enum he h
def iEnumT (K : PySem.W.Frag) (ta : TA) : TI := fun σ H R => ta σ H fun vs H1 => ∃ a xs, vs = [.ref a] ∧ SqT K H1 a xs ∧ R (Itet K a) H1
theorem pi_enumT {X : Cx} {e : Expr} {ta : TA} {p pos tpos : Pos} {elts : List Expr} {kk : Nat} (hg : Gl X "enumerate") (hm : X.mg "enumerate" = none) (ha : PA X [e] ta) (hs : starEach [e] X.env = [(false, eval e X.env)] := by rfl) :
    PI X (.Tuple elts kk tpos) (.Call (.Name "enumerate" p) [e] [] pos) (iEnumT X.K ta) := by
  refine ⟨fun pins s σ H R I h => Call_ (ld_blt I hg hm boot_enumerate (PyProof.Rows.callWith_type1 (thn (ha.run pos pins s σ H _ I h) fun us s1 ⟨vs, H1, I1, r1, q1⟩ => ?_) hs rfl))⟩
  obtain ⟨a, xs, rfl, hq, q⟩ := q1
  obtain rfl := Vals.ref1 r1
  obtain ⟨its, rv, p', hz⟩ := I1.tuple hq
  refine enum_call_tup p' fun h' he hit hsz hk => wpAny_pyIter_enum he ?_
  have I2 : Inv X pins σ H1 { s1 with heap := h' } := I1.kept (t' := s1.toks) hk
  refine ⟨s1.heap.objs.size + 1, [s1.heap.objs.size + 1, s1.heap.objs.size], _, _, H1, rfl, I2, turn_enumT a (s1.heap.objs.size + 1) s1.heap.objs.size, ⟨⟨.none, he⟩, hit, Nat.succ_ne_self _⟩, fun b hb => ?_, q⟩
  have hle : s1.heap.objs.size ≤ b := by
    rcases (show b = s1.heap.objs.size + 1 ∨ b = s1.heap.objs.size by simpa using hb) with z | z <;> rw [z]
    · exact Nat.le_succ _
    · exact Nat.le_refl _
  exact I1.fpOk hle (I1.hok.fresh hle)

theorem walk_enumT {K : PySem.W.Frag} {a : Addr} {xs : List V} : Walk (Itet K a) xs.length (fun H => SqT K H a xs) (YPair (fun i => some (.int (i : Nat))) (fun i => xs[i]?)) := by
  refine ⟨fun i _ hi q => ⟨xs, xs[i], q, List.getElem?_eq_getElem hi⟩, fun _ q => ⟨xs, q, rfl⟩, fun i H v H' _ q y => ?_⟩
  obtain ⟨T, x, e1, e2, e3, e4⟩ := y
  exact ⟨T, _, x, e1, e2, e3, rfl, e4 xs q⟩
end Kr
namespace Kr
open PySem PySem.Spec PyProof.Rows L2 HT
theorem adj_rev (n : Nat) : Builtin.Slice.sliceAdjust none none (-1) (n : Int) = ((n : Int) - 1, -1) := by
  unfold Builtin.Slice.sliceAdjust
  simp
theorem pla_rev (n : Nat) : Builtin.Slice.slicePlaces ((n : Int) - 1) (-1) (-1) = n := by
  unfold Builtin.Slice.slicePlaces
  simp
  omega
theorem pick_rev (xs : Array Value) : ((List.range xs.size).filterMap fun (m : Nat) => xs[(((xs.size : Nat) : Int) - 1 + (m : Int) * (-1)).toNat]?).toArray = xs.toList.reverse.toArray := by
  have e : (fun (m : Nat) => xs[(((xs.size : Nat) : Int) - 1 + (m : Int) * (-1)).toNat]?) = (fun k => xs[k]?) ∘ fun (m : Nat) => xs.size - 1 - m := by
    funext m
    show _ = xs[xs.size - 1 - m]?
    rw [show (((xs.size : Nat) : Int) - 1 + (m : Int) * (-1)).toNat = xs.size - 1 - m by omega]
  rw [e, ← List.filterMap_map, PySem.W.krv_range, List.filterMap_reverse, PySem.W.krv_all]
section
variable {prog : Program} {w : World} {A : Around} {E : Value → Shared → Prop} {s : Shared}
theorem applied_rev {sl : Addr} {vk : Value} {n : Nat} {Q : Int × Int × Nat → Shared → Prop} (hs : s.heap.IsSliceOf sl .none .none vk) (pk : IsPart vk (some (-1)))
    (h : Q ((n : Int) - 1, -1, n) s) : wpAny (model prog w) A (Builtin.Slice.sliceApplied (.ref sl) (pure (n : Int))) Q E s := by
  obtain ⟨os, hos, hcs, hds⟩ := id hs
  unfold Builtin.Slice.sliceApplied Builtin.Slice.sliceFields
  refine wpAny_bind (wpAny_bind (wpAny_field hos hds (x := .none) rfl (wpAny_bind (wpAny_field hos hds (x := .none) rfl (wpAny_bind (wpAny_field hos hds (x := vk) rfl (wpAny_pure ?_)))))))
  refine wpAny_bind (slicePart_ pk ?_)
  show wpAny _ _ (if ((-1 : Int) == 0) = true then _ else _) _ _ s
  rw [if_neg (by decide)]
  refine wpAny_bind (slicePart_none (wpAny_bind (slicePart_none (wpAny_bind (wpAny_pure ?_)))))
  show wpAny _ _ (match Builtin.Slice.sliceAdjust none none (-1) (n : Int) with | (lo, hi) => pure (lo, (-1 : Int), Builtin.Slice.slicePlaces lo hi (-1))) _ _ s
  rw [adj_rev n]
  show wpAny _ _ (pure ((n : Int) - 1, (-1 : Int), Builtin.Slice.slicePlaces ((n : Int) - 1) (-1) (-1))) _ _ s
  rw [pla_rev]
  exact wpAny_pure h
theorem tuple_rev {t sl : Addr} {items : Array Value} {vk : Value} {Q : Value → Shared → Prop} (ht : IsTup s.heap t items) (hs : s.heap.IsSliceOf sl .none .none vk) (pk : IsPart vk (some (-1)))
    (h : Q (.ref s.heap.objs.size) { s with heap := s.heap.push { cls := .type "tuple", data := .seq items.toList.reverse.toArray } })
    (hsz : items.size ≤ sizeLine) : wpAny (model prog w) A (getItem (.ref t) (.ref sl)) Q E s := by
  have hok : sizeOk (.seq items.toList.reverse.toArray) := by
    show items.toList.reverse.toArray.size ≤ sizeLine
    rw [List.size_toArray, List.length_reverse, Array.length_toList]
    exact hsz
  obtain ⟨os, hos, hcs, hds⟩ := id hs
  have hTs : s.TypeIs (.ref sl) "slice" := ⟨os, hos, hcs⟩
  unfold getItem
  try with_reducible refine wpAny_holding ?_
  first | refine wpAny_bind (wpAny_pure ?_) | skip
  refine wpAny_bind (wpAny_sequenceKey ht.typeIs (by decide) ?_)
  refine wpAny_bind (wpAny_callSpecial?_slot (name := Str.ofString "__getitem__") ht.typeIs PyProof.Rows.slot_tuple_getitem
    (wpAny_call_entry PyProof.Rows.slot_tuple_getitem ht.typeIs entry_tuple_getitem ?_ (args_tuple_getitem _ _)))
  show wpAny _ _ (Builtin.Tuple.tupleItemsOf (.ref t) >>= _) _ _ s
  refine wpAny_bind (tupleItemsOf_ ht (wpAny_bind (wpAny_typeOf hTs ?_)))
  rw [if_pos (by decide)]
  refine wpAny_bind (applied_rev hs pk ?_)
  have hno : ¬ (((((items.size : Nat) : Int) - 1) == 0 && (-1 : Int) == 1 && items.size == items.size) = true) := by
    rw [show ((-1 : Int) == 1) = false by decide, Bool.and_false, Bool.false_and]
    exact Bool.false_ne_true
  show wpAny _ _ (if ((((items.size : Nat) : Int) - 1) == 0 && (-1 : Int) == 1 && items.size == items.size) = true then _ else _) _ _ s
  rw [if_neg hno, pick_rev]
  first
    | exact wpAny_bind (wpAny_bind (m := Builtin.Tuple.tupleExact _) (wpAny_newObj_type (wpAny_pure ⟨_, rfl, wpAny_pure h⟩) hok))
    | exact wpAny_bind (m := Builtin.Tuple.tupleExact _) (wpAny_newObj_type (wpAny_pure ⟨_, rfl, wpAny_pure h⟩) hok)
    | exact wpAny_bind (m := Builtin.Tuple.tupleExact _) (wpAny_newObj_type (wpAny_bind (wpAny_pure (wpAny_pure ⟨_, rfl, wpAny_pure h⟩))) hok)
    | exact wpAny_bind (wpAny_bind (m := Builtin.Tuple.tupleExact _) (wpAny_newObj_type (wpAny_pure (wpAny_pure ⟨_, rfl, wpAny_pure h⟩)) hok))
end
section
variable {X : Cx}
/-- t[::-1] of a tuple -/
def tRevT (K : PySem.W.Frag) (te : TE) : TE := fun σ H Q => te σ H fun x H1 => ∃ a xs, x = .ref a ∧ SqT K H1 a xs ∧ ∀ p, H1 p = none → Q (.ref p) (upd H1 p (.tup xs.reverse))
theorem pe_revT {e : Expr} {te : TE} {k : Nat} {p1 p2 p3 pos : Pos} (he : PE X e te) : PE X (.Subscript e (.Slice none none (some (.UnaryOp .USub (.Constant (.int 1) k p1) p2)) p3) pos) (tRevT X.K te) := by
  refine ⟨fun pins s σ H Q I h => Subscript_ (thn (he.run pins s σ H _ I h) fun v s1 ⟨x, H1, I1, r1, q1⟩ => ?_)⟩
  obtain ⟨a, xs, rfl, hx, q⟩ := q1
  cases r1
  have hst : PO X (some (.UnaryOp .USub (.Constant (.int 1) k p1) p2)) (tPart (tUn (rU fun i => .int (-i)) (tC (.int 1)))) := po_some (pe_un un_neg pe_int)
  refine wpAny_Slice (thn (po_none.run pins s1 σ H1 (fun o H2 => o = none ∧ H2 = H1) I1 ⟨rfl, rfl⟩) fun vl s2 ⟨l, H2, I2, pl, el, e2⟩ => ?_)
  subst el e2
  refine thn (po_none.run pins s2 σ H2 (fun o H3 => o = none ∧ H3 = H2) I2 ⟨rfl, rfl⟩) fun vu s3 ⟨u, H3, I3, pu, eu, e3⟩ => ?_
  subst eu e3
  refine thn (hst.run pins s3 σ H3 (fun o H4 => o = some (-1) ∧ H4 = H3) I3 ⟨1, rfl, -1, rfl, rfl, rfl⟩) fun vs s4 ⟨o, H4, I4, ps, eo, e4⟩ => ?_
  subst eo e4
  cases pl
  cases pu
  have I5 : Inv X pins σ H4 { s4 with heap := s4.heap.push { cls := .type "slice", data := .fields #[.none, .none, vs] } } := I4.kept (t' := s4.toks) fun b ob q => Heap.get?_push_of_some _ q
  obtain ⟨its, r, ht, hz⟩ := I5.tuple hx
  have hlen := r.length
  show wpAny (model X.prog X.w) X.A (subscriptTail e (.Slice none none (some (.UnaryOp .USub (.Constant (.int 1) k p1) p2)) p3) (.ref a) (.ref s4.heap.objs.size)) (EP X pins σ Q) X.xe { s4 with heap := s4.heap.push { cls := .type "slice", data := .fields #[.none, .none, vs] } }
  refine tail_any (ops := [.ref a, .ref s4.heap.objs.size]) ht.typeIs (PyProof.Rows.slot_tuple_getitem.lookup) ?_ (by with_unfolding_all rfl)
  refine tuple_rev ht (Heap.IsSliceOf.new _ .none .none vs) ps ?_ (by rw [List.size_toArray]; omega)
  refine ⟨.ref _, _, I5.laid (t' := s4.toks) (o := .tup xs.reverse) (fun b ob q => Heap.get?_push_of_some _ q) (Nat.le_refl _) ?_, rfl, q _ (I5.hok.fresh (Nat.le_refl _))⟩
  exact ⟨by rw [List.length_reverse]; exact hz, _, r.reverse, IsTup.new _ _⟩
end
end Kr
namespace Kr
open PySem PySem.Spec PyProof.Rows L2
/-! ### data over the abstract heap: None, bools, ints, texts, lists, tuples, {} -/
mutual
inductive Dq (H : Hp) : V → PyData → Prop
  | non : Dq H .non .none
  | bl (b : Bool) : Dq H (.bl b) (.bool b)
  | int (i : Int) : Dq H (.int i) (.int i)
  | str (x : Str) : Dq H (.str x) (.str x)
  | lst {a : Addr} {xs : List V} {ds : List PyData} (e : H a = some (.lst xs)) (q : DqA H xs ds) : Dq H (.ref a) (.list ds)
  | tup {a : Addr} {xs : List V} {ds : List PyData} (e : H a = some (.tup xs)) (q : DqA H xs ds) : Dq H (.ref a) (.tuple ds)
  | dic {a : Addr} (e : H a = some (.dK [])) : Dq H (.ref a) (.dict [])
inductive DqA (H : Hp) : List V → List PyData → Prop
  | nil : DqA H [] []
  | cons {v : V} {vs : List V} {d : PyData} {ds : List PyData} (h : Dq H v d) (t : DqA H vs ds) : DqA H (v :: vs) (d :: ds)
end
mutual
theorem Dq.up {H H' : Hp} (s : Same H H') : ∀ {v : V} {d : PyData}, Dq H v d → Dq H' v d
  | _, _, .non => .non
  | _, _, .bl b => .bl b
  | _, _, .int i => .int i
  | _, _, .str x => .str x
  | _, _, .lst e q => .lst (s _ _ e) (DqA.up s q)
  | _, _, .tup e q => .tup (s _ _ e) (DqA.up s q)
  | _, _, .dic e => .dic (s _ _ e)
theorem DqA.up {H H' : Hp} (s : Same H H') : ∀ {vs : List V} {ds : List PyData}, DqA H vs ds → DqA H' vs ds
  | _, _, .nil => .nil
  | _, _, .cons h t => .cons (Dq.up s h) (DqA.up s t)
end
theorem DqA.len {H : Hp} : ∀ {vs : List V} {ds : List PyData}, DqA H vs ds → vs.length = ds.length
  | _, _, .nil => rfl
  | _, _, .cons _ t => by rw [List.length_cons, List.length_cons, DqA.len t]
theorem DqA.get {H : Hp} : ∀ {vs : List V} {ds : List PyData} {i : Nat} {v : V}, DqA H vs ds → vs[i]? = some v → ∃ d, ds[i]? = some d ∧ Dq H v d
  | _, _, _, _, .nil, e => by simp at e
  | _, _, 0, _, .cons h _, e => by
    simp at e
    subst e
    exact ⟨_, rfl, h⟩
  | _, _, i + 1, _, .cons _ t, e => by
    obtain ⟨d, h1, h2⟩ := DqA.get (i := i) t (by simpa using e)
    exact ⟨d, by simpa using h1, h2⟩
theorem DqA.app {H : Hp} : ∀ {vs us : List V} {ds es : List PyData}, DqA H vs ds → DqA H us es → DqA H (vs ++ us) (ds ++ es)
  | _, _, _, _, .nil, q => q
  | _, _, _, _, .cons h t, q => .cons h (DqA.app t q)
theorem DqA.take {H : Hp} : ∀ {vs : List V} {ds : List PyData} (n : Nat), DqA H vs ds → DqA H (vs.take n) (ds.take n)
  | _, _, 0, _ => .nil
  | _, _, _ + 1, .nil => .nil
  | _, _, n + 1, .cons h t => .cons h (DqA.take n t)
theorem DqA.drop {H : Hp} : ∀ {vs : List V} {ds : List PyData} (n : Nat), DqA H vs ds → DqA H (vs.drop n) (ds.drop n)
  | _, _, 0, q => q
  | _, _, _ + 1, .nil => .nil
  | _, _, n + 1, .cons _ t => DqA.drop n t
theorem DqA.set {H : Hp} {v : V} {d : PyData} (q : Dq H v d) : ∀ {vs : List V} {ds : List PyData} (i : Nat), DqA H vs ds → DqA H (vs.set i v) (ds.set i d)
  | _, _, _, .nil => .nil
  | _, _, 0, .cons _ t => .cons q t
  | _, _, i + 1, .cons h t => .cons h (DqA.set q i t)
theorem DqA.one {H : Hp} {v : V} {d : PyData} (q : Dq H v d) : DqA H [v] [d] := .cons q .nil
theorem DqA.rev {H : Hp} : ∀ {vs : List V} {ds : List PyData}, DqA H vs ds → DqA H vs.reverse ds.reverse
  | _, _, .nil => .nil
  | _, _, .cons h t => by
    rw [List.reverse_cons, List.reverse_cons]
    exact DqA.app (DqA.rev t) (.one h)
theorem DqA.ints {H : Hp} : ∀ ns : List Int, DqA H (ns.map V.int) (ns.map PyData.int)
  | [] => .nil
  | n :: r => .cons (.int n) (DqA.ints r)
theorem DqA.rep {H : Hp} {v : V} {d : PyData} (q : Dq H v d) : ∀ n : Nat, DqA H (List.replicate n v) (List.replicate n d)
  | 0 => .nil
  | n + 1 => .cons q (DqA.rep q n)
theorem Dq.tup_inv {H : Hp} {v : V} {ds : List PyData} (q : Dq H v (.tuple ds)) : ∃ a xs, v = .ref a ∧ H a = some (.tup xs) ∧ DqA H xs ds := by
  cases q with
  | tup e h => exact ⟨_, _, rfl, e, h⟩

/-! ### how long what is shown is -/
mutual
def big : PyData → Nat
  | .none | .bool _ => 5
  | .int i => (toString i : Str).length
  | .str x => (reprText x).length
  | .list xs | .tuple xs => bigA xs + 3
  | .dict _ => 2
def bigA : List PyData → Nat
  | [] => 0
  | x :: xs => big x + 2 + bigA xs
end

section
variable {X : Cx} {pins : List (Addr × Obj)} {σ : L2.St} {H : Hp} {s : Shared}
mutual
theorem Dq.reprs (I : Inv X pins σ H s) : ∀ (d : PyData) (v : V) (u : Value), Dq H v d → RelV v u → d.showable = true → d.shown.length ≤ sizeLine →
    ∃ as, Reads s.heap u d as ∧ ∃ bs, ReadAtMost s.heap d.depth bs ∧ ReprK X.prog X.w bs s.heap d.depth u d.shown
  | .none, _, _, h, r, _, _ => by
    cases h
    cases r
    exact ⟨_, .none, [], (fun _ h => nomatch h), by simp only [PyData.shown]; exact .of_is ReprIs.none _ _ _⟩
  | .bool b, _, _, h, r, _, _ => by
    cases h
    cases r
    exact ⟨_, .bool b, [], (fun _ h => nomatch h), by simp only [PyData.shown]; exact .of_is (ReprIs.bool b) _ _ _⟩
  | .int i, _, _, h, r, hs, _ => by
    cases h
    obtain ⟨t, rfl⟩ := r
    exact ⟨_, .int i t, [], (fun _ h => nomatch h), by simp only [PyData.shown]; exact .of_is (ReprIs.int t (by simpa [PyData.showable] using hs)) _ _ _⟩
  | .str x, _, _, h, r, _, hz => by
    cases h
    obtain ⟨t, rfl⟩ := r
    exact ⟨_, .str x t, [], (fun _ h => nomatch h), by simp only [PyData.shown]; exact .of_is (ReprIs.str x t (by simpa only [PyData.shown] using hz)) _ _ _⟩
  | .list ds, _, _, h, r, hs, hz => by
    cases h with
    | @lst a xs _ e ha =>
      cases r
      have hz' : (listText (PyData.shownAll ds)).length ≤ sizeLine := by simpa only [PyData.shown] using hz
      obtain ⟨its, rv, ⟨o, n, ho, hc, _, hd⟩, _⟩ := I.list (SqL.of (K := X.K) e)
      obtain ⟨as, hr, bs, hb, hk⟩ := DqA.reprs I ds _ its ha rv (by simpa [PyData.showable] using hs) fun t ht => Nat.le_trans (listText_mem_le ht) hz'
      have rd : Reads s.heap (.ref a) (.list ds) _ := .list ho hc hd hr
      have hna : a ∉ bs := not_mem_of_deeper rd (by simp only [PyData.depth]; omega) hb
      refine ⟨_, rd, a :: bs, ReadAtMost.cons rd (by simp only [PyData.depth]; omega) hb, ?_⟩
      simp only [PyData.depth, PyData.shown]
      cases its with
      | nil =>
        cases hr
        simp only [PyData.shownAll, listText_nil]
        exact ReprK.listEmpty ho hc hd
      | cons y l => exact ReprK.list ho hc hd hna (by simpa using hk.length_eq) (fun i y e => hk.item i y (by simpa using e))
  | .tuple ds, _, _, h, r, hs, hz => by
    cases h with
    | @tup a xs _ e ha =>
      cases r
      have hz' : (tupleText (PyData.shownAll ds)).length ≤ sizeLine := by simpa only [PyData.shown] using hz
      obtain ⟨its, rv, ⟨o, ho, hc, n, hd⟩, _⟩ := I.tuple (SqT.of (K := X.K) e)
      obtain ⟨as, hr, bs, hb, hk⟩ := DqA.reprs I ds _ its ha rv (by simpa [PyData.showable] using hs) fun t ht => Nat.le_trans (tupleText_mem_le ht) hz'
      have rd : Reads s.heap (.ref a) (.tuple ds) _ := .tuple ho hc hd hr
      have hna : a ∉ bs := not_mem_of_deeper rd (by simp only [PyData.depth]; omega) hb
      refine ⟨_, rd, a :: bs, ReadAtMost.cons rd (by simp only [PyData.depth]; omega) hb, ?_⟩
      simp only [PyData.depth, PyData.shown]
      exact ReprK.tuple ho hc hd hna (by simpa using hk)
  | .dict kv, _, _, h, r, _, _ => by
    cases h with
    | @dic a e =>
      cases r
      obtain ⟨_, hsys, vs, rel, o, es, ep, ho, hx, hd, _, hp, _⟩ := I.hok a _ e
      cases rel
      have hes : es = #[] := by
        obtain ⟨l⟩ := es
        have : l = [] := by
          cases l with
          | nil => rfl
          | cons y l => exact nomatch hp
        rw [this]
      subst hes
      have rd : Reads s.heap (.ref a) (.dict []) _ := .dict ho hx.1 hd .nil .nil
      refine ⟨_, rd, [a], ReadAtMost.cons rd (Nat.zero_le _) (fun _ h => nomatch h), ?_⟩
      have := ReprK.dict (prog := X.prog) (w := X.w) (as := []) (d := 0) ho hx.1 hd hsys (fun h => nomatch h) .nil
      simpa only [PyData.depth, PyData.depthKv, PyData.shown, PyData.shownKv] using this
theorem DqA.reprs (I : Inv X pins σ H s) : ∀ (ds : List PyData) (vs : List V) (us : List Value), DqA H vs ds → Vals vs us → PyData.showableAll ds = true → (∀ t ∈ PyData.shownAll ds, t.length ≤ sizeLine) →
    ∃ as, ReadsAll s.heap us ds as ∧ ∃ bs, ReadAtMost s.heap (PyData.depthAll ds) bs ∧ ReprAllK X.prog X.w bs s.heap (PyData.depthAll ds) us (PyData.shownAll ds)
  | [], _, _, h, r, _, _ => by
    cases h
    cases r
    exact ⟨_, .nil, [], (fun _ h => nomatch h), by simp only [PyData.shownAll]; exact .nil⟩
  | d :: ds, _, _, h, r, hs, hz => by
    cases h with
    | cons h1 h2 =>
      cases r with
      | cons r1 r2 =>
        have hs' : d.showable = true ∧ PyData.showableAll ds = true := by simpa [PyData.showableAll] using hs
        obtain ⟨as, q1, b1, hb1, k1⟩ := Dq.reprs I d _ _ h1 r1 hs'.1 (hz _ (by simp only [PyData.shownAll]; exact List.mem_cons_self ..))
        obtain ⟨cs, q2, b2, hb2, k2⟩ := DqA.reprs I ds _ _ h2 r2 hs'.2 (fun t ht => hz t (by simp only [PyData.shownAll]; exact List.mem_cons_of_mem _ ht))
        refine ⟨_, .cons q1 q2, b1 ++ b2, ?_, ?_⟩
        · simp only [PyData.depthAll]
          exact (hb1.mono (Nat.le_max_left _ _)).append (hb2.mono (Nat.le_max_right _ _))
        · simp only [PyData.depthAll, PyData.shownAll]
          exact .cons ((k1.more fun b hb => List.mem_append_left _ hb).level_le (Nat.le_max_left _ _)) (k2.more_le (fun b hb => List.mem_append_right _ hb) (Nat.le_max_right _ _))
end
end

/-- repr(x) of data, where no repr is under way -/
def rRepr : List V → Hp → VK → Prop := fun xs H Q => ∃ v d, xs = [v] ∧ Dq H v d ∧ d.showable = true ∧ d.depth ≤ 40 ∧ d.shown.length ≤ sizeLine ∧ Q (.str d.shown) H
theorem call_repr {X : Cx} (hg : X.A.guards = some []) (hu : X.A.units + 64 < cLine) : CallR X (.builtin "repr") rRepr := by
  intro pins s σ H xs us Q I r h
  obtain ⟨v, d, rfl, hd, hs, hdep, hz, q⟩ := h
  obtain ⟨u, rfl, r1⟩ : ∃ u, us = [u] ∧ RelV v u := by
    cases r with
    | cons a b =>
      cases b
      exact ⟨_, rfl, a⟩
  have fin : ∀ (h' : Heap) (t : Tok) (tk : Nat), (∀ b o, s.heap.get? b = some o → h'.get? b = some o) → EP X pins σ Q (.str d.shown t) { s with heap := h', toks := tk } :=
    fun h' t tk hk => ⟨.str d.shown, H, I.kept (t' := tk) hk, ⟨t, rfl⟩, q⟩
  cases hd with
  | non =>
    simp only [PyData.shown] at fin
    cases r1
    exact PySem.P.repr_of_none (fin s.heap _ _ fun _ _ e => e)
  | bl b =>
    simp only [PyData.shown] at fin
    cases r1
    have := PySem.P.repr_of_bool (prog := X.prog) (w := X.w) (A := X.A) (E := X.xe) (b := b) (s := s) (Q := EP X pins σ Q)
    refine this ?_
    have f := fin s.heap s.toks (s.toks + 1) fun _ _ e => e
    cases b <;> exact f
  | int i =>
    simp only [PyData.shown] at fin
    obtain ⟨t, rfl⟩ := r1
    exact PySem.P.repr_of_int (by simpa [PyData.showable] using hs) (fin s.heap _ _ fun _ _ e => e)
  | str x =>
    simp only [PyData.shown] at fin hz
    obtain ⟨t, rfl⟩ := r1
    exact PySem.P.repr_of_str (fin s.heap _ _ fun _ _ e => e) hz
  | @lst a xs ds e ha =>
    obtain rfl : u = Value.ref a := r1
    simp only [PyData.depth] at hdep
    have hz' : (listText (PyData.shownAll ds)).length ≤ sizeLine := by simpa only [PyData.shown] using hz
    simp only [PyData.shown] at fin
    obtain ⟨its, rv, ⟨o, n, ho, hc, _, hd⟩, _⟩ := I.list (SqL.of (K := X.K) e)
    obtain ⟨as, hr, bs, hb, hk⟩ := DqA.reprs I ds _ its ha rv (by simpa [PyData.showable] using hs) fun t ht => Nat.le_trans (listText_mem_le ht) hz'
    have rd : Reads s.heap (.ref a) (.list ds) _ := .list ho hc hd hr
    have hna : a ∉ bs := not_mem_of_deeper rd (by simp only [PyData.depth]; omega) hb
    refine call_repr_slot (by omega) ⟨o, ho, hc⟩ F.slot_list_repr.toG ?_
    cases its with
    | nil =>
      cases hr
      have e0 : listText (PyData.shownAll []) = ("[]" : Str) := by simp only [PyData.shownAll, listText_nil]
      rw [e0] at fin
      exact call_list_repr_empty ⟨o, ho, hc⟩ ho hd ⟨_, _, rfl, fin s.heap _ _ fun _ _ e => e⟩
    | cons y l =>
      exact call_list_reprK ho hc hd hna (by simpa using hk.length_eq) (fun i y e => hk.item i y (by simpa using e)) hg (fun b _ => Clear.nil b) (by show X.A.units + 1 + _ < cLine; omega) (fun _ _ e => e) (fun h' t tk hk => ⟨_, _, rfl, fin h' t tk hk⟩) hz'
  | @tup a xs ds e ha =>
    obtain rfl : u = Value.ref a := r1
    simp only [PyData.depth] at hdep
    have hz' : (tupleText (PyData.shownAll ds)).length ≤ sizeLine := by simpa only [PyData.shown] using hz
    simp only [PyData.shown] at fin
    obtain ⟨its, rv, ⟨o, ho, hc, n, hd⟩, _⟩ := I.tuple (SqT.of (K := X.K) e)
    obtain ⟨as, hr, bs, hb, hk⟩ := DqA.reprs I ds _ its ha rv (by simpa [PyData.showable] using hs) fun t ht => Nat.le_trans (tupleText_mem_le ht) hz'
    have rd : Reads s.heap (.ref a) (.tuple ds) _ := .tuple ho hc hd hr
    have hna : a ∉ bs := not_mem_of_deeper rd (by simp only [PyData.depth]; omega) hb
    refine call_repr_slot (by omega) ⟨o, ho, hc⟩ F.slot_tuple_repr ?_
    exact call_tuple_reprK ho hc hd hna (by simpa using hk) hg (fun b _ => Clear.nil b) (by show X.A.units + 1 + _ < cLine; omega) (fun _ _ e => e) (fun h' t tk hk => ⟨_, _, rfl, fin h' t tk hk⟩) hz'
  | @dic a e =>
    obtain rfl : u = Value.ref a := r1
    obtain ⟨_, hsys, vs, rel, o, es, ep, ho, hx, hd, _, hp, _⟩ := I.hok a _ e
    cases rel
    have hes : es = #[] := by
      obtain ⟨l⟩ := es
      have : l = [] := by
        cases l with
        | nil => rfl
        | cons y l => exact nomatch hp
      rw [this]
    subst hes
    simp only [PyData.shown, PyData.shownKv] at fin hz
    refine call_repr_slot (by omega) ⟨o, ho, hx.1⟩ F.slot_dict_repr ?_
    exact call_dict_reprK (as := []) (d := 0) ho hx.1 hd hsys (fun h => nomatch h) .nil hg (fun b _ => Clear.nil b) (by show X.A.units + 1 + _ < cLine; omega) (fun _ _ e => e) (fun h' t tk hk => ⟨_, _, rfl, fin h' t tk hk⟩) hz
end Kr
namespace Kr
open PySem PySem.Spec PyProof.Rows L2
/-! ### defs that are called where no repr is under way -/
structure FnG (P : Program) (w : World) (K : PySem.W.Frag) (mg : Str → Option Value) (base : Heap) (CX : CXT) (k : Nat) (f : Addr) (fd : FuncData) (ps : List Str) (sp : Sp) : Prop where
  len : ∀ vs H Q E, sp vs H Q E → vs.length = ps.length
  run : ∀ (A : Around) (outer : List Env) (s : Shared) (H : Hp) (args : Args) (us : List Value) (vs : List V) (Q : VK) (E : XK), A.guards = some [] → Room k A → Env0 P w K mg base A outer s H → BindsTo s fd args (ps.zip us) → Vals vs us → sp vs H Q E →
    codeAny (model P w) A (.call (.ref f) args) (CR CX outer P w H s Q E) s
section
variable {P : Program} {w : World} {K : PySem.W.Frag} {mg : Str → Option Value} {base : Heap} {CX : CXT}
theorem FnG.mono {j k : Nat} {f : Addr} {fd : FuncData} {ps : List Str} {sp : Sp} (F : FnG P w K mg base CX j f fd ps sp) (h : j ≤ k) : FnG P w K mg base CX k f fd ps sp :=
  ⟨F.len, fun A outer s H args us vs Q E hg hr => F.run A outer s H args us vs Q E hg (hr.mono h)⟩
/-- by the body, as Fun.ok; the body is told that no repr is under way -/
theorem okG {x qual : Str} {st : Stmt} {f : Addr} {fd : FuncData} {N ps : List Str} {k : Nat} {sp : Sp} (F : Fun K x qual st f fd) (S : FnScope N ps (defScope st)) (len : ∀ vs H Q E, sp vs H Q E → vs.length = ps.length)
    (hbody : ∀ (cdv : Value) (A : Around) (outer : List Env) (s : Shared) (H : Hp) (vs : List V) (Q : VK) (E : XK), (A.deeper (envOfC qual (defScope st) s.heap.objs.size f cdv)).guards = some [] → Room k (A.deeper (envOfC qual (defScope st) s.heap.objs.size f cdv)) → sp vs H Q E →
      ∃ t, PSs (cxOf CX0 P w K mg base N qual (defScope st) f cdv A outer s H E).nox (defBody st) t ∧ t { nx := fun _ H' => Q .non H', rt := Q } (start N vs) H) : FnG P w K mg base CX0 (k + 1) f fd ps sp := by
  obtain ⟨oc, od, kV, doc, pm, an, cdv, ct, osl, rfl, lk, hcd⟩ := F.ex
  refine ⟨len, fun A outer s H args us vs Q E hg hr e0 hb r hsp => ?_⟩
  have KX : K.In s.heap := e0.mod.kin.keeps fun b o e => (e0.bs b o e).1
  have lim : s.heap.NoLimit := e0.mod.nolimit.keeps fun b o e => (e0.bs b o e).1
  refine codeAny_call_function hr.depth (KX _ _ lk) rfl S.co S.gen rfl (PySem.W.codeRec_of KX hcd) (hb _ _ _ _ ?_)
  have kinds : ∀ y ∈ ps.zip us, (defScope st).names.lookup y.1 = some .local ∨ ((defScope st).names.lookup y.1 = some .cell ∧ ((cellsFrom (s.heap.objs.size + 1) (defScope st).names []).lookup y.1).isSome = true) := by
    rintro ⟨n, v⟩ hy
    rcases S.par n (List.of_mem_zip hy).1 with q | q
    · exact .inl q
    · exact .inr ⟨q, PySem.W.cellsFrom_some _ _ _ (.inl q)⟩
  refine wpAny_newFunctionEnv_cells S.kind kinds fun env he s1 x => ?_
  subst he
  refine ⟨lim.keeps x.toInCall.keep, codeAny_func ?_⟩
  obtain ⟨t, ht, hq⟩ := hbody cdv A outer s H vs Q E (by first | exact hg | simpa [Around.deeper] using hg) (hr.deeper _) hsp
  have I : Inv (cxOf CX0 P w K mg base N qual (defScope st) f cdv A outer s H E) [] (start N vs) H s1 := inv_start S hr.hd e0 (len _ _ _ _ hsp) r x
  refine wpAny_mono (ht.nox.run [] s1 (start N vs) H _ I hq) (fun fl s' hs => ?_) fun e s' hs => hs
  cases fl with
  | ret u =>
    obtain ⟨v, σ', H', J, rv, q⟩ := hs
    exact ⟨v, H', J.os, J.bare, J.base, J.hok, rv, q⟩
  | next =>
    obtain ⟨σ', H', J, q⟩ := hs
    exact ⟨.non, H', J.os, J.bare, J.base, J.hok, rfl, q⟩
  | brk => exact hs.elim fun _ h => h.elim fun _ h => h.2.elim
  | cont => exact hs.elim fun _ h => h.elim fun _ h => h.2.elim
end
section
variable {X : Cx} {CX : CXT} {k : Nat} {f : Addr} {fd : FuncData} {ps : List Str} {sp : Sp} {dvs : List V} {ds : List Value} {E : XK} {x : Str} {p pos : Pos} {e : Expr} {es : List Expr} {t : TA}
/-- such a def's call, from a body of the same kind -/
theorem pe_callG (F : FnG X.prog X.w X.K X.mg X.base CX k f fd ps sp) (gd : X.A.guards = some []) (hr : Room k X.A) (hg : Gl X x) (hm : X.mg x = some (.ref f)) (hk : PySem.W.keepIn X.K (.ref f) = true) (hb : Binds X.K fd ps ds) (hd : Vals dvs ds) (hx : Passes CX X E)
    (ha : PA X (e :: es) t) (hdb : (x == ("__debug__" : Str)) = false := by decide) (he : starEach (e :: es) X.env = (false, eval e X.env) :: starEach es X.env := by rfl) (hpl : (backTo pos (starEach es X.env)).any (·.1) = false := by rfl) :
    PE X (.Call (.Name x p) (e :: es) [] pos) (tCall sp dvs E t) := by
  refine ⟨fun pins s σ H Q I h => wpAny_Call_Name_kw (ld_glob I hg hm ?_ hdb)⟩
  refine PySem.W.callWith_K (h₀ := X.base) I.ok.mod.kin hk (thn (ha.run pos pins s σ H _ I h) fun us s1 ⟨vs, H1, I1, r, q⟩ => ⟨I1.kIn, ?_⟩) he hpl
  have r2 : Vals (vs ++ dvs) (us ++ ds) := r.append hd
  have hl : (us ++ ds).length = ps.length := r2.length.symm.trans (F.len _ _ _ _ q)
  refine wpAny_call (codeAny_mono (F.run X.A X.stack s1 H1 ⟨us, []⟩ (us ++ ds) (vs ++ dvs) Q E gd hr I1.env0 (hb s1 us I1.kIn hl) r2 q) fun r s' hq => ?_)
  cases r with
  | error e => exact hx pins σ H1 s1 e s' I1 hq
  | ok fl =>
    cases fl with
    | ret u => exact I1.after hq
    | next => exact hq.elim
    | brk => exact hq.elim
    | cont => exact hq.elim
end

/-! ### the head: the law is called where nothing is under way -/
theorem law_callG {P : Program} {w : World} {K : PySem.W.Frag} {mg mb : Str → Option Value} {k : Nat} {fa a : Addr} {fd : FuncData} {x : Str} {sp : Sp} {s₁ : Shared} {vs : List Value} {ns : List Int}
    (KX : K.In s₁.heap) (hns : s₁.heap.Ns mainGlobals mg) (hb : s₁.heap.Ns builtinsNs mb) (hbb : ∀ x : Str, x ≠ "__name__" → mb x = bootBuiltins x) (hlim : s₁.heap.NoLimit) (hg : s₁.gens = #[])
    (ha : s₁.heap.get? a = some { cls := .type "list", data := .seq vs.toArray }) (hi : IntsAre vs ns) (hl : ns.length ≤ sizeLine) (hr : Room k callerA)
    (F : ∀ base : Heap, K.In base → base.Ns mainGlobals mg → FnG P w K mg base CX0 k fa fd [x] sp) (hbind : ∀ (s : Shared) (u : Value), BindsTo s fd ⟨[u], []⟩ [(x, u)])
    (hsp : ∀ H : Hp, Only H → SqL K H a (ns.map V.int) → sp [.ref a] H (fun v _ => v = .bl true) fun _ _ _ => False) :
    codeAny (model P w) callerA (.call (.ref fa) ⟨[.ref a], []⟩) (fun r s' => r = .ok (.ret (.bool true)) ∧ OldK s₁.heap s'.heap ∧ s'.os = s₁.os ∧ AllBare s'.gens) s₁ := by
  have rv := vals_ints hi
  have lenV := hi.length
  have step : ∀ H : Hp, Only H → SqL K H a (ns.map V.int) → HOk P w H s₁.heap → (∀ b, H b ≠ none → b = a) → (H a ≠ none → K.lookup a = none) →
      codeAny (model P w) callerA (.call (.ref fa) ⟨[.ref a], []⟩) (fun r s' => r = .ok (.ret (.bool true)) ∧ OldK s₁.heap s'.heap ∧ s'.os = s₁.os ∧ AllBare s'.gens) s₁ := by
    intro H hO hS hok only hK
    have free : ∀ {b : Addr} {o : Obj}, s₁.heap.get? b = some o → (b = a → H b = none) → (hidT s₁.heap H).get? b = some o := fun {b o} e n => hidT_get e (by
      cases q : H b with
      | none => rfl
      | some u => rw [n (only b (by rw [q]; simp))] at q; cases q)
    have ns2 : ∀ {b : Addr} {m : Str → Option Value}, s₁.heap.Ns b m → (hidT s₁.heap H).Ns b m := by
      rintro b m ⟨o, es, ep, e, d, r⟩
      refine ⟨o, es, ep, free e fun z => ?_, d, r⟩
      subst z
      rw [ha] at e
      cases e
      cases (show Data.seq vs.toArray _ = Data.dict es ep from d)
    have kin : K.In (hidT s₁.heap H) := fun b o e => free (KX b o e) fun z => by
      subst z
      cases q : H b with
      | none => rfl
      | some u => rw [hK (by rw [q]; simp)] at e; cases e
    have md : Mod K mg (hidT s₁.heap H) := ⟨kin, ns2 hns, ⟨mb, ns2 hb, hbb⟩, hlim.elim fun mc h => ⟨mc, ns2 h.1, h.2⟩⟩
    have e0 : Env0 P w K mg (hidT s₁.heap H) callerA [] s₁ H :=
      ⟨rfl, md, fun b o e => of_hidT e, Nat.le_of_eq (hidT_size _ _), trivial, fun b hb => absurd (show b ∈ ([] : List Addr) from hb) (by simp), hok, .of_eq hg⟩
    refine codeAny_mono ((F _ kin (ns2 hns)).run callerA [] s₁ H ⟨[.ref a], []⟩ [.ref a] [.ref a] _ _ rfl hr e0 (hbind s₁ (.ref a)) (.cons rfl .nil) (hsp H hO hS)) fun r s' h => ?_
    cases r with
    | error e => exact h.elim
    | ok fl =>
      cases fl with
      | next => exact h.elim
      | brk => exact h.elim
      | cont => exact h.elim
      | ret u =>
        obtain ⟨v, H', os, bare, un, hok', r', q⟩ := h
        obtain rfl : v = .bl true := q
        obtain rfl : u = Value.bool true := r'
        refine ⟨rfl, OldK.of_keep fun b o e => ?_, os, bare⟩
        rcases hO b with z | ⟨ob, xs, z⟩
        · exact un.keep b o e z (fun q => absurd (show b ∈ ([] : List Addr) from q) (by simp)) (by simp)
        · have e1 := (hok b _ z).1
          have e2 := (hok' b _ (un.frzs b ob _ z)).1
          rw [e] at e1
          cases e1
          exact e2
  cases hk : K.lookup a with
  | some o =>
    have e := KX a o hk
    rw [ha] at e
    cases e
    exact step (fun _ => none) (fun _ => .inl rfl) (.inr ⟨_, vs.toArray, _, hk, rfl, rfl, rfl, by rw [List.size_toArray, lenV]; exact hl, by simpa using rv⟩) (fun b u z => nomatch (show (none : Option HO) = some u from z)) (fun b z => absurd rfl z) fun z => absurd rfl z
  | none =>
    refine step (fun b => if b = a then some (.frz { cls := .type "list", data := .seq vs.toArray } (.lst (ns.map V.int))) else none) (fun b => ?_) (.inl (.inr ⟨_, if_pos rfl⟩)) (fun b u z => ?_) (fun b z => ?_) fun _ => hk
    · by_cases q : b = a
      · exact .inr ⟨_, _, if_pos q⟩
      · exact .inl (if_neg q)
    · by_cases q : b = a
      · cases (if_pos q).symm.trans z
        subst q
        exact ⟨ha, by rw [List.length_map]; exact hl, vs, _, rv, ha⟩
      · cases (if_neg q).symm.trans z
    · by_cases q : b = a
      · exact q
      · exact absurd (if_neg q) z
theorem walkG {l : PySem.W.OpenLaw} {n k : Nat} {q : Program} {loose : List Str} {XP : (Str → Option Value) → Heap → Prop} {YP : World → Heap → Prop} {d : DefRec} {K : Params → PySem.W.Frag} {sp : PySem.W.Frag → Sp} {x : Str}
    (hn : l.most = some n) (hn2 : n ≤ sizeLine) (hdf : d.params.defaults = []) (hr : Room k callerA) (hY : ∀ (w : World) (h : Heap), YP w h → (K w.params).In h)
    (F : ∀ (w : World) (mg : Str → Option Value) (fa : Addr) (h : Heap), (K w.params).In h → h.Ns mainGlobals mg → mg d.name = some (.ref fa) →
      ∃ fd : FuncData, (∀ (s : Shared) (u : Value), BindsTo s fd ⟨[u], []⟩ [(x, u)]) ∧ ∀ base : Heap, (K w.params).In base → base.Ns mainGlobals mg → FnG l.prog w (K w.params) mg base CX0 k fa fd [x] (sp (K w.params)))
    (hsp : ∀ (K : PySem.W.Frag) (H : Hp) (a : Addr) (ns : List Int), ns.length ≤ n → Only H → SqL K H a (ns.map V.int) → sp K [.ref a] H (fun v _ => v = .bl true) fun _ _ _ => False) :
    PySem.W.WalkO q loose XP YP l.row.toRowW d [] (fun f vs => PySem.call f vs) := by
  refine Att.attach_call hn hdf fun w s₀ s₁ mg mb fa o pm cd doc a vs ns G Y ho hd hcd hmg hobj hints hlen hg => ?_
  obtain ⟨fd, hb, hF⟩ := F w mg fa _ (hY w _ Y) G.T.g hmg
  exact law_callG (hY w _ Y) G.T.g G.T.b G.T.builtins G.T.nolimit hg hobj hints (Nat.le_trans hlen hn2) hr hF hb fun H hO hS => hsp _ H a ns hlen hO hS
end Kr
namespace Kr
open PySem PySem.Spec PyProof.Rows L2
/-- f(k = v, ..), names alone: how they bind -/
theorem kbn_of {K : PySem.W.Frag} {x qual : Str} {st : Stmt} {f : Addr} {fd : FuncData} {ps ks : List Str} (F : Fun K x qual st f fd) (g : {α : Type} → List α → List α)
    (hrel : ∀ {zs : List V} {ws : List Value}, Vals zs ws → Vals (g zs) (g ws))
    (h : ∀ (kV doc pm : Value) (an : Option Addr) (cdv ct : Value) (ws : List Value), ws.length = ks.length → bindArgs (PySem.W.fnOf x qual (defArgs st) (defBody st) (defScope st) .none kV doc pm an cdv ct) ⟨[], ks.zip ws⟩ = pure (ps.zip (g ws))) :
    KBn K fd ps 0 ks (fun _ ws => g ws) (fun _ zs => g zs) := by
  obtain ⟨oc, od, kV, doc, pm, an, cdv, ct, osl, rfl, lk, hcd⟩ := F.ex
  refine ⟨fun s us ws _ hu hw => ?_, fun _ r => hrel r⟩
  obtain rfl : us = [] := List.length_eq_zero_iff.mp hu
  exact .of_eq (h kV doc pm an cdv ct ws hw)
theorem vals_swap {zs : List V} {ws : List Value} (r : Vals zs ws) : Vals zs.reverse ws.reverse := r.reverse
section
variable {X : Cx} {CX : CXT} {k : Nat} {f : Addr} {fd : FuncData} {ps ks : List Str} {sp : Sp} {E : XK} {x : Str} {p pos : Pos} {kws : List Keyword} {tk : TA} {g : List Value → List Value → List Value} {gV : List V → List V → List V}
def tCallN (m : Nat) (sp : Sp) (gV : List V → List V → List V) (E : XK) (tk : TA) : TE := fun σ H Q => tk σ H fun zs H1 => zs.length = m ∧ sp (gV [] zs) H1 Q E
theorem pe_callN (F : FnOk X.prog X.w X.K X.mg X.base CX k f fd ps sp) (hr : Room k X.A) (hg : Gl X x) (hm : X.mg x = some (.ref f)) (hk : PySem.W.keepIn X.K (.ref f) = true) (hb : KBn X.K fd ps 0 ks g gV) (hx : Passes CX X E) (hkw : PK X kws tk)
    (hall : (backToKw pos (keywordEach kws X.env)).all (·.1.isSome) = true := by rfl) (hks : (backToKw pos (keywordEach kws X.env)).filterMap (·.1) = ks := by rfl) (hdb : (x == ("__debug__" : Str)) = false := by decide)
    (hpl : ((backTo pos (starEach [] X.env)).any (·.1) || (backToKw pos (keywordEach kws X.env)).any (·.1.isNone)) = false := by rfl) :
    PE X (.Call (.Name x p) [] kws pos) (tCallN ks.length sp gV E tk) := by
  refine ⟨fun pins s σ H Q I h => wpAny_Call_Name_kw (ld_glob I hg hm ?_ hdb)⟩
  refine PySem.W.callWith_KW0 (h₀ := X.base) I.ok.mod.kin hk hall ?_ hpl
  refine thn (hkw.run pos pins s σ H _ I h) fun ws s2 ⟨zs, H2, I2, rz, l2, q2⟩ => ⟨I2.kIn, ?_⟩
  rw [hks]
  have r2 := hb.rel .nil rz
  refine wpAny_call (codeAny_mono (F.run X.A X.stack s2 H2 ⟨[], ks.zip ws⟩ (g [] ws) (gV [] zs) _ E hr I2.env0 (hb.to s2 [] ws I2.kIn rfl (rz.length.symm.trans l2)) r2 q2) fun r s' hq => ?_)
  cases r with
  | error e => exact hx pins σ _ _ e s' I2 hq
  | ok fl =>
    cases fl with
    | ret u => exact I2.after hq
    | next => exact hq.elim
    | brk => exact hq.elim
    | cont => exact hq.elim
end
end Kr
namespace Kr
open PySem L2
def top (i : Nat) : Stmt := PySem.Challenge.pw_keyriders_k23_whole_how_many_tables.main.body.getD i (.Pass ⟨0, 0, 0, 0⟩)
abbrev sLeastKind : Stmt := top 2
abbrev sAllCount : Stmt := top 4
abbrev sWaysOfSize : Stmt := top 5
abbrev sProductOf : Stmt := top 6
abbrev sTableCount : Stmt := top 7
abbrev sKeyedCount : Stmt := top 8
abbrev sDeck : Stmt := top 10
abbrev sDraw : Stmt := top 11
abbrev sPick : Stmt := top 12
abbrev sLSum : Stmt := top 13
abbrev sLChoose : Stmt := top 14
abbrev sLKind : Stmt := top 15
abbrev sLProduct : Stmt := top 16
abbrev sLLots : Stmt := top 17
abbrev sLPower : Stmt := top 18
abbrev sLWays : Stmt := top 19
abbrev sLSums : Stmt := top 20
abbrev sLPlain : Stmt := top 21
abbrev sLAll : Stmt := top 22
abbrev sLaw : Stmt := top 23
end Kr
namespace Kr
open PySem PySem.Spec PyProof.Rows L2
/-! ### a module's name that holds a built-in (from math import comb) -/
theorem pe_callBG {X : Cx} {id : String} {r : List V → Hp → VK → Prop} {x : Str} {e : Expr} {es : List Expr} {t : TA} {p pos : Pos} (hc : CallR X (.builtin id) r) (hg : Gl X x) (hm : X.mg x = some (.builtin id)) (ha : PA X (e :: es) t) (hdb : (x == ("__debug__" : Str)) = false := by decide)
    (he : starEach (e :: es) X.env = (false, eval e X.env) :: starEach es X.env := by rfl) (hpl : (backTo pos (starEach es X.env)).any (·.1) = false := by rfl) : PE X (.Call (.Name x p) (e :: es) [] pos) (tCB r t) :=
  ⟨fun pn sh st hp W Iv hh => wpAny_Call_Name_kw (ld_glob Iv hg hm (PyProof.Rows.callWith_builtin1 (thn (ha.run pos pn sh st hp _ Iv hh) fun us s1 ⟨vs, H1, I1, r1, q1⟩ => hc pn s1 st H1 vs us W I1 r1 q1) he hpl) hdb)⟩
/-- comb(a, b) -/
def rComb : List V → Hp → VK → Prop := fun vs H Q => ∃ a b : Int, vs = [.int a, .int b] ∧ 0 ≤ a ∧ 0 ≤ b ∧ a < 1000 ∧ Q (.int (PySem.W.mcComb a b)) H
theorem call_comb {X : Cx} : CallR X (.builtin "math.comb") rComb := by
  intro pn sh st hp xs us Q Iv r h
  obtain ⟨a, b, rfl, h1, h2, h3, q⟩ := h
  cases r with
  | cons ra r =>
    cases r with
    | cons rb r =>
      cases r
      obtain ⟨t, rfl⟩ := ra
      obtain ⟨u, rfl⟩ := rb
      exact PySem.W.mc_comb h1 h2 (by omega) (.inr (by omega)) fun _ => ⟨.int (PySem.W.mcComb a b), hp, Iv.kept (t' := sh.toks + 1) (fun _ _ e => e), ⟨_, rfl⟩, q⟩
end Kr
namespace Kr
open PySem PySem.Spec PyProof.Rows L2
/-- the names of the built-ins are theirs -/
structure Bi (mg : Str → Option Value) : Prop where
  len : mg "len" = none
  abs : mg "abs" = none
  int : mg "int" = none
  bool : mg "bool" = none
  tuple : mg "tuple" = none
  list : mg "list" = none
  range : mg "range" = none
  zip : mg "zip" = none
  repr : mg "repr" = none
  enumerate : mg "enumerate" = none
  isinstance : mg "isinstance" = none
  all : mg "all" = none
  sorted : mg "sorted" = none
  set : mg "set" = none
  sum : mg "sum" = none
  min : mg "min" = none
  max : mg "max" = none
  any : mg "any" = none
  str : mg "str" = none
theorem sz {n : Nat} (h : n ≤ 100000) : n ≤ sizeLine := Nat.le_trans h (by decide)
theorem szl {n : Nat} (h : n < 100000) : n < sizeLine := Nat.lt_of_lt_of_le h (by decide)
/-- two ways that meet again -/
theorem join2 {c A : Prop} [Decidable c] {G R : Hp → Prop} {H2 : Hp} (tail : ∀ H3, R H3 → G H3) (h2 : ¬ c → R H2) (h1 : c → (∀ H3, R H3 → G H3) → A) : if c then A else G H2 :=
  ite2 (fun h => h1 h tail) fun h => tail _ (h2 h)
theorem same_new {H : Hp} {q : Addr} {o : HO} (h : H q = none) : Same H (upd H q o) := fun b x e => by
  rw [upd_ne (ne_of_none e h)]
  exact e
structure Df (K : PySem.W.Frag) (mg : Str → Option Value) (x : Str) (st : Stmt) (ps : List Str) : Prop where
  ex : ∃ f fd, Fun K x x st f fd ∧ Binds K fd ps [] ∧ mg x = some (.ref f)
structure Ok (P : Program) (w : World) (K : PySem.W.Frag) (mg : Str → Option Value) (base : Heap) (k : Nat) (x : Str) (ps : List Str) (sp : Sp) : Prop where
  ex : ∃ f fd, FnOk P w K mg base CX0 k f fd ps sp ∧ PySem.W.keepIn K (.ref f) = true ∧ mg x = some (.ref f) ∧ Binds K fd ps []
section
variable {P : Program} {w : World} {K : PySem.W.Frag} {mg : Str → Option Value} {base : Heap}
theorem Df.ok {x : Str} {st : Stmt} {ps : List Str} {k : Nat} {sp : Sp} (D : Df K mg x st ps) (h : ∀ f fd, Fun K x x st f fd → FnOk P w K mg base CX0 k f fd ps sp) : Ok P w K mg base k x ps sp := by
  obtain ⟨f, fd, F, b, g⟩ := D.ex
  exact ⟨f, fd, h f fd F, F.kp, g, b⟩
theorem Ok.mono {x : Str} {ps : List Str} {j k : Nat} {sp : Sp} (D : Ok P w K mg base j x ps sp) (h : j ≤ k) : Ok P w K mg base k x ps sp := by
  obtain ⟨f, fd, F, r⟩ := D.ex
  exact ⟨f, fd, F.mono h, r⟩
end
theorem pe_fn {X : Cx} {k : Nat} {x : Str} {ps : List Str} {sp : Sp} {p pos : Pos} {e : Expr} {es : List Expr} {t : TA} (D : Ok X.prog X.w X.K X.mg X.base k x ps sp) (hr : Room k X.A) (hg : Gl X x) (ha : PA X (e :: es) t)
    (hdb : (x == ("__debug__" : Str)) = false := by decide) (he : starEach (e :: es) X.env = (false, eval e X.env) :: starEach es X.env := by rfl) (hpl : (backTo pos (starEach es X.env)).any (·.1) = false := by rfl) :
    PE X (.Call (.Name x p) (e :: es) [] pos) (tCall sp [] E0 t) := by
  obtain ⟨f, fd, F, kp, g, b⟩ := D.ex
  exact pe_call F hr hg g kp b .nil pass0 ha hdb he hpl
theorem atI_int {α : Type} {xs : List α} {r : Int} {v : α} (h0 : 0 ≤ r) (h : xs[r.toNat]? = some v) : atI xs r = some v := by
  have e : r = ((r.toNat : Nat) : Int) := by omega
  rw [e]
  exact atI_nat h
end Kr
namespace Kr
open PySem PySem.Spec PyProof.Rows L2
def tyN : PyData → String
  | .none => "NoneType"
  | .bool _ => "bool"
  | .int _ => "int"
  | .str _ => "str"
  | .list _ => "list"
  | .tuple _ => "tuple"
  | .dict _ => "dict"
theorem Dq.ty {K : PySem.W.Frag} {H : Hp} {v : V} {d : PyData} (h : Dq H v d) : TyX K H v (.type (tyN d)) := by
  cases h with
  | non => exact .base .non
  | bl b => exact .base (.bl b)
  | int i => exact .base (.int i)
  | str x => exact .base (.str x)
  | lst e q => exact .base (.lst e)
  | tup e q => exact .base (.tup e)
  | dic e => exact .base (.dK e)
def isI : PyData → Bool
  | .int _ => true
  | .bool _ => true
  | _ => false
def isBo : PyData → Bool
  | .bool _ => true
  | _ => false
def isTu : PyData → Bool
  | .tuple _ => true
  | _ => false
theorem kit_int {K : PySem.W.Frag} : ∀ d : PyData, PySem.W.kitOne K (.type (tyN d)) (.type "int") = some (isI d)
  | .none => kit_ty (show kitB "NoneType" "int" = some false by decide +kernel)
  | .bool _ => kit_ty (show kitB "bool" "int" = some true by decide +kernel)
  | .int _ => kit_ty (show kitB "int" "int" = some true by decide +kernel)
  | .str _ => kit_ty (show kitB "str" "int" = some false by decide +kernel)
  | .list _ => kit_ty (show kitB "list" "int" = some false by decide +kernel)
  | .tuple _ => kit_ty (show kitB "tuple" "int" = some false by decide +kernel)
  | .dict _ => kit_ty (show kitB "dict" "int" = some false by decide +kernel)
theorem kit_bool {K : PySem.W.Frag} : ∀ d : PyData, PySem.W.kitOne K (.type (tyN d)) (.type "bool") = some (isBo d)
  | .none => kit_ty (show kitB "NoneType" "bool" = some false by decide +kernel)
  | .bool _ => kit_ty (show kitB "bool" "bool" = some true by decide +kernel)
  | .int _ => kit_ty (show kitB "int" "bool" = some false by decide +kernel)
  | .str _ => kit_ty (show kitB "str" "bool" = some false by decide +kernel)
  | .list _ => kit_ty (show kitB "list" "bool" = some false by decide +kernel)
  | .tuple _ => kit_ty (show kitB "tuple" "bool" = some false by decide +kernel)
  | .dict _ => kit_ty (show kitB "dict" "bool" = some false by decide +kernel)
theorem kit_tuple {K : PySem.W.Frag} : ∀ d : PyData, PySem.W.kitOne K (.type (tyN d)) (.type "tuple") = some (isTu d)
  | .none => kit_ty (show kitB "NoneType" "tuple" = some false by decide +kernel)
  | .bool _ => kit_ty (show kitB "bool" "tuple" = some false by decide +kernel)
  | .int _ => kit_ty (show kitB "int" "tuple" = some false by decide +kernel)
  | .str _ => kit_ty (show kitB "str" "tuple" = some false by decide +kernel)
  | .list _ => kit_ty (show kitB "list" "tuple" = some false by decide +kernel)
  | .tuple _ => kit_ty (show kitB "tuple" "tuple" = some true by decide +kernel)
  | .dict _ => kit_ty (show kitB "dict" "tuple" = some false by decide +kernel)
/-- an integer, no bool, within bounds -/
def isB (d : PyData) (lo hi : Int) : Bool := match d with
  | .int i => decide (lo ≤ i) && decide (i ≤ hi)
  | _ => false
/-- a tuple of so many items -/
def isT (d : PyData) (n : Int) : Bool := match d with
  | .tuple xs => decide ((xs.length : Int) = n)
  | _ => false
def spB : Sp := fun vs H Q _ => ∃ (v : V) (d : PyData) (lo hi : Int), vs = [v, .int lo, .int hi] ∧ Dq H v d ∧ Q (.bl (isB d lo hi)) H
def spT : Sp := fun vs H Q _ => ∃ (v : V) (d : PyData) (n : Int), vs = [v, .int n] ∧ Dq H v d ∧ Q (.bl (isT d n)) H
end Kr
namespace Kr
open PySem PySem.Spec PyProof.Rows L2
/-! ### data without lists and dicts: it stays while tuples stay -/
def TS (H H' : Hp) : Prop := ∀ b xs, H b = some (.tup xs) → H' b = some (.tup xs)
theorem TS.rfl {H : Hp} : TS H H := fun _ _ h => h
theorem TS.trans {H H' H'' : Hp} (a : TS H H') (b : TS H' H'') : TS H H'' := fun c xs h => b c xs (a c xs h)
theorem TS.of {H H' : Hp} (s : Same H H') : TS H H' := fun b xs h => s _ _ h
theorem TS.lst {H : Hp} {D : Addr} {xs ys : List V} (h : H D = some (.lst xs)) : TS H (upd H D (.lst ys)) := fun b zs e => by
  rw [upd_ne (ne_of e h (by intro z; cases z))]
  exact e
theorem TS.new {H : Hp} {q : Addr} {o : HO} (h : H q = none) : TS H (upd H q o) := fun b zs e => by
  rw [upd_ne (ne_of_none e h)]
  exact e
mutual
def flatT : PyData → Bool
  | .none | .bool _ | .int _ | .str _ => true
  | .tuple xs => flatTA xs
  | .list _ | .dict _ => false
def flatTA : List PyData → Bool
  | [] => true
  | x :: xs => flatT x && flatTA xs
end
mutual
theorem Dq.upT {H H' : Hp} (s : TS H H') : ∀ {v : V} {d : PyData}, flatT d = true → Dq H v d → Dq H' v d
  | _, _, _, .non => .non
  | _, _, _, .bl b => .bl b
  | _, _, _, .int i => .int i
  | _, _, _, .str x => .str x
  | _, _, h, .lst _ _ => by simp [flatT] at h
  | _, _, h, .tup e q => .tup (s _ _ e) (DqA.upT s (by simpa [flatT] using h) q)
  | _, _, h, .dic _ => by simp [flatT] at h
theorem DqA.upT {H H' : Hp} (s : TS H H') : ∀ {vs : List V} {ds : List PyData}, flatTA ds = true → DqA H vs ds → DqA H' vs ds
  | _, _, _, .nil => .nil
  | _ :: _, d :: ds, h, .cons a t => by
    have h2 : flatT d = true ∧ flatTA ds = true := by simpa [flatTA] using h
    exact .cons (Dq.upT s h2.1 a) (DqA.upT s h2.2 t)
end
theorem flatTA_of : ∀ {ds : List PyData}, (∀ d ∈ ds, flatT d = true) → flatTA ds = true
  | [], _ => rfl
  | d :: ds, h => by
    have h1 := h d List.mem_cons_self
    have h2 := flatTA_of (ds := ds) fun e he => h e (List.mem_cons_of_mem _ he)
    simp [flatTA, h1, h2]
mutual
/-- as the layer's own data, for == -/
theorem Dq.dp {K : PySem.W.Frag} {H : Hp} : ∀ {v : V} {d : PyData}, flatT d = true → Dq H v d → Dp K H v d
  | _, _, _, .non => .non
  | _, _, _, .bl b => .bl b
  | _, _, _, .int i => .int i
  | _, _, _, .str x => .str x
  | _, _, h, .lst _ _ => by simp [flatT] at h
  | _, _, h, .tup e q => .tup (SqT.of e) (DqA.dp (by simpa [flatT] using h) q)
  | _, _, h, .dic _ => by simp [flatT] at h
theorem DqA.dp {K : PySem.W.Frag} {H : Hp} : ∀ {vs : List V} {ds : List PyData}, flatTA ds = true → DqA H vs ds → DpAll K H vs ds
  | _, _, _, .nil => .nil
  | _ :: _, d :: ds, h, .cons a t => by
    have h2 : flatT d = true ∧ flatTA ds = true := by simpa [flatTA] using h
    exact .cons (Dq.dp h2.1 a) (DqA.dp h2.2 t)
end
theorem dqa_snoc {H : Hp} {vs : List V} {ds : List PyData} {v : V} {d : PyData} (a : DqA H vs ds) (b : Dq H v d) : DqA H (vs ++ [v]) (ds ++ [d]) := a.app (.one b)
/-! ### rows of signs -/
abbrev Row := List (Bool × Bool)
def bi (b : Bool) : Int := if b = true then 1 else 0
def pairD (p : Bool × Bool) : PyData := .tuple [.int (bi p.1), .int (bi p.2)]
def rowD (r : Row) : PyData := .tuple (r.map pairD)
theorem pair_flat (p : Bool × Bool) : flatT (pairD p) = true := by simp [pairD, flatT, flatTA]
theorem pairs_flat (r : Row) : flatTA (r.map pairD) = true := flatTA_of fun d hd => by
  obtain ⟨p, _, rfl⟩ := List.mem_map.mp hd
  exact pair_flat p
theorem row_flat (r : Row) : flatT (rowD r) = true := by
  simp only [rowD, flatT]
  exact pairs_flat r
theorem bi_inj {a b : Bool} : bi a = bi b ↔ a = b := by cases a <;> cases b <;> decide
theorem bi_one (a : Bool) : decide (bi a = 1) = a := by cases a <;> rfl
theorem bi_xor (a b : Bool) : Builtin.bitXor (bi a) (bi b) = bi (a ^^ b) := by cases a <;> cases b <;> decide +kernel
theorem bi_sum (a b : Bool) : (bi a + bi b) % 2 = bi (a ^^ b) := by cases a <;> cases b <;> decide +kernel
theorem pair_at {H : Hp} {b : Addr} {p : Bool × Bool} (h : H b = some (.tup [.int (bi p.1), .int (bi p.2)])) : Dq H (.ref b) (pairD p) := .tup h (.cons (.int _) (.cons (.int _) .nil))
theorem pair_inv {H : Hp} {v : V} {p : Bool × Bool} (h : Dq H v (pairD p)) : ∃ b, v = .ref b ∧ H b = some (.tup [.int (bi p.1), .int (bi p.2)]) := by
  obtain ⟨b, xs, rfl, e, q⟩ := Dq.tup_inv (show Dq H v (.tuple [.int (bi p.1), .int (bi p.2)]) from h)
  cases q with
  | cons h1 q =>
    cases q with
    | cons h2 q =>
      cases q
      cases h1
      cases h2
      exact ⟨b, rfl, e⟩
theorem row_inv {H : Hp} {v : V} {r : Row} (h : Dq H v (rowD r)) : ∃ a xs, v = .ref a ∧ H a = some (.tup xs) ∧ DqA H xs (r.map pairD) := Dq.tup_inv h
theorem pairs_get {H : Hp} {xs : List V} {r : Row} {i : Nat} {y : V} (q : DqA H xs (r.map pairD)) (e : xs[i]? = some y) : ∃ p, r[i]? = some p ∧ ∃ b, y = .ref b ∧ H b = some (.tup [.int (bi p.1), .int (bi p.2)]) := by
  obtain ⟨d, h1, h2⟩ := q.get e
  rw [List.getElem?_map] at h1
  cases hr : r[i]? with
  | none => rw [hr] at h1; cases h1
  | some p =>
    rw [hr] at h1
    cases Option.some.inj h1
    exact ⟨p, rfl, pair_inv h2⟩
theorem pairs_len {H : Hp} {xs : List V} {r : Row} (q : DqA H xs (r.map pairD)) : xs.length = r.length := by rw [q.len, List.length_map]
theorem pairD_inj {p q : Bool × Bool} : PyData.eqv (pairD p) (pairD q) = decide (p = q) := by
  obtain ⟨a, b⟩ := p
  obtain ⟨c, d⟩ := q
  cases a <;> cases b <;> cases c <;> cases d <;> decide +kernel
theorem rows_eqv : ∀ a b : Row, PyData.eqv (rowD a) (rowD b) = decide (a = b)
  | [], [] => by simp [rowD, PyData.eqv, PyData.eqvAll]
  | [], _ :: _ => by simp [rowD, PyData.eqv, PyData.eqvAll]
  | _ :: _, [] => by simp [rowD, PyData.eqv, PyData.eqvAll]
  | x :: a, y :: b => by
    have ih := rows_eqv a b
    simp only [rowD, PyData.eqv] at ih
    simp only [rowD, List.map_cons, PyData.eqv, PyData.eqvAll]
    rw [ih, pairD_inj, Bool.eq_iff_iff]
    simp
theorem pairs_lay : ∀ r : Row, PyData.canLayAll0 (r.map pairD) = true ∧ PyData.depthAll (r.map pairD) ≤ 2
  | [] => by simp [PyData.canLayAll0, PyData.depthAll]
  | p :: r => by
    obtain ⟨h1, h2⟩ := pairs_lay r
    simp only [List.map_cons, PyData.canLayAll0, PyData.depthAll, pairD, PyData.canLay0, PyData.depth, h1]
    refine ⟨by simp, by omega⟩
theorem row_shaped (r : Row) : SeqAt.shaped (rowD r) = true := by
  obtain ⟨h1, h2⟩ := pairs_lay r
  unfold SeqAt.shaped
  simp only [rowD, PyData.canLay0, PyData.depth, h1, Bool.true_and, decide_eq_true_eq]
  omega
theorem pair_shaped (p : Bool × Bool) : SeqAt.shaped (pairD p) = true := by
  obtain ⟨a, b⟩ := p
  cases a <;> cases b <;> decide +kernel
/-! ### sums of rows, rows of kinds -/
def addR (a b : Row) : Row := List.zipWith (fun p q => (p.1 ^^ q.1, p.2 ^^ q.2)) a b
def zeroR (n : Nat) : Row := List.replicate (n + 1) (false, false)
def chB (a b : Int) : Bool := if 0 ≤ b then PySem.W.mcComb a b % 2 == 1 else false
def kindR (n k : Nat) : Row := (List.range (n + 1)).map fun (m : Nat) => (chB ((n : Int) - 2 - k) (((m : Nat) : Int) - 1 - k), chB ((n : Int) - 2 - k) (((m : Nat) : Int) - k))
theorem addR_len {a b : Row} (h : a.length = b.length) : (addR a b).length = b.length := by
  unfold addR
  rw [List.length_zipWith, h, Nat.min_self]
theorem zeroR_len (n : Nat) : (zeroR n).length = n + 1 := List.length_replicate
theorem kindR_len (n k : Nat) : (kindR n k).length = n + 1 := by
  unfold kindR
  rw [List.length_map, List.length_range]
theorem addR_zero : ∀ (n : Nat) (r : Row), r.length = n → addR (List.replicate n (false, false)) r = r
  | 0, [], _ => rfl
  | n + 1, p :: r, h => by
    have ih := addR_zero n r (by simpa using h)
    unfold addR at ih ⊢
    rw [List.replicate_succ, List.zipWith_cons_cons, ih]
    simp
  | 0, _ :: _, h => by simp at h
  | _ + 1, [], h => by simp at h
end Kr
namespace Kr
open PySem PySem.Spec PyProof.Rows L2
/-! ### small data: what repr can show -/
structure Sm (k w : Nat) (d : PyData) : Prop where
  sh : d.showable = true
  ls : d.leavesShort 41 = true
  dp : d.depth ≤ k
  wt : d.weight ≤ w
theorem Sm.mono {k w k' w' : Nat} {d : PyData} (h : Sm k w d) (hk : k ≤ k') (hw : w ≤ w') : Sm k' w' d := ⟨h.sh, h.ls, Nat.le_trans h.dp hk, Nat.le_trans h.wt hw⟩
theorem sm_all {k w : Nat} : ∀ {ds : List PyData}, (∀ d ∈ ds, Sm k w d) → PyData.showableAll ds = true ∧ PyData.leavesShortAll 41 ds = true ∧ PyData.depthAll ds ≤ k ∧ PyData.weightAll ds ≤ (w + 1) * ds.length
  | [], _ => ⟨by simp [PyData.showableAll], by simp [PyData.leavesShortAll], by simp [PyData.depthAll], by simp [PyData.weightAll]⟩
  | d :: ds, h => by
    obtain ⟨h1, h2, h3, h4⟩ := sm_all fun x hx => h x (List.mem_cons_of_mem _ hx)
    have hd := h d List.mem_cons_self
    refine ⟨by simp [PyData.showableAll, hd.sh, h1], by simp [PyData.leavesShortAll, hd.ls, h2], ?_, ?_⟩
    · simp only [PyData.depthAll]
      have := hd.dp
      omega
    · simp only [PyData.weightAll, List.length_cons, Nat.mul_add]
      have := hd.wt
      omega
theorem Sm.lst {k w m : Nat} {ds : List PyData} (h : ∀ d ∈ ds, Sm k w d) (hm : ds.length ≤ m) : Sm (k + 1) ((w + 1) * m) (.list ds) := by
  obtain ⟨h1, h2, h3, h4⟩ := sm_all h
  refine ⟨by simpa [PyData.showable] using h1, by simpa [PyData.leavesShort] using h2, by simp only [PyData.depth]; omega, ?_⟩
  simp only [PyData.weight]
  exact Nat.le_trans h4 (Nat.mul_le_mul_left _ hm)
theorem Sm.tup {k w m : Nat} {ds : List PyData} (h : ∀ d ∈ ds, Sm k w d) (hm : ds.length ≤ m) : Sm (k + 1) ((w + 1) * m) (.tuple ds) := by
  obtain ⟨h1, h2, h3, h4⟩ := sm_all h
  refine ⟨by simpa [PyData.showable] using h1, by simpa [PyData.leavesShort] using h2, by simp only [PyData.depth]; omega, ?_⟩
  simp only [PyData.weight]
  exact Nat.le_trans h4 (Nat.mul_le_mul_left _ hm)
theorem Sm.int {i : Int} (h : i.natAbs < 10 ^ 40) : Sm 1 140 (.int i) := by
  have hl : (PyData.shown (.int i)).length ≤ 41 := by
    have e := int_text_length_le10 (k := 40) (by decide) h
    show (Str.ofString (toString i)).length ≤ 41
    rw [PySem.ofString_length]
    exact e
  have hg : i.natAbs.log2 < 134 := by
    by_cases h0 : i.natAbs = 0
    · rw [h0]
      decide
    · rw [Nat.log2_lt h0]
      exact Nat.lt_of_lt_of_le h (by decide)
  refine ⟨?_, by simpa [PyData.leavesShort] using hl, by simp [PyData.depth], ?_⟩
  · simp only [PyData.showable, decide_eq_true_eq]
    omega
  · simp only [PyData.weight]
    split <;> omega
theorem Sm.non : Sm 1 140 .none := ⟨rfl, rfl, by simp [PyData.depth], by simp [PyData.weight]⟩
theorem Sm.bl (b : Bool) : Sm 1 140 (.bool b) := ⟨rfl, rfl, by simp [PyData.depth], by simp [PyData.weight]⟩
theorem Sm.dic : Sm 1 140 (.dict []) := ⟨by simp [PyData.showable, PyData.showableKv], by simp [PyData.leavesShort, PyData.leavesShortKv], by simp [PyData.depth, PyData.depthKv], by simp [PyData.weight, PyData.weightKv]⟩
theorem Sm.str {x : Str} (h : (x.cps.toList.all fun c => decide (c < 16 ^ 8)) = true) (hs : x.length ≤ 4) : Sm 1 140 (.str x) :=
  ⟨by simp [PyData.showable], by simpa [PyData.leavesShort] using h, by simp [PyData.depth], Nat.le_trans (show x.cps.size ≤ 4 from hs) (by decide)⟩
/-- the text is short enough -/
theorem Sm.fits {k w : Nat} {d : PyData} (h : Sm k w d) (hw : w ≤ 380000) : d.shown.length ≤ sizeLine := by
  have h1 := PyData.shown_le 41 (by decide) d h.ls
  have h2 := h.wt
  rw [sizeLine_eq]
  omega
/-- repr of small data -/
theorem repr_sm {v : V} {d : PyData} {H : Hp} {Q : VK} {k w : Nat} (hd : Dq H v d) (h : Sm k w d) (hk : k ≤ 40) (hw : w ≤ 380000) (q : Q (.str d.shown) H) : rRepr [v] H Q :=
  ⟨v, d, rfl, hd, h.sh, Nat.le_trans h.dp hk, h.fits hw, q⟩
/-- t + u, tuples of any lengths: some object that holds both -/
theorem catA_k {K : PySem.W.Frag} {a b : Addr} {xs ys : List V} {Q : VK} {H : Hp} (ha : H a = some (.tup xs)) (hb : H b = some (.tup ys)) (hl : xs.length + ys.length ≤ 100000) (k : ∀ y H5, Same H H5 → H5 y = some (.tup (xs ++ ys)) → Q (.ref y) H5) : rCatA K (.ref a) (.ref b) H Q := by
  refine ⟨a, b, xs, ys, rfl, rfl, SqT.of ha, SqT.of hb, Nat.le_trans hl (by decide), fun e => k _ _ (Same.refl _) (by rw [e]; exact hb), fun _ e => k _ _ (Same.refl _) (by rw [e, List.append_nil]; exact ha), fun _ _ p np => k _ _ (fun c o h => ?_) upd_same⟩
  rw [upd_ne (ne_of_none h np)]
  exact h
/-- t[i:j] of a tuple: some object that holds it -/
theorem sliceA_k {K : PySem.W.Frag} {a : Addr} {xs : List V} {lo hi : Option Int} {Q : VK} {H : Hp} (ha : H a = some (.tup xs)) (k : ∀ y H5, Same H H5 → H5 y = some (.tup (cutV xs lo hi)) → Q (.ref y) H5) : rSlA K (.ref a) lo hi H Q := by
  refine ⟨a, xs, rfl, SqT.of ha, fun ⟨e1, e2⟩ => k _ _ (Same.refl _) ?_, fun _ p np => k _ _ (fun c o h => ?_) upd_same⟩
  · unfold cutV
    rw [e1, e2, List.drop_zero, Nat.sub_zero, List.take_length]
    exact ha
  · rw [upd_ne (ne_of_none h np)]
    exact h
theorem cut_to {xs : List V} {i : Nat} (h : i ≤ xs.length) : cutV xs none (some (i : Int)) = xs.take i := by
  unfold cutV
  rw [HT.sIx_none, HT.sIx_nat, List.drop_zero, Nat.sub_zero, Nat.min_eq_left h]
theorem cut_from {xs : List V} {i : Nat} (h : i ≤ xs.length) : cutV xs (some (i : Int)) none = xs.drop i := by
  unfold cutV
  rw [HT.sIx_none, HT.sIx_nat, Nat.min_eq_left h]
  exact List.take_of_length_le (by rw [List.length_drop]; exact Nat.le_refl _)
end Kr
namespace Kr
open PySem PySem.Spec PyProof.Rows L2
/-! ### defs that may be called by names in the contrary order; defs that are called where no repr is under way -/
structure OkN (P : Program) (w : World) (K : PySem.W.Frag) (mg : Str → Option Value) (base : Heap) (k : Nat) (x : Str) (ps ks : List Str) (sp : Sp) : Prop where
  ex : ∃ f fd, FnOk P w K mg base CX0 k f fd ps sp ∧ PySem.W.keepIn K (.ref f) = true ∧ mg x = some (.ref f) ∧ Binds K fd ps [] ∧ KBn K fd ps 0 ks (fun _ ws => ws.reverse) (fun _ zs => zs.reverse)
structure DfN (K : PySem.W.Frag) (mg : Str → Option Value) (x : Str) (st : Stmt) (ps ks : List Str) : Prop where
  ex : ∃ f fd, Fun K x x st f fd ∧ Binds K fd ps [] ∧ mg x = some (.ref f) ∧ KBn K fd ps 0 ks (fun _ ws => ws.reverse) (fun _ zs => zs.reverse)
structure OkG (P : Program) (w : World) (K : PySem.W.Frag) (mg : Str → Option Value) (base : Heap) (k : Nat) (x : Str) (ps : List Str) (sp : Sp) : Prop where
  ex : ∃ f fd, FnG P w K mg base CX0 k f fd ps sp ∧ PySem.W.keepIn K (.ref f) = true ∧ mg x = some (.ref f) ∧ Binds K fd ps []
section
variable {P : Program} {w : World} {K : PySem.W.Frag} {mg : Str → Option Value} {base : Heap}
theorem OkN.ok {x : Str} {ps ks : List Str} {k : Nat} {sp : Sp} (D : OkN P w K mg base k x ps ks sp) : Ok P w K mg base k x ps sp := let ⟨f, fd, a, b, c, d, _⟩ := D.ex; ⟨f, fd, a, b, c, d⟩
theorem OkN.mono {x : Str} {ps ks : List Str} {j k : Nat} {sp : Sp} (D : OkN P w K mg base j x ps ks sp) (h : j ≤ k) : OkN P w K mg base k x ps ks sp := let ⟨f, fd, a, r⟩ := D.ex; ⟨f, fd, a.mono h, r⟩
theorem DfN.df {x : Str} {st : Stmt} {ps ks : List Str} (D : DfN K mg x st ps ks) : Df K mg x st ps := let ⟨f, fd, a, b, c, _⟩ := D.ex; ⟨f, fd, a, b, c⟩
/-- a promise of the def by place holds by names -/
theorem DfN.okN {x : Str} {st : Stmt} {ps ks : List Str} {k : Nat} {sp : Sp} (D : DfN K mg x st ps ks) (h : ∀ f fd, Fun K x x st f fd → FnOk P w K mg base CX0 k f fd ps sp) : OkN P w K mg base k x ps ks sp := by
  obtain ⟨f, fd, F, b, g, n⟩ := D.ex
  exact ⟨f, fd, h f fd F, F.kp, g, b, n⟩
theorem Df.okG {x : Str} {st : Stmt} {ps : List Str} {k : Nat} {sp : Sp} (D : Df K mg x st ps) (h : ∀ f fd, Fun K x x st f fd → FnG P w K mg base CX0 k f fd ps sp) : OkG P w K mg base k x ps sp := by
  obtain ⟨f, fd, F, b, g⟩ := D.ex
  exact ⟨f, fd, h f fd F, F.kp, g, b⟩
theorem OkG.mono {x : Str} {ps : List Str} {j k : Nat} {sp : Sp} (D : OkG P w K mg base j x ps sp) (h : j ≤ k) : OkG P w K mg base k x ps sp := by
  obtain ⟨f, fd, F, r⟩ := D.ex
  exact ⟨f, fd, F.mono h, r⟩
end
section
variable {X : Cx} {k : Nat} {x : Str} {ps ks : List Str} {sp : Sp} {p pos : Pos} {e : Expr} {es : List Expr} {t : TA} {kws : List Keyword} {tk : TA}
theorem pe_fnN (D : OkN X.prog X.w X.K X.mg X.base k x ps ks sp) (hr : Room k X.A) (hg : Gl X x) (hkw : PK X kws tk)
    (hall : (backToKw pos (keywordEach kws X.env)).all (·.1.isSome) = true := by rfl) (hks : (backToKw pos (keywordEach kws X.env)).filterMap (·.1) = ks := by rfl) (hdb : (x == ("__debug__" : Str)) = false := by decide)
    (hpl : ((backTo pos (starEach [] X.env)).any (·.1) || (backToKw pos (keywordEach kws X.env)).any (·.1.isNone)) = false := by rfl) :
    PE X (.Call (.Name x p) [] kws pos) (tCallN ks.length sp (fun _ zs => zs.reverse) E0 tk) := by
  obtain ⟨f, fd, F, kp, g, b, n⟩ := D.ex
  exact pe_callN F hr hg g kp n pass0 hkw hall hks hdb hpl
theorem pe_fnG (D : OkG X.prog X.w X.K X.mg X.base k x ps sp) (gd : X.A.guards = some []) (hr : Room k X.A) (hg : Gl X x) (ha : PA X (e :: es) t)
    (hdb : (x == ("__debug__" : Str)) = false := by decide) (he : starEach (e :: es) X.env = (false, eval e X.env) :: starEach es X.env := by rfl) (hpl : (backTo pos (starEach es X.env)).any (·.1) = false := by rfl) :
    PE X (.Call (.Name x p) (e :: es) [] pos) (tCall sp [] E0 t) := by
  obtain ⟨f, fd, F, kp, g, b⟩ := D.ex
  exact pe_callG F gd hr hg g kp b .nil pass0 ha hdb he hpl
end
/-! ### what is shown is small -/
theorem Sm.lit {i : Int} (h : i.natAbs < 32) : Sm 1 5 (.int i) := by
  have a := Sm.int (i := i) (by omega)
  refine ⟨a.sh, a.ls, a.dp, ?_⟩
  simp only [PyData.weight]
  split
  · omega
  · rename_i h0
    have h1 : i.natAbs ≠ 0 := fun z => h0 (by simp; omega)
    have : i.natAbs.log2 < 5 := (Nat.log2_lt h1).mpr h
    omega
theorem Sm.strm {x : Str} {m : Nat} (h : (x.cps.toList.all fun c => decide (c < 16 ^ 8)) = true) (hs : x.length ≤ m) : Sm 1 m (.str x) :=
  ⟨by simp [PyData.showable], by simpa [PyData.leavesShort] using h, by simp [PyData.depth], hs⟩
theorem Sm.two {k w : Nat} {a b : PyData} (ha : Sm k w a) (hb : Sm k w b) : Sm (k + 1) ((w + 1) * 2) (.list [a, b]) := Sm.lst (fun d hd => by
  simp only [List.mem_cons, List.not_mem_nil, or_false] at hd
  rcases hd with rfl | rfl
  · exact ha
  · exact hb) (Nat.le_refl _)
/-- repr(e) != repr(e'), as a test -/
theorem ne_repr {te te2 : TE} {σ : L2.St} {H : Hp} {Q : Bool → Hp → Prop} (h : te σ H fun v H1 => rRepr [v] H1 fun x H2 => te2 σ H2 fun v2 H3 => rRepr [v2] H3 fun y H4 => rNe x y H4 fun z H5 => ∃ k, z = .bl k ∧ Q k H5) :
    tTest (tOp rNe (tCB rRepr (tCons te tNil)) (tCB rRepr (tCons te2 tNil))) σ H Q := h
/-- repr(e) != x, x a text in a slot -/
theorem ne_reprV {te te2 : TE} {σ : L2.St} {H : Hp} {Q : Bool → Hp → Prop} (h : te σ H fun v H1 => rRepr [v] H1 fun x H2 => te2 σ H2 fun y H4 => rNe x y H4 fun z H5 => ∃ k, z = .bl k ∧ Q k H5) :
    tTest (tOp rNe (tCB rRepr (tCons te tNil)) te2) σ H Q := h
theorem ret_eq_repr {te te2 : TE} {σ : L2.St} {H : Hp} {D : Ends} (h : te σ H fun v H1 => rRepr [v] H1 fun x H2 => te2 σ H2 fun v2 H3 => rRepr [v2] H3 fun y H4 => rEq x y H4 fun z H5 => D.rt z H5) : tRet (tOp rEq (tCB rRepr (tCons te tNil)) (tCB rRepr (tCons te2 tNil))) D σ H := h
theorem ret_eq_reprV {te te2 : TE} {σ : L2.St} {H : Hp} {D : Ends} (h : te σ H fun v H1 => rRepr [v] H1 fun x H2 => te2 σ H2 fun y H4 => rEq x y H4 fun z H5 => D.rt z H5) : tRet (tOp rEq (tCB rRepr (tCons te tNil)) te2) D σ H := h
/-- repr of small data, the text under a name -/
theorem repr_x {v : V} {d : PyData} {H : Hp} {Q : VK} {k w : Nat} (hd : Dq H v d) (h : Sm k w d) (hk : k ≤ 40) (hw : w ≤ 380000) (q : ∀ x, x = d.shown → Q (.str x) H) : rRepr [v] H Q := repr_sm hd h hk hw (q _ rfl)
theorem repr_ne {v : V} {d : PyData} {H : Hp} {x : Str} {Q : Bool → Hp → Prop} {k w : Nat} (hx : x = d.shown) (hd : Dq H v d) (h : Sm k w d) (hk : k ≤ 40) (hw : w ≤ 380000) (q : Q false H) :
    rRepr [v] H fun y H4 => rNe (.str x) y H4 fun z H5 => ∃ k, z = .bl k ∧ Q k H5 := by
  refine repr_x hd h hk hw fun y hy => ?_
  rw [← hy] at hx
  subst hx
  refine ⟨rfl, _, rfl, ?_⟩
  rw [decide_eq_true rfl]
  exact q
theorem repr_eq {v : V} {d : PyData} {H : Hp} {x : Str} {Q : VK} {k w : Nat} (hx : x = d.shown) (hd : Dq H v d) (h : Sm k w d) (hk : k ≤ 40) (hw : w ≤ 380000) (q : Q (.bl true) H) :
    rRepr [v] H fun y H4 => rEq (.str x) y H4 fun z H5 => Q z H5 := by
  refine repr_x hd h hk hw fun y hy => ?_
  rw [← hy] at hx
  subst hx
  refine ⟨rfl, ?_⟩
  rw [decide_eq_true rfl]
  exact q
theorem txt_eq {x y : Str} {d : PyData} {H : Hp} {Q : VK} (hx : x = d.shown) (hy : y = d.shown) (q : Q (.bl true) H) : rEq (.str x) (.str y) H Q := by
  rw [← hy] at hx
  subst hx
  refine ⟨rfl, ?_⟩
  rw [decide_eq_true rfl]
  exact q
theorem Sm.three {k w : Nat} {a b c : PyData} (ha : Sm k w a) (hb : Sm k w b) (hc : Sm k w c) : Sm (k + 1) ((w + 1) * 3) (.list [a, b, c]) := Sm.lst (fun d hd => by
  simp only [List.mem_cons, List.not_mem_nil, or_false] at hd
  rcases hd with rfl | rfl | rfl
  · exact ha
  · exact hb
  · exact hc) (Nat.le_refl _)
/-- two texts of the same data -/
theorem txt_ne {x y : Str} {d : PyData} {H : Hp} {Q : Bool → Hp → Prop} (hx : x = d.shown) (hy : y = d.shown) (q : Q false H) : rNe (.str x) (.str y) H fun z H5 => ∃ k, z = .bl k ∧ Q k H5 := by
  rw [← hy] at hx
  subst hx
  refine ⟨rfl, _, rfl, ?_⟩
  rw [decide_eq_true rfl]
  exact q
end Kr
namespace Kr
open PySem PySem.Spec PyProof.Rows L2
/-! ### min(xs, default=d) -/
theorem minD_args (a v : Value) : argsOk "min" ⟨[a], [(Str.ofString "default", v)]⟩ := by unfold argsOk; kernel_rfl
theorem minD_name : (toString "min" ++ toString ".loop" : String) = "min.loop" := by decide
section
variable {prog : Program} {w : World} {A : Around} {J S : Addr} {fp wr : List Addr} {n : Nat} {P : Nat → Value → Prop} {St : Nat → Heap → Prop} {R : Result → Shared → Prop} {dk : Str} {d : Value}
/-- what is told of the loop: its end, from a heap -/
def MinEnd (P : Nat → Value → Prop) (bt : Nat → Nat → Bool) (n : Nat) (wr : List Addr) (S : Addr) (R : Result → Shared → Prop) (s : Shared) : Prop :=
  ∀ v g tk, P (argBest bt (n - 1)) v → (∀ b o, b ∉ wr → b ≠ S → s.heap.get? b = some o → g.get? b = some o) → R (.ok (.ret v)) { s with heap := g, toks := tk }
theorem minD_turn (W : Walks prog w A.in1 J fp wr n P St) (bt : Nat → Nat → Bool) (hc : CmpOf prog w A.in1 .Lt P bt) (hS0 : S ∉ fp) :
    ∀ (k i : Nat) (s : Shared) (u : Value) (c : Nat), n = i + 1 + k → St (i + 1) s.heap → P (argBest bt i) u → s.heap.get? S = some { cls := .type "list", dict := none, data := .seq #[u, u] c, slots := #[] } → MinEnd P bt n wr S R s →
      codeAny (model prog w) A (.builtin "min.loop" ⟨[.ref J, .none, .ref S], [(dk, d)]⟩) R s := by
  have hS1 : S ∉ wr := fun z => hS0 (W.sub _ z)
  intro k
  induction k with
  | zero =>
    intro i s u c hn hst hu hS hR
    refine codeAny_builtin PySem.F.entry_min_loop ?_
    rw [Around.under_plainId PySem.F.plain_min_loop _]
    refine (show wpAny (model prog w) A.in1 (seqItems? (.ref S) >>= _) _ _ s from wpAny_bind (wpAny_seqItems hS rfl ?_))
    refine (show wpAny (model prog w) A.in1 (tryCatch (pyNext (.ref J)) _ >>= _) _ _ s from wpAny_bind (wpAny_tryCatch (W.done s _ _ (show St n s.heap from hn ▸ hst) fun g tk hg => ?_)))
    have hS2 := hg S _ hS1 hS
    refine (show wpAny (model prog w) A.in1 (updateSeq S (fun _ => #[]) >>= _) _ _ _ from wpAny_bind (wpAny_updateSeq hS2 rfl (wpAny_bind (wpAny_letGo (wpAny_pure ?_)))))
    have e : i = n - 1 := by omega
    exact hR u _ tk (e ▸ hu) fun b o q1 q2 e => (Heap.get?_update_other _ _ (Ne.symm q2)).trans (hg b o q1 e)
  | succ k ih =>
    intro i s u c hn hst hu hS hR
    refine codeAny_builtin PySem.F.entry_min_loop ?_
    rw [Around.under_plainId PySem.F.plain_min_loop _]
    refine (show wpAny (model prog w) A.in1 (seqItems? (.ref S) >>= _) _ _ s from wpAny_bind (wpAny_seqItems hS rfl ?_))
    refine (show wpAny (model prog w) A.in1 (tryCatch (pyNext (.ref J)) _ >>= _) _ _ s from wpAny_bind (wpAny_tryCatch (W.item (i + 1) s _ _ (by omega) hst fun v g tk hv hst2 hg => ?_)))
    have hS2 := hg S _ hS1 hS
    refine (show wpAny (model prog w) A.in1 (tryCatch (holding [v, v] (richCompare .Lt v u >>= _)) _ >>= _) _ _ _ from wpAny_bind (wpAny_tryCatch (wpAny_holding (wpAny_bind (hc (i + 1) (argBest bt i) v u _ _ _ hv hu ?_)))))
    refine wpAny_bind (wpAny_holding (wpAny_truthy_bool (wpAny_bind (wpAny_letGo (wpAny_pure ?_)))))
    have quiet := plainId_quiet PySem.F.plain_min_loop ⟨[.ref J, .none, .ref S], [(dk, d)]⟩
    by_cases hb : bt (i + 1) (argBest bt i) = true
    · rw [if_pos hb]
      refine wpAny_bind (wpAny_updateSeq hS2 rfl (wpAny_bind (wpAny_letGo ?_)))
      rw [minD_name]
      refine wpAny_pure ⟨quiet, ih (i + 1) _ v _ (by omega) (W.frame _ _ _ hst2 fun b hbf o e => (Heap.get?_update_other _ _ (fun z : S = b => hS0 (z ▸ hbf))).trans e) (by rw [argBest, if_pos hb]; exact hv) (Heap.get?_update_self _ hS2 rfl) fun v2 g2 tk2 h2 hg2 => ?_⟩
      exact hR v2 g2 tk2 h2 fun b o q1 q2 e => hg2 b o q1 q2 ((Heap.get?_update_other _ _ (Ne.symm q2)).trans (hg b o q1 e))
    · rw [if_neg hb]
      refine wpAny_bind (wpAny_letGo ?_)
      rw [minD_name]
      refine wpAny_pure ⟨quiet, ih (i + 1) _ u c (by omega) hst2 (by rw [argBest, if_neg hb]; exact hu) hS2 fun v2 g2 tk2 h2 hg2 => ?_⟩
      exact hR v2 g2 tk2 h2 fun b o q1 q2 e => hg2 b o q1 q2 (hg b o q1 e)
theorem minD_first (W : Walks prog w A.in1 J fp wr n P St) (bt : Nat → Nat → Bool) (hc : CmpOf prog w A.in1 .Lt P bt) (hS0 : S ∉ fp) {s : Shared} {c : Nat} (hst : St 0 s.heap)
    (hS : s.heap.get? S = some { cls := .type "list", dict := none, data := .seq #[] c, slots := #[] })
    (h0 : n = 0 → ∀ g tk, (∀ b o, b ∉ wr → b ≠ S → s.heap.get? b = some o → g.get? b = some o) → R (.ok (.ret d)) { s with heap := g, toks := tk }) (hR : 0 < n → MinEnd P bt n wr S R s) :
    codeAny (model prog w) A (.builtin "min.loop" ⟨[.ref J, .none, .ref S], [(dk, d)]⟩) R s := by
  have hS1 : S ∉ wr := fun z => hS0 (W.sub _ z)
  refine codeAny_builtin PySem.F.entry_min_loop ?_
  rw [Around.under_plainId PySem.F.plain_min_loop _]
  refine (show wpAny (model prog w) A.in1 (seqItems? (.ref S) >>= _) _ _ s from wpAny_bind (wpAny_seqItems hS rfl ?_))
  by_cases hn : n = 0
  · refine (show wpAny (model prog w) A.in1 (tryCatch (pyNext (.ref J)) _ >>= _) _ _ s from wpAny_bind (wpAny_tryCatch (W.done s _ _ (show St n s.heap from hn ▸ hst) fun g tk hg => ?_)))
    refine wpAny_bind (wpAny_rule (wpAny_pure ?_))
    exact h0 hn g tk fun b o q1 q2 e => hg b o q1 e
  · refine (show wpAny (model prog w) A.in1 (tryCatch (pyNext (.ref J)) _ >>= _) _ _ s from wpAny_bind (wpAny_tryCatch (W.item 0 s _ _ (by omega) hst fun v g tk hv hst2 hg => ?_)))
    have hS2 := hg S _ hS1 hS
    refine (show wpAny (model prog w) A.in1 (updateSeq S (fun _ => #[v, v]) >>= _) _ _ _ from wpAny_bind (wpAny_updateSeq hS2 rfl ?_))
    rw [minD_name]
    refine wpAny_pure ⟨plainId_quiet PySem.F.plain_min_loop _, minD_turn W bt hc hS0 (n - 1) 0 _ v _ (by omega) (W.frame _ _ _ hst2 fun b hbf o e => (Heap.get?_update_other _ _ (fun z : S = b => hS0 (z ▸ hbf))).trans e) hv (Heap.get?_update_self _ hS2 rfl) fun v2 g2 tk2 h2 hg2 => ?_⟩
    exact hR (by omega) v2 g2 tk2 h2 fun b o q1 q2 e => hg2 b o q1 q2 ((Heap.get?_update_other _ _ (Ne.symm q2)).trans (hg b o q1 e))
end
section
variable {prog : Program} {w : World} {A : Around} {E : Value → Shared → Prop} {s : Shared} {l : Addr} {its : List Value} {ns : List Int} {Q : Value → Shared → Prop} {d : Value}
theorem minD_raw (hh : A.handled = none) (hl : s.heap.IsList l its.toArray) (hi : IntsAre its ns) (h0 : ns = [] → ∀ g tk, (∀ b o, s.heap.get? b = some o → g.get? b = some o) → Q d { s with heap := g, toks := tk })
    (h : ∀ g tk M t', (∀ b o, s.heap.get? b = some o → g.get? b = some o) → M ∈ ns → (∀ a, a ∈ ns → M ≤ a) → Q (.int M t') { s with heap := g, toks := tk }) :
    wpAny (model prog w) A (call (.builtin "min") [.ref l] [(Str.ofString "default", d)]) Q E s := by
  obtain ⟨xs, e⟩ := hi.allInts.items
  have hn : numsOf (intItems xs).toList = ns := by rw [← e]; exact hi.numsOf
  rw [nums_intItems] at hn
  subst hn
  rw [e] at hl
  refine kmk_tree PySem.F.kind_min PySem.F.plain_min PySem.F.entry_min (minD_args _ _) ?_
  refine (show wpAny (model prog w) A.in1 (Builtin.Builtins.bindParams "min" ["key", "default"] 0 ⟨[], [(Str.ofString "default", d)]⟩ >>= _) _ _ s from wpAny_bind (wpAny_of_eq (show Builtin.Builtins.bindParams "min" ["key", "default"] 0 ⟨[], [(Str.ofString "default", d)]⟩ = pure [none, some d] from rfl) ?_))
  refine wpAny_bind (wpAny_pure (wpAny_bind (iter_intList hl fun s₂ e st hfp hlI => ?_)))
  subst e
  refine wpAny_bind (wpAny_newObj_type ?_)
  rw [minD_name]
  have W := Walks.list (prog := prog) (w := w) (A := A.in1) hh s.heap.objs.size l hlI (intItems xs)
  have hsz : (intItems xs).size = xs.size := by simp [intItems]
  refine wpAny_pure ⟨plainId_quiet PySem.F.plain_min_loop _, minD_first W (fun i j => decide (numAt xs i < numAt xs j)) (CmpOf.ints_lt (numAt xs) (fun _ _ => intItems_at)) (fun hm => Nat.lt_irrefl _ (hfp _ hm)) (W.frame _ _ _ st fun b _ o e => Heap.get?_push_of_some _ e) (Heap.get?_push_size _ rfl) (fun hz g tk hg => ?_) (fun hz v g tk hv hg => ?_)⟩
  · refine h0 ?_ g tk (old_kept fun b o q e => hg b o q (Nat.ne_of_lt (Heap.lt_size e)) (Heap.get?_push_of_some _ e))
    rw [hsz] at hz
    have : xs = #[] := Array.size_eq_zero_iff.mp hz
    rw [this]
    rfl
  · have hk := old_kept fun b o q e => hg b o q (Nat.ne_of_lt (Heap.lt_size e)) (Heap.get?_push_of_some _ e)
    obtain ⟨t, rfl⟩ := intItems_at hv
    obtain ⟨h1, h2⟩ := argBest_lt (numAt xs) (xs.size - 1)
    rw [hsz] at hz ⊢
    refine h g tk _ t hk ?_ fun a ha => ?_
    · rw [numAt_eq]
      exact PySem.getD_mem (by rw [List.length_map, Array.length_toList]; omega)
    · obtain ⟨j, hj, rfl⟩ := mem_getD ha
      rw [List.length_map, Array.length_toList] at hj
      rw [← numAt_eq]
      exact h2 j (by omega)
end
def rMinD (K : PySem.W.Frag) : List V → List V → Hp → VK → Prop := fun vs zs H Q => ∃ (a : Addr) (ns : List Int) (dv : V), vs = [V.ref a] ∧ zs = [dv] ∧ SqL K H a (ns.map V.int) ∧ (ns = [] → Q dv H) ∧ ∀ m, m ∈ ns → (∀ y, y ∈ ns → m ≤ y) → Q (.int m) H
theorem cr_minD {X : Cx} (hc : X.calm = true) : CallRK X (.builtin "min") [Str.ofString "default"] (rMinD X.K) := by
  intro pins s σ H xs zs us ws Q I rx rz h
  obtain ⟨a, ns, dv, rfl, rfl, hs, h0, q⟩ := h
  obtain ⟨its, rv, hl, _⟩ := I.list hs
  rw [Vals.ref1 rx]
  cases rz with
  | cons rd rt =>
    cases rt
    exact minD_raw (I.ok.hd hc) hl.isList rv.ints (fun hz g tk hk => ⟨dv, H, I.kept hk, rd, h0 hz⟩) fun g tk m t' hk h1 h2 => ⟨.int _, H, I.kept hk, ⟨_, rfl⟩, q m h1 h2⟩
end Kr
namespace Kr
open PySem PySem.Spec PyProof.Rows L2
/-! ### repr of whole numbers of up to 4300 figures, in lists -/
section
variable {prog : Program} {w : World} {A : Around} {E : Value → Shared → Prop} {s : Shared} {a : Int} {t : Tok}
theorem limit_wide {Q : Option Nat → Shared → Prop} (hn : s.heap.NoDigits) (ha : a.natAbs < 10 ^ 4300) (q : Q none s) : wpAny (model prog w) A (Builtin.overDigitLimit? a) Q E s :=
  overDigitLimit_any hn (fun _ => q) fun h => absurd ha (Nat.not_lt.mpr h)
theorem intRepr_wide {Q : Value → Shared → Prop} (hn : s.heap.NoDigits) (ha : a.natAbs < 10 ^ 4300) (h : Q (.str (toString a) s.toks) { s with toks := s.toks + 1 }) : wpAny (model prog w) A (call (.builtin "int.__repr__") [.int a t]) Q E s := by
  refine wpAny_call_entry F.slot_int_repr (typeIs_int s a t) F.entry_int_repr ?_ (F.args_int_repr_1 _)
  unfold Builtin.«int.__repr__»
  refine (show wpAny (model prog w) _ (do let r ← Builtin.overDigitLimit? a; _) _ _ s from wpAny_bind (limit_wide hn ha ?_))
  exact wpAny_bind (wpAny_mkStr (wpAny_pure ⟨_, rfl, h⟩) (int_text_fits10 ha))
theorem reprK_wide {h₀ : Heap} (hn : h₀.NoDigits) (ha : a.natAbs < 10 ^ 4300) (as : List Addr) (d : Nat) : ReprK prog w as h₀ d (.int a t) (toString a) := fun base hz A g E s Q hg hcl hu hk hQ => by
  rw [pyReprUnder_leaf (v := .int a t) (by omega) (fun _ e => nomatch e)]
  unfold pyRepr
  refine wpAny_bind (wpAny_pyReprObj_slot (by omega : A.units < cLine) (typeIs_int s a t) F.slot_int_repr.toG (intRepr_wide (hn.keeps hk) ha ⟨_, _, rfl, ?_⟩))
  exact wpAny_pure (hQ s.heap _ fun _ _ e => e)
end
def shownI (is : List Int) : List Str := is.map fun i => (toString i : Str)
theorem shown_ints (is : List Int) : PyData.shownAll (is.map PyData.int) = shownI is := by
  induction is with
  | nil => rfl
  | cons i is ih => simp only [List.map_cons, PyData.shownAll, PyData.shown, ih, shownI]
theorem int_len {i : Int} (h : i.natAbs < 10 ^ 4300) : (toString i : Str).length ≤ 4400 := by
  have e := int_text_length_le10 (k := 4300) (by decide) h
  show (Str.ofString (toString i)).length ≤ 4400
  rw [PySem.ofString_length]
  omega
theorem text_len {is : List Int} (h : ∀ i ∈ is, i.natAbs < 10 ^ 4300) (hl : is.length ≤ 1000) : (listText (shownI is)).length ≤ sizeLine := by
  have h3 := listText_len_le (shownI is)
  have : ((shownI is).map (·.length)).sum ≤ 4400 * is.length := by
    clear h3 hl
    induction is with
    | nil => exact Nat.le_refl _
    | cons i is ih =>
      have a1 := int_len (h i List.mem_cons_self)
      have a2 := ih fun x hx => h x (List.mem_cons_of_mem _ hx)
      simp only [shownI, List.map_cons, List.sum_cons, List.length_cons] at a2 ⊢
      omega
  have e : sizeLine = 16777216 := by decide
  have e2 : (shownI is).length = is.length := List.length_map _
  omega
/-- repr(i), repr([i, ..]) -/
def rReprW : List V → Hp → VK → Prop := fun xs H Q => ∃ v, xs = [v] ∧ ((∃ i : Int, v = .int i ∧ i.natAbs < 10 ^ 4300 ∧ Q (.str (toString i)) H) ∨
  ∃ (a : Addr) (is : List Int), v = .ref a ∧ H a = some (.lst (is.map V.int)) ∧ is ≠ [] ∧ is.length ≤ 1000 ∧ (∀ i ∈ is, i.natAbs < 10 ^ 4300) ∧ Q (.str (listText (shownI is))) H)
theorem vals_nth {is : List Int} {us : List Value} (r : Vals (is.map V.int) us) {i : Nat} {y : Value} (h : us[i]? = some y) : ∃ (z : Int) (t : Tok), is[i]? = some z ∧ y = .int z t := by
  induction is generalizing us i with
  | nil =>
    cases r
    simp at h
  | cons x is ih =>
    cases r with
    | cons r1 r2 =>
      cases i with
      | zero =>
        obtain ⟨t, rfl⟩ := r1
        simp at h
        exact ⟨x, t, rfl, h.symm⟩
      | succ i =>
        obtain ⟨z, t, h1, h2⟩ := ih r2 (i := i) (by simpa using h)
        exact ⟨z, t, by simpa using h1, h2⟩
theorem call_reprW {X : Cx} (hg : X.A.guards = some []) (hu : X.A.units + 64 < cLine) (hz : X.base.NoDigits) : CallR X (.builtin "repr") rReprW := by
  intro pins s σ H xs us Q I r h
  have hn : s.heap.NoDigits := hz.keeps I.bk
  obtain ⟨v, rfl, h⟩ := h
  obtain ⟨u, rfl, r1⟩ : ∃ u, us = [u] ∧ RelV v u := by
    cases r with
    | cons a b =>
      cases b
      exact ⟨_, rfl, a⟩
  rcases h with ⟨i, rfl, hi, q⟩ | ⟨a, is, rfl, ha, hne, hl, hi, q⟩
  · obtain ⟨t, rfl⟩ := r1
    refine call_repr_slot (by omega) (typeIs_int s i t) F.slot_int_repr.toG (intRepr_wide hn hi ⟨_, _, rfl, ?_⟩)
    exact ⟨.str _, H, I.kept (t' := s.toks + 1) (fun _ _ e => e), ⟨_, rfl⟩, q⟩
  · obtain rfl : u = Value.ref a := r1
    obtain ⟨its, rv, ⟨o, n, ho, hc, _, hd⟩, _⟩ := I.list (SqL.of (K := X.K) ha)
    refine call_repr_slot (by omega) ⟨o, ho, hc⟩ F.slot_list_repr.toG ?_
    have hlen := rv.length
    rw [List.length_map] at hlen
    cases its with
    | nil => exact absurd (List.eq_nil_of_length_eq_zero hlen) hne
    | cons y rest =>
      refine call_list_reprK (as := []) (d := 1) ho hc hd (by simp) (by rw [shownI, List.length_map, hlen]; simp) (fun i y e => ?_) hg (fun b _ => Clear.nil b) (by show X.A.units + 1 + _ < cLine; omega) (fun _ _ e => e) (fun h' t tk hk => ⟨_, _, rfl, ⟨.str _, H, I.kept (t' := tk) hk, ⟨t, rfl⟩, q⟩⟩) (text_len hi hl)
      obtain ⟨z, t, h1, rfl⟩ := vals_nth rv (i := i) (y := y) (by simpa using e)
      exact ⟨toString z, by rw [shownI, List.getElem?_map, h1]; rfl, reprK_wide hn (hi z (List.mem_of_getElem? h1)) _ _⟩
end Kr
namespace Kr
open PySem PySem.Spec PyProof.Rows L2
/-! ### great numbers -/
def fac : Nat → Nat
  | 0 => 1
  | n + 1 => fac n * (n + 1)
theorem fac_pos : ∀ n, 1 ≤ fac n
  | 0 => Nat.le_refl _
  | n + 1 => Nat.mul_le_mul (fac_pos n) (Nat.succ_le_succ (Nat.zero_le n))
theorem fac_add (a : Nat) : ∀ d, fac a ≤ fac (a + d)
  | 0 => Nat.le_refl _
  | d + 1 => Nat.le_trans (fac_add a d) (Nat.le_mul_of_pos_right _ (Nat.succ_pos _))
theorem fac_mono {a b : Nat} (h : a ≤ b) : fac a ≤ fac b := by
  have := fac_add a (b - a)
  rwa [show a + (b - a) = b by omega] at this
theorem fac_lt {n : Nat} (h : n ≤ 400) : fac n < 2 ^ 4000 := Nat.lt_of_le_of_lt (fac_mono h) (by decide +kernel)
theorem fac_fold : ∀ n : Nat, Builtin.Math.factorialNat n = fac n
  | 0 => rfl
  | n + 1 => by
    have ih := fac_fold n
    unfold Builtin.Math.factorialNat at ih ⊢
    rw [List.range_succ, List.foldl_append, ih]
    rfl
/-- factorial(n) -/
def rFac : List V → Hp → VK → Prop := fun vs H Q => ∃ n : Nat, vs = [.int (n : Int)] ∧ n ≤ 400 ∧ Q (.int ((fac n : Nat) : Int)) H
theorem log_lt {c k : Nat} (h : c < 2 ^ k) (hk : 0 < k) : c.log2 < k := by
  by_cases h0 : c = 0
  · subst h0
    simp
    exact hk
  · exact (Nat.log2_lt h0).mpr h
theorem call_fac {X : Cx} : CallR X (.builtin "math.factorial") rFac := by
  intro pins s σ H vs us Q I r h
  obtain ⟨n, rfl, hn, q⟩ := h
  cases r with
  | cons ra r =>
    cases r
    obtain ⟨t, rfl⟩ := ra
    have e1 : Builtin.Math.maxSsize = 9223372036854775807 := by decide
    have e2 : Builtin.Math.manyFactors = 20000 := by decide
    refine PySem.W.mg_factorial_v (c := ((fac n : Nat) : Int)) (by rw [e1]; omega) (by omega) (by rw [e2]; omega) (by rw [Int.toNat_natCast, fac_fold]) ?_ ⟨.int _, H, I.kept (t' := s.toks + 1) (fun _ _ e => e), ⟨_, rfl⟩, q⟩
    rw [Int.natAbs_natCast]
    exact Nat.lt_of_lt_of_le (log_lt (fac_lt hn) (by decide)) (by decide)
/-- two factors of moderate size -/
theorem mulOk {a b : Nat} (ha : a < 2 ^ 200000) (hb : b < 2 ^ 200000) : CMulW ((a : Nat) : Int) ((b : Nat) : Int) := wide_mul (a := 200000) (b := 200000) (by rw [Int.natAbs_natCast]; exact ha) (by rw [Int.natAbs_natCast]; exact hb) (by decide) (by decide) (by decide)
theorem divOk {a b : Nat} (h0 : 0 < b) (hb : b < 2 ^ 9000) : CDivW ((a : Nat) : Int) ((b : Nat) : Int) := wide_div (b := 9000) (by omega) (by rw [Int.natAbs_natCast]; exact hb) (by decide) (by decide)
/-! ### products -/
def prodL (ns : List Nat) : Nat := ns.foldl (fun a b => a * b) 1
theorem foldl_mul : ∀ (ns : List Nat) (c : Nat), ns.foldl (fun a b => a * b) c = c * prodL ns
  | [], c => by simp [prodL]
  | n :: ns, c => by
    unfold prodL
    rw [List.foldl_cons, List.foldl_cons, foldl_mul ns (c * n), foldl_mul ns (1 * n), Nat.one_mul, Nat.mul_assoc]
theorem prodL_app (a b : List Nat) : prodL (a ++ b) = prodL a * prodL b := by
  unfold prodL
  rw [List.foldl_append, foldl_mul]
  rfl
theorem prodL_one (a : Nat) : prodL [a] = a := by simp [prodL]
theorem prodL_pos : ∀ {ns : List Nat}, (∀ n ∈ ns, 1 ≤ n) → 1 ≤ prodL ns
  | [], _ => Nat.le_refl _
  | n :: ns, h => by
    have e : prodL (n :: ns) = n * prodL ns := by
      have := prodL_app [n] ns
      rwa [prodL_one] at this
    rw [e]
    exact Nat.mul_le_mul (h n List.mem_cons_self) (prodL_pos fun x hx => h x (List.mem_cons_of_mem _ hx))
theorem prodL_take {ns : List Nat} (h : ∀ n ∈ ns, 1 ≤ n) (i : Nat) : prodL (ns.take i) ≤ prodL ns := by
  have e : prodL ns = prodL (ns.take i) * prodL (ns.drop i) := by rw [← prodL_app, List.take_append_drop]
  rw [e]
  exact Nat.le_mul_of_pos_right _ (prodL_pos fun n hn => h n (List.mem_of_mem_drop hn))
theorem prodL_rep (a k : Nat) : prodL (List.replicate k a) = a ^ k := by
  induction k with
  | zero => rfl
  | succ k ih => rw [List.replicate_succ', prodL_app, ih, prodL_one, Nat.pow_succ]
/-- f a · f (a + 1) · .. (k of them) -/
def prodN (f : Nat → Nat) (a k : Nat) : Nat := prodL ((List.range k).map fun i => f (a + i))
theorem prodN_succ (f : Nat → Nat) (a k : Nat) : prodN f a (k + 1) = prodN f a k * f (a + k) := by
  unfold prodN
  rw [List.range_succ, List.map_append, prodL_app, List.map_cons, List.map_nil, prodL_one]
theorem prodN_pos {f : Nat → Nat} {a k : Nat} (h : ∀ i, i < k → 1 ≤ f (a + i)) : 1 ≤ prodN f a k := prodL_pos fun n hn => by
  obtain ⟨i, hi, rfl⟩ := List.mem_map.mp hn
  exact h i (List.mem_range.mp hi)
theorem prodN_le {f : Nat → Nat} {a k i : Nat} (h : ∀ i, i < k → 1 ≤ f (a + i)) (hi : i ≤ k) : prodN f a i ≤ prodN f a k := by
  induction k with
  | zero =>
    obtain rfl : i = 0 := by omega
    exact Nat.le_refl _
  | succ k ih =>
    by_cases e : i = k + 1
    · subst e
      exact Nat.le_refl _
    · rw [prodN_succ]
      exact Nat.le_trans (ih (fun j hj => h j (by omega)) (by omega)) (Nat.le_mul_of_pos_right _ (h k (by omega)))
/-! ### how many tables -/
def lots (n m : Nat) : Nat := fac n / (fac m * fac (n - m))
def waysN (n m : Nat) : Nat := fac (lots n m) * fac (n - m) ^ lots n m
def allC (n : Nat) : Nat := prodN (waysN n) 0 (n + 1)
def freeN (n j : Nat) : Nat := fac (n - j) ^ lots n j
def keyed (n j o : Nat) : Nat := freeN n j * prodN (fun m => waysN n m / 4) (j + 1) (n - 2 - j) * (fac n / 2) * 2 ^ o
theorem lots_le : ∀ n < 11, ∀ m < 11, m ≤ n → 1 ≤ lots n m ∧ lots n m ≤ 252 := by decide +kernel
theorem comb_lots : ∀ n < 11, ∀ m < 11, m ≤ n → PySem.W.mcComb ((n : Nat) : Int) ((m : Nat) : Int) = ((lots n m : Nat) : Int) := by decide +kernel
theorem ways_lt : ∀ n < 11, ∀ m < 11, m ≤ n → 1 ≤ waysN n m ∧ waysN n m < 10 ^ 4300 ∧ freeN n m < 10 ^ 4300 := by decide +kernel
theorem all_lt : ∀ n < 11, allC n < 10 ^ 4300 := by decide +kernel
theorem ways4 : ∀ n < 11, ∀ m < 11, 3 ≤ n → m + 2 ≤ n → 1 ≤ m → 4 ≤ waysN n m := by decide +kernel
def tst (f : Nat → Nat → Nat → Bool) : Bool := (List.range 11).all fun n => (List.range 9).all fun j => (List.range 9).all fun o => !(decide (3 ≤ n) && decide (1 ≤ j) && decide (j + o + 2 ≤ n)) || f n j o
theorem tst_at {f : Nat → Nat → Nat → Bool} (h : tst f = true) {n j o : Nat} (h1 : n < 11) (h2 : 3 ≤ n) (h3 : 1 ≤ j) (h4 : j + o + 2 ≤ n) : f n j o = true := by
  have a := List.all_eq_true.mp h n (List.mem_range.mpr h1)
  have b := List.all_eq_true.mp a j (List.mem_range.mpr (by omega))
  have c := List.all_eq_true.mp b o (List.mem_range.mpr (by omega))
  rw [decide_eq_true h2, decide_eq_true h3, decide_eq_true h4] at c
  exact c
section
variable {n j o : Nat}
theorem keyed_lt (h1 : n < 11) (h2 : 3 ≤ n) (h3 : 1 ≤ j) (h4 : j + o + 2 ≤ n) : keyed n j o * fac n < 10 ^ 4300 := of_decide_eq_true (tst_at (f := fun n j o => decide (keyed n j o * fac n < 10 ^ 4300)) (by decide +kernel) h1 h2 h3 h4)
theorem divides (h1 : n < 11) (h2 : 3 ≤ n) (h3 : 1 ≤ j) (h4 : j + o + 2 ≤ n) : allC n % (keyed n j o * fac n) = 0 := of_decide_eq_true (tst_at (f := fun n j o => decide (allC n % (keyed n j o * fac n) = 0)) (by decide +kernel) h1 h2 h3 h4)
end
theorem divides0 : ∀ n < 11, allC n % fac n = 0 := by decide +kernel
/-- the law's own ways to them -/
def fct (n m : Nat) : Nat := if m = n then waysN n m else if m = n - 1 then waysN n m / 2 else waysN n m / 4
def oneRow (n j : Nat) : Nat := freeN n j / 2 * prodN (fct n) (j + 1) (n - j)
theorem sums_keyed {n j o : Nat} (h1 : n < 11) (h2 : 3 ≤ n) (h3 : 1 ≤ j) (h4 : j + o + 2 ≤ n) : 2 ^ (o + 1) * oneRow n j = keyed n j o := of_decide_eq_true (tst_at (f := fun n j o => decide (2 ^ (o + 1) * oneRow n j = keyed n j o)) (by decide +kernel) h1 h2 h3 h4)
def plainV (n j o z : Nat) : Nat := z * freeN n j * fac n / 2 * prodN (fun m => waysN n m / 4) (j + 1) (n - 2 - j) * 2 ^ o
theorem plain_one {n j o : Nat} (h1 : n < 11) (h2 : 3 ≤ n) (h3 : 1 ≤ j) (h4 : j + o + 2 ≤ n) : plainV n j o 1 = keyed n j o := of_decide_eq_true (tst_at (f := fun n j o => decide (plainV n j o 1 = keyed n j o)) (by decide +kernel) h1 h2 h3 h4)
theorem plain_fac {n j o : Nat} (h1 : n < 11) (h2 : 3 ≤ n) (h3 : 1 ≤ j) (h4 : j + o + 2 ≤ n) : plainV n j o (fac n) = keyed n j o * fac n := of_decide_eq_true (tst_at (f := fun n j o => decide (plainV n j o (fac n) = keyed n j o * fac n)) (by decide +kernel) h1 h2 h3 h4)
theorem big_lt {a : Nat} (h : a < 10 ^ 4300) : a < 2 ^ 200000 := Nat.lt_of_lt_of_le h (by decide +kernel)
end Kr
namespace Kr
open PySem PySem.Spec PyProof.Rows L2
/-! ### the deck: a dict of a list and a number, apart from all else -/
def hid (p l : Addr) (H : Hp) : Hp := fun b => if b = p ∨ b = l then none else H b
theorem hid_ne {p l b : Addr} {H : Hp} (h1 : b ≠ p) (h2 : b ≠ l) : hid p l H b = H b := by
  unfold hid
  rw [if_neg (fun h => h.elim h1 h2)]
theorem hid_some {p l b : Addr} {H : Hp} {o : HO} (h : hid p l H b = some o) : b ≠ p ∧ b ≠ l ∧ H b = some o := by
  unfold hid at h
  by_cases e : b = p ∨ b = l
  · rw [if_pos e] at h
    cases h
  · rw [if_neg e] at h
    exact ⟨fun z => e (.inl z), fun z => e (.inr z), h⟩
theorem hid_same (p l : Addr) (H : Hp) : Same (hid p l H) H := fun _ _ h => (hid_some h).2.2
abbrev Ext (p l : Addr) (H H' : Hp) : Prop := Same (hid p l H) (hid p l H')
theorem Ext.of {p l : Addr} {H H' : Hp} (s : Same H H') : Ext p l H H' := fun b o h => by
  obtain ⟨h1, h2, h3⟩ := hid_some h
  rw [hid_ne h1 h2]
  exact s _ _ h3
theorem Ext.rfl {p l : Addr} {H : Hp} : Ext p l H H := Same.refl _
abbrev kD : Key := Sum.inr ("deep" : Str)
abbrev kS : Key := Sum.inr ("state" : Str)
theorem kDS : ¬ kD = kS := by
  intro z
  exact absurd (Sum.inr.inj z) (by decide +kernel)
def dkv (x y : V) : List (Key × V) := [(kD, x), (kS, y)]
theorem dkv_d (x y : V) : valV (dkv x y) kD = some x := valV_pos rfl
theorem dkv_s (x y : V) : valV (dkv x y) kS = some y := (valV_neg kDS).trans (valV_pos rfl)
theorem kds : ¬ ("deep" : Str) = "state" := by decide +kernel
theorem ksd : ¬ ("state" : Str) = "deep" := by decide +kernel
theorem dkv_pd (x y z : V) : putK (dkv x y) kD z = dkv z y := by
  simp [putK, dkv, kds, ksd]
theorem dkv_ps (x y z : V) : putK (dkv x y) kS z = dkv x z := by
  simp [putK, dkv, kds, ksd]
theorem dkv_m (x y : V) : mergeK [] [(kD, x), (kS, y)] = dkv x y := by
  simp [mergeK, putK, dkv, kds, ksd]
structure Deck (H : Hp) (p l : Addr) : Prop where
  ex : ∃ (ds : List Int) (st : Int), H p = some (.dK (dkv (.ref l) (.int st))) ∧ H l = some (.lst (ds.map V.int)) ∧ ds.length ≤ 63
theorem Deck.ne {H : Hp} {p l : Addr} (d : Deck H p l) : p ≠ l := by
  obtain ⟨ds, st, h1, h2, _⟩ := d.ex
  exact ne_of h1 h2 (by intro z; cases z)
theorem Deck.up {H H' : Hp} {p l : Addr} (d : Deck H p l) (s : Same H H') : Deck H' p l := by
  obtain ⟨ds, st, h1, h2, h3⟩ := d.ex
  exact ⟨ds, st, s _ _ h1, s _ _ h2, h3⟩
/-- a new object stands apart -/
theorem Deck.new {H : Hp} {p l q : Addr} (d : Deck H p l) (h : H q = none) : q ≠ p ∧ q ≠ l := by
  obtain ⟨ds, st, h1, h2, h3⟩ := d.ex
  exact ⟨(ne_of_none h1 h).symm, (ne_of_none h2 h).symm⟩
theorem hid_upd {H : Hp} {p l q : Addr} {o : HO} (h1 : q ≠ p) (h2 : q ≠ l) : hid p l (upd H q o) q = some o := by
  rw [hid_ne h1 h2, upd_same]
def spDeck (K : PySem.W.Frag) : Sp := fun vs H Q _ => ∃ (a : Addr) (ns : List Int), vs = [.ref a] ∧ SqL K H a (ns.map V.int) ∧ ns.length ≤ 63 ∧ ∀ H' p l, Same H H' → H p = none → H l = none → Deck H' p l → Q (.ref p) H'
section
variable {P : Program} {w : World} {K : PySem.W.Frag} {mg : Str → Option Value} {base : Heap}
theorem scDeck : FnScope ["script", "deck", "cell", "whole"] ["script"] (defScope sDeck) := ⟨rfl, rfl, rfl, by decide +kernel, rfl, by decide +kernel, by decide +kernel⟩
theorem ok_deck {f : Addr} {fd : FuncData} {k : Nat} (F : Fun K "_law_deck" "_law_deck" sDeck f fd) (B : Bi mg) : FnOk P w K mg base CX0 (k + 1) f fd ["script"] (spDeck K) := by
  refine F.ok scDeck (fun vs H Q E h => ?_) (fun cdv A outer s H vs Q E hr h => ?_)
  · obtain ⟨a, ns, rfl, _⟩ := h
    rfl
  · obtain ⟨a, ns, rfl, hS, hlen, q⟩ := h
    have hu := hu_of hr
    refine ⟨_, pss_cons (ps_set (i := 1) scDeck.nd rfl (.inl rfl) (pe_disp (pps_cons pe_str (pe_lst pa_nil) (pps_cons pe_str (pe_op op_add (pe_op op_add pe_int pe_int) (pe_callB call_len_seq (by rfl) B.len boot_len (pa_cons (pe_slice sl_list (pv 0) po_none (po_some pe_int)) pa_nil))) pps_nil)) (by rfl) (by rfl) (fun z => by cases z) (by decide)))
      (pss_cons (ps_for PassesOwn.never rfl (pi_list (pe_slice sl_list (pv 0) po_none (po_some pe_int))) (pg_name (i := 2) scDeck.nd rfl (.inl rfl))
        (pss_cons (ps_if (pt_cmpR op_ge (pe_callB call_abs (by rfl) B.abs (by decide +kernel) (pa_cons (pv 2) pa_nil)) (pe_op op_pow pe_int pe_int) (nomark _)) (pss_one (ps_dput hu (pv 1) pe_str (pe_op op_cat (pe_lst (pa_cons (pe_callB call_abs (by rfl) B.abs (by decide +kernel) (pa_cons (pv 2) pa_nil)) pa_nil)) (pe_dget hu (pv 1) pe_str (fun _ _ => rfl))) rfl)) pss_nil)
        (pss_cons (ps_set (i := 3) scDeck.nd rfl (.inl rfl) (pe_op op_add (pe_op op_mul pe_int (pe_callB call_abs (by rfl) B.abs (by decide +kernel) (pa_cons (pv 2) pa_nil))) (pe_callTy call_int1 (by rfl) B.int (by decide +kernel) (pa_cons (pe_cmpR op_lt (pv 2) pe_int (nomark _)) pa_nil))))
        (pss_one (ps_dput hu (pv 1) pe_str (pe_op op_mod (pe_callTy call_int1 (by rfl) B.int (by decide +kernel) (pa_cons (pe_op op_add (pe_op op_mul (pe_op op_add (pe_op op_add (pe_dget hu (pv 1) pe_str (fun _ _ => rfl)) (pv 3)) pe_int) pe_int) pe_int) pa_nil)) pe_int) rfl)))))
      (pss_one (ps_ret (pv 1)))), ?_⟩
    intro p np
    refine ⟨Nat.zero_le _, fun l nl => ?_⟩
    have s0 : Same H (upd (upd H p (.dK [])) l (.lst [])) := (same_new np).trans (same_new nl)
    have nlp : l ≠ p := fun z => by rw [z, upd_same] at nl; cases nl
    have nl0 : H l = none := by rw [upd_ne nlp] at nl; exact nl
    refine ⟨_, _, rfl, rfl, .ref a, rfl, 63, rfl, a, _, rfl, s0.seq hS, fun c nc => ?_⟩
    have ncp : c ≠ p := fun z => by rw [z, upd_ne nlp.symm, upd_same] at nc; cases nc
    have ncl : c ≠ l := fun z => by rw [z, upd_same] at nc; cases nc
    refine ⟨c, _, rfl, .inl (SqL.of upd_same), _, _, rfl, rfl, ?_⟩
    refine ⟨by rw [upd_ne ncp.symm, upd_ne nlp.symm, upd_same], [(kD, V.ref l), (kS, V.int _)], rfl, by show 2 ≤ 15; decide, ?_⟩
    rw [dkv_m]
    generalize ((362436069 + 8723 : Int) + ((cutV (ns.map V.int) none (some 63)).length : Int)) = st0
    have s1 : Same (upd (upd H p (.dK [])) l (.lst [])) (upd (upd (upd H p (.dK [])) l (.lst [])) c (.lst (cutV (ns.map V.int) none (some 63)))) := same_new nc
    generalize hH1 : upd (upd (upd H p (.dK [])) l (.lst [])) c (.lst (cutV (ns.map V.int) none (some 63))) = H1 at s1
    have l1 : H1 l = some (.lst []) := s1 _ _ upd_same
    have s2 : Same H (upd H1 p (.dK (dkv (.ref l) (.int st0)))) := fun b o e => by
      rw [upd_ne (ne_of_none e np)]
      exact s1 _ _ (s0 _ _ e)
    refine ⟨.ref a, rfl, 63, rfl, a, _, rfl, s2.seq hS, fun c2 nc2 => ?_⟩
    have e63 : cutV (ns.map V.int) none (some 63) = ns.map V.int := by
      unfold cutV
      rw [HT.sIx_none, show HT.sIx (ns.map V.int).length (ns.map V.int).length (some 63) = min 63 (ns.map V.int).length from HT.sIx_nat _ _ 63, List.drop_zero, Nat.sub_zero, List.length_map]
      exact List.take_of_length_le (by rw [List.length_map]; omega)
    rw [e63]
    have c2p : c2 ≠ p := fun z => by rw [z, upd_same] at nc2; cases nc2
    have c2l : c2 ≠ l := fun z => by rw [z, upd_ne nlp, l1] at nc2; cases nc2
    refine ⟨c2, rfl, ⟨_, SqL.of upd_same⟩, for_list (K := K) (a := c2) (xs := ns.map V.int) (fun i σ H2 => ∃ v2 v3 l ds st, σ = [some (.ref a), some (.ref p), v2, v3] ∧ Same H H2 ∧ H2 c2 = some (.lst (ns.map V.int)) ∧ H2 p = some (.dK (dkv (.ref l) (.int st))) ∧ H2 l = some (.lst (ds.map V.int)) ∧ ds.length ≤ i ∧ H l = none ∧ c2 ≠ l)
      ⟨none, none, l, [], st0, rfl, s2.trans (same_new nc2), upd_same, by rw [upd_ne c2p.symm, upd_same], by rw [upd_ne c2l.symm, upd_ne nlp, l1]; rfl, Nat.le_refl _, nl0, c2l⟩ (fun i σ H2 _ ⟨_, _, _, _, _, _, _, h, _⟩ => SqL.of h) ?_ ?_⟩
    · rintro i y σ H2 hi ⟨v2, v3, l, ds, st, rfl, sm, hc, hp, hl, hd, nl, ncl⟩
      have hil : i < ns.length := by
        have := (List.getElem?_eq_some_iff.mp hi).1
        rw [List.length_map] at this
        exact this
      obtain ⟨z, rfl⟩ : ∃ z, y = V.int z := by
        rw [List.getElem?_map] at hi
        cases e : ns[i]? with
        | none => rw [e] at hi; cases hi
        | some z => rw [e] at hi; exact ⟨z, (Option.some.inj hi).symm⟩
      have nlp : l ≠ p := ne_of hl hp (by intro z; cases z)
      refine ⟨.int z, rfl, z, rfl, ?_⟩
      refine ⟨_, _, rfl, rfl, ⟨by decide, by decide, by decide⟩, _, _, rfl, rfl, _, rfl, ?_⟩
      refine join2 (H2 := H2) (R := fun H3 => ∃ (l3 : Addr) (ds3 : List Int), Same H H3 ∧ H3 c2 = some (.lst (ns.map V.int)) ∧ H3 p = some (.dK (dkv (.ref l3) (.int st))) ∧ H3 l3 = some (.lst (ds3.map V.int)) ∧ ds3.length ≤ i + 1 ∧ H l3 = none ∧ c2 ≠ l3 ∧ l3 ≠ p)
        (fun H3 hR => ?_) (fun _ => ⟨l, ds, sm, hc, hp, hl, by omega, nl, ncl, nlp⟩) (fun _ tail => ?_)
      rotate_left
      · refine ⟨.int z, rfl, z, rfl, ?_⟩
        generalize (if z < 0 then -z else z) = wz
        refine ⟨by show 1 ≤ sizeLine; decide, fun l1 nl1 => ⟨.ref p, rfl, p, .ref l, rfl, ?_⟩⟩
        have n1p : l1 ≠ p := (ne_of_none hp nl1).symm
        have n1l : l1 ≠ l := (ne_of_none hl nl1).symm
        have n1c : l1 ≠ c2 := (ne_of_none hc nl1).symm
        have hp1 : upd H2 l1 (.lst [.int wz]) p = some (.dK (dkv (.ref l) (.int st))) := by rw [upd_ne n1p.symm]; exact hp
        refine ⟨by rw [← dkv_d (.ref l) (.int st)]; exact DGet.k (k := kD) hp1, l1, l, _, _, rfl, rfl, upd_same, by rw [upd_ne n1l.symm]; exact hl, by rw [List.length_map]; exact sz (by show 1 + ds.length ≤ 100000; omega), fun l2 nl2 => ?_⟩
        have n2p : l2 ≠ p := (ne_of_none hp1 nl2).symm
        have n2c : l2 ≠ c2 := fun z => by rw [z, upd_ne n1c.symm, hc] at nl2; cases nl2
        have sm2 : Same H (upd (upd H2 l1 (.lst [.int wz])) l2 (.lst ([.int wz] ++ ds.map V.int))) := (sm.trans (same_new nl1)).trans (same_new nl2)
        have hp2 : (upd (upd H2 l1 (.lst [.int wz])) l2 (.lst ([.int wz] ++ ds.map V.int))) p = some (.dK (dkv (.ref l) (.int st))) := by rw [upd_ne n2p.symm]; exact hp1
        refine ⟨.ref p, rfl, p, _, rfl, DPut.k (k := kD) hp2 (by show 2 < sizeLine; decide), ?_⟩
        rw [dkv_pd]
        have nl2' : H l2 = none := (sm.trans (same_new nl1)).free nl2
        refine tail (upd (upd (upd H2 l1 (.lst [.int wz])) l2 (.lst ([.int wz] ++ ds.map V.int))) p (.dK (dkv (.ref l2) (.int st)))) ⟨l2, wz :: ds, (fun b o e => by rw [upd_ne (ne_of_none e np)]; exact sm2 _ _ e), ?_, upd_same, ?_, (by rw [List.length_cons]; omega), nl2', n2c.symm, n2p⟩
        · rw [upd_ne c2p, upd_ne n2c.symm, upd_ne n1c.symm]
          exact hc
        · rw [upd_ne n2p, upd_same]
          rfl
      · obtain ⟨l3, ds3, sm3, hc3, hp3, hl3, hd3, nl3, ncl3, nlp3⟩ := hR
        refine ⟨.int z, rfl, z, rfl, 2, _, rfl, rfl, .inl ⟨by decide, by decide⟩, .int z, rfl, z, 0, rfl, rfl, .inr ⟨_, rfl, ?_⟩⟩
        refine ⟨_, _, rfl, rfl, ?_⟩
        generalize (2 * (if z < 0 then -z else z) + (if decide (z < 0) = true then (1 : Int) else 0)) = wz
        refine ⟨.ref p, rfl, p, .int st, rfl, by rw [← dkv_s (.ref l3) (.int st)]; exact DGet.k (k := kS) hp3, ?_⟩
        refine ⟨_, rfl, _, _, rfl, rfl, _, 1, rfl, rfl, _, 1181783497276652981, rfl, rfl, .inr ⟨by decide, by decide⟩, _, 521288629, rfl, rfl, ?_⟩
        refine .inl ⟨_, rfl, ?_⟩
        refine ⟨_, 2305843009213693951, rfl, rfl, by show (0 : Int) < 2305843009213693951; decide, .ref p, rfl, p, _, rfl, DPut.k (k := kS) hp3 (by show 2 < sizeLine; decide), ?_⟩
        rw [dkv_ps]
        refine ⟨_, _, l3, ds3, _, rfl, fun b o e => ?_, ?_, upd_same, ?_, hd3, nl3, ncl3⟩
        · rw [upd_ne (ne_of_none e np)]
          exact sm3 _ _ e
        · rw [upd_ne c2p]
          exact hc3
        · rw [upd_ne nlp3]
          exact hl3
    · rintro σ H2 ⟨v2, v3, l, ds, st, rfl, sm, hc, hp, hl, hd, nl, ncl⟩
      rw [List.length_map] at hd
      exact ⟨.ref p, rfl, q H2 p l sm np nl ⟨ds, st, hp, hl, by omega⟩⟩
end
end Kr
namespace Kr
open PySem PySem.Spec PyProof.Rows L2
def spDraw : Sp := fun vs H Q _ => ∃ (p l : Addr) (m : Int), vs = [.ref p, .int m] ∧ Deck H p l ∧ m < 1073741824 ∧ ∀ H' r, Deck H' p l → Ext p l H H' → 0 ≤ r → (r < m ∨ r = 0) → Q (.int r) H'
theorem dp_ints {K : PySem.W.Frag} {H : Hp} : ∀ ds : List Int, DpAll K H (ds.map V.int) (ds.map PyData.int)
  | [] => .nil
  | d :: ds => .cons (.int d) (dp_ints ds)
theorem lay_ints : ∀ ds : List Int, PyData.canLayAll0 (ds.map PyData.int) = true
  | [] => by simp [PyData.canLayAll0]
  | d :: ds => by simp [PyData.canLayAll0, PyData.canLay0, lay_ints ds]
theorem dep_ints : ∀ ds : List Int, PyData.depthAll (ds.map PyData.int) ≤ 1
  | [] => by simp [PyData.depthAll]
  | d :: ds => by
    have := dep_ints ds
    simp [PyData.depthAll, PyData.depth]
    omega
theorem shaped_ints (ds : List Int) : SeqAt.shaped (.list (ds.map PyData.int)) = true := by
  unfold SeqAt.shaped
  have := dep_ints ds
  simp [PyData.canLay0, lay_ints ds, PyData.depth]
  omega
theorem eqv_ints_nil (ds : List Int) : PyData.eqv (.list (ds.map PyData.int)) (.list []) = decide (ds = []) := by
  cases ds <;> simp [PyData.eqv, PyData.eqvAll]
theorem Ext.new {p l q : Addr} {H H' : Hp} {o : HO} (e : Ext p l H H') (h : H' q = none) : Ext p l H (upd H' q o) := fun b x hb => by
  have h2 := e b x hb
  obtain ⟨h3, h4, h5⟩ := hid_some h2
  rw [hid_ne h3 h4, upd_ne (ne_of_none h5 h)]
  exact h5
theorem Ext.at {p l q : Addr} {H H' : Hp} {o : HO} (e : Ext p l H H') (h : q = p ∨ q = l) : Ext p l H (upd H' q o) := fun b x hb => by
  have h2 := e b x hb
  obtain ⟨h3, h4, h5⟩ := hid_some h2
  have hq : b ≠ q := fun z => h.elim (fun w => h3 (z.trans w)) fun w => h4 (z.trans w)
  rw [hid_ne h3 h4, upd_ne hq]
  exact h5
section
variable {P : Program} {w : World} {K : PySem.W.Frag} {mg : Str → Option Value} {base : Heap}
theorem scDraw : FnScope ["deck", "many", "whole", "one", "two"] ["deck", "many"] (defScope sDraw) := ⟨rfl, rfl, rfl, by decide +kernel, rfl, by decide +kernel, by decide +kernel⟩
theorem ok_draw {f : Addr} {fd : FuncData} {k : Nat} (F : Fun K "_law_draw" "_law_draw" sDraw f fd) (B : Bi mg) : FnOk P w K mg base CX0 (k + 1) f fd ["deck", "many"] spDraw := by
  refine F.ok scDraw (fun vs H Q E h => ?_) (fun cdv A outer s H vs Q E hr h => ?_)
  · obtain ⟨p, l, m, rfl, _⟩ := h
    rfl
  · obtain ⟨p, l, m, rfl, D, hm, q⟩ := h
    have hu := hu_of hr
    refine ⟨_, pss_cons (ps_if (pt_cmpR op_lt (pv 1) pe_int (nomark _)) (pss_one (ps_ret pe_int)) pss_nil)
      (pss_cons (ps_if (pt_cmpR (op_neD hr.units) (pe_dget hu (pv 0) pe_str (fun _ _ => rfl)) (pe_lst pa_nil) (nomark _))
        (pss_cons (ps_set (i := 2) scDraw.nd rfl (.inl rfl) (pe_bm0 PySem.F.plainAttrs_list PySem.F.slot_list_pop PySem.F.type_list_pop mt_pop (pe_dget hu (pv 0) pe_str (fun _ _ => rfl))))
        (pss_cons (ps_if (pt_cmpR op_ge (pv 2) (pv 1) (nomark _)) (pss_one (ps_expr (pe_bm PySem.F.plainAttrs_list PySem.F.slot_list_append PySem.F.type_list_append mt_append (pe_dget hu (pv 0) pe_str (fun _ _ => rfl)) (pa_cons (pe_op op_fdiv (pv 2) (pv 1)) pa_nil)))) pss_nil)
        (pss_one (ps_ret (pe_op op_mod (pe_callTy call_int1 (by rfl) B.int (by decide +kernel) (pa_cons (pv 2) pa_nil)) (pv 1)))))) pss_nil)
      (pss_cons (ps_set (i := 3) scDraw.nd rfl (.inl rfl) (pe_op op_mod (pe_callTy call_int1 (by rfl) B.int (by decide +kernel) (pa_cons (pe_op op_add (pe_op op_mul (pe_dget hu (pv 0) pe_str (fun _ _ => rfl)) pe_int) pe_int) pa_nil)) pe_int))
      (pss_cons (ps_dput hu (pv 0) pe_str (pv 3) rfl)
      (pss_cons (ps_set (i := 4) scDraw.nd rfl (.inl rfl) (pe_op op_mod (pe_callTy call_int1 (by rfl) B.int (by decide +kernel) (pa_cons (pe_op op_add (pe_op op_add (pe_op op_mul (pv 3) (pv 3)) (pe_op op_mul pe_int (pv 3))) pe_int) pa_nil)) pe_int))
      (pss_one (ps_ret (pe_op op_mod (pe_callTy call_int1 (by rfl) B.int (by decide +kernel) (pa_cons (pe_op op_fdiv (pv 4) pe_int) pa_nil)) (pv 1)))))))), ?_⟩
    refine ⟨.int m, rfl, m, 2, rfl, rfl, _, rfl, ite2 (fun _ => ?_) (fun hm2 => ?_)⟩
    · exact q H 0 D Ext.rfl (Int.le_refl _) (.inr rfl)
    have hm1 : ¬ m < 2 := fun z => hm2 (decide_eq_true z)
    obtain ⟨ds, st, hp, hl, hd⟩ := id D.ex
    have hgd : DGet H p (V.str "deep") (some (.ref l)) := by rw [← dkv_d (.ref l) (.int st)]; exact DGet.k (k := kD) hp
    refine ⟨.ref p, rfl, p, .ref l, rfl, hgd, by show 0 ≤ sizeLine; decide, fun e ne => ?_⟩
    have nep : e ≠ p := (ne_of_none hp ne).symm
    have nel : e ≠ l := (ne_of_none hl ne).symm
    have nlp : l ≠ p := D.ne.symm
    refine ⟨.list (ds.map PyData.int), .list [], .lst (SqL.of (by rw [upd_ne nel.symm]; exact hl)) (dp_ints ds), .lst (SqL.of upd_same) .nil, shaped_ints ds, shaped_ints [], ?_⟩
    rw [eqv_ints_nil]
    have hp1 : upd H e (.lst []) p = some (.dK (dkv (.ref l) (.int st))) := by rw [upd_ne nep.symm]; exact hp
    have hl1 : upd H e (.lst []) l = some (.lst (ds.map V.int)) := by rw [upd_ne nel.symm]; exact hl
    have E1 : Ext p l H (upd H e (.lst [])) := Ext.rfl.new ne
    generalize upd H e (.lst []) = H1 at hp1 hl1 E1
    have hgd1 : DGet H1 p (V.str "deep") (some (.ref l)) := by rw [← dkv_d (.ref l) (.int st)]; exact DGet.k (k := kD) hp1
    have hgs1 : DGet H1 p (V.str "state") (some (.int st)) := by rw [← dkv_s (.ref l) (.int st)]; exact DGet.k (k := kS) hp1
    refine ⟨_, rfl, ?_⟩
    by_cases hds : ds = []
    · -- mixed numbers
      rw [decide_eq_true hds]
      refine iteF ?_
      refine ⟨.ref p, rfl, p, .int st, rfl, hgs1, _, _, rfl, rfl, .inr ⟨by decide, by decide⟩, _, _, rfl, rfl, .inl ⟨_, rfl, _, _, rfl, rfl, (by show (0 : Int) < 2305843009213693951; decide), ?_⟩⟩
      dsimp only
      have o0 : 0 ≤ ((st * 1181783497276652981 + 88172645463325) % 2305843009213693951 : Int) := Int.emod_nonneg _ (by decide)
      have o1 : ((st * 1181783497276652981 + 88172645463325) % 2305843009213693951 : Int) < 2305843009213693951 := Int.emod_lt_of_pos _ (by decide)
      generalize ((st * 1181783497276652981 + 88172645463325) % 2305843009213693951 : Int) = one at o0 o1
      refine ⟨.int one, rfl, .ref p, rfl, p, _, rfl, DPut.k (k := kS) hp1 (by show 2 < sizeLine; decide), ?_⟩
      rw [dkv_ps]
      refine ⟨.int one, rfl, .int one, rfl, _, _, rfl, rfl, .inl ⟨by omega, by omega⟩, .int one, rfl, _, _, rfl, rfl, .inl ⟨by decide, by decide⟩, _, _, rfl, rfl, _, _, rfl, rfl, .inl ⟨_, rfl, _, _, rfl, rfl, (by show (0 : Int) < 2305843009213693921; decide), ?_⟩⟩
      dsimp only
      generalize ((one * one + 374761393 * one + 11) % 2305843009213693921 : Int) = two
      refine ⟨.int two, rfl, _, _, rfl, rfl, ⟨by decide, by decide⟩, .inl ⟨_, rfl, .int m, rfl, _, _, rfl, rfl, (by show 0 < m; omega), ?_⟩⟩
      refine q _ _ ⟨ds, one, upd_same, by rw [upd_ne nlp]; exact hl1, hd⟩ (E1.at (.inl rfl)) (Int.emod_nonneg _ (by omega)) (.inl (Int.emod_lt_of_pos _ (by omega)))
    · -- a digit of a great cell
      rw [decide_eq_false hds]
      refine iteT ?_
      obtain ⟨last, hlast⟩ : ∃ y, ds[ds.length - 1]? = some y := ⟨_, List.getElem?_eq_getElem (by
        have := List.length_pos_iff.mpr hds
        omega)⟩
      refine ⟨.ref p, rfl, p, .ref l, rfl, hgd1, .inl ⟨rfl, _, SqL.of hl1⟩, l, _, .int last, rfl, rfl, hl1, by rw [List.length_map, List.getElem?_map, hlast]; rfl, ?_⟩
      rw [← List.map_dropLast]
      have hdl : ds.dropLast.length ≤ 62 := by rw [List.length_dropLast]; omega
      have hp2 : upd H1 l (.lst (ds.dropLast.map V.int)) p = some (.dK (dkv (.ref l) (.int st))) := by rw [upd_ne nlp.symm]; exact hp1
      have hl2 : upd H1 l (.lst (ds.dropLast.map V.int)) l = some (.lst (ds.dropLast.map V.int)) := upd_same
      have E2 : Ext p l H (upd H1 l (.lst (ds.dropLast.map V.int))) := E1.at (.inr rfl)
      generalize ds.dropLast = ds2 at hdl hp2 hl2 E2
      generalize upd H1 l (.lst (ds2.map V.int)) = H2 at hp2 hl2 E2
      have hgd2 : DGet H2 p (V.str "deep") (some (.ref l)) := by rw [← dkv_d (.ref l) (.int st)]; exact DGet.k (k := kD) hp2
      refine ⟨.int last, rfl, .int m, rfl, _, _, rfl, rfl, _, rfl, ?_⟩
      refine join2 (H2 := H2) (R := fun H3 => ∃ ds3 : List Int, H3 p = some (.dK (dkv (.ref l) (.int st))) ∧ H3 l = some (.lst (ds3.map V.int)) ∧ ds3.length ≤ 63 ∧ Ext p l H H3)
        (fun H3 hR => ?_) (fun _ => ⟨ds2, hp2, hl2, by omega, E2⟩) (fun _ tail => ?_)
      · obtain ⟨ds3, hp3, hl3, hd3, E3⟩ := hR
        refine ⟨.int last, rfl, .inl ⟨_, rfl, .int m, rfl, _, _, rfl, rfl, (by show 0 < m; omega), ?_⟩⟩
        exact q _ _ ⟨ds3, st, hp3, hl3, hd3⟩ E3 (Int.emod_nonneg _ (by omega)) (.inl (Int.emod_lt_of_pos _ (by omega)))
      · refine ⟨.ref p, rfl, p, .ref l, rfl, hgd2, .inl ⟨rfl, _, SqL.of hl2⟩, .int last, rfl, .int m, rfl, _, _, rfl, rfl, ⟨by omega, hm⟩, l, _, _, rfl, rfl, hl2, szl (by rw [List.length_map]; omega), ?_⟩
        refine tail _ ⟨ds2 ++ [last / m], by rw [upd_ne nlp.symm]; exact hp2, ?_, by rw [List.length_append]; show _ + 1 ≤ 63; omega, E2.at (.inr rfl)⟩
        rw [upd_same, List.map_append]
        rfl
end
end Kr
namespace Kr
open PySem PySem.Spec PyProof.Rows L2
/-! ### defs by their names -/
section
variable {P : Program} {w : World} {K : PySem.W.Frag} {mg : Str → Option Value} {base : Heap}
end
/-- one of some items -/
def spPick : Sp := fun vs H Q _ => ∃ (p l a : Addr) (xs : List V), vs = [.ref p, .ref a] ∧ Deck H p l ∧ hid p l H a = some (.lst xs) ∧ xs ≠ [] ∧ xs.length < 1000000 ∧ ∀ H' v, Deck H' p l → Ext p l H H' → v ∈ xs → Q v H'
section
variable {P : Program} {w : World} {K : PySem.W.Frag} {mg : Str → Option Value} {base : Heap}
theorem o_draw (D : Df K mg "_law_draw" sDraw ["deck", "many"]) (B : Bi mg) : Ok P w K mg base 1 "_law_draw" ["deck", "many"] spDraw := D.ok fun _ _ F => ok_draw F B
theorem o_deck (D : Df K mg "_law_deck" sDeck ["script"]) (B : Bi mg) : Ok P w K mg base 1 "_law_deck" ["script"] (spDeck K) := D.ok fun _ _ F => ok_deck F B
theorem scPick : FnScope ["deck", "some"] ["deck", "some"] (defScope sPick) := ⟨rfl, rfl, rfl, by decide +kernel, rfl, by decide +kernel, by decide +kernel⟩
theorem o_pick (D : Df K mg "_law_pick" sPick ["deck", "some"]) (B : Bi mg) (d : Ok P w K mg base 1 "_law_draw" ["deck", "many"] spDraw) : Ok P w K mg base 2 "_law_pick" ["deck", "some"] spPick := by
  refine D.ok fun f fd F => F.ok scPick (fun vs H Q E h => ?_) (fun cdv A outer s H vs Q E hr h => ?_)
  · obtain ⟨p, l, a, xs, rfl, _⟩ := h
    rfl
  · obtain ⟨p, l, a, xs, rfl, Dk, ha, hne, hlen, q⟩ := h
    refine ⟨_, pss_one (ps_ret (pe_ix ix_list (pv 1) (pe_fn d hr (by rfl) (pa_cons (pv 0) (pa_cons (pe_callB call_len_seq (by rfl) B.len boot_len (pa_cons (pv 1) pa_nil)) pa_nil))) (fun _ _ => rfl))), ?_⟩
    have hpos := List.length_pos_iff.mpr hne
    refine ⟨.ref a, rfl, .ref p, rfl, .ref a, rfl, a, xs, rfl, .inl (SqL.of (hid_same p l H _ _ ha)), p, l, _, rfl, Dk, by show (xs.length : Int) < 1073741824; omega, fun H' r Dk' e h0 h1 => ?_⟩
    have hr2 : r.toNat < xs.length := by omega
    refine ⟨a, xs, r, xs[r.toNat], rfl, rfl, SqL.of (hid_same p l H' _ _ (e _ _ ha)), ?_, q H' _ Dk' e (List.getElem_mem hr2)⟩
    exact atI_int h0 (List.getElem?_eq_getElem hr2)
end
end Kr
namespace Kr
open PySem PySem.Spec PyProof.Rows L2
/-! ### beside the deck -/
theorem Ext.mut {p l f : Addr} {H H' : Hp} {o : HO} (e : Ext p l H H') (h : H f = none) : Ext p l H (upd H' f o) := fun b x hb => by
  obtain ⟨_, _, h5⟩ := hid_some hb
  obtain ⟨h1, h2, h3⟩ := hid_some (e b x hb)
  rw [hid_ne h1 h2, upd_ne (ne_of_none h5 h)]
  exact h3
theorem Deck.mut {H : Hp} {p l f : Addr} {o : HO} (d : Deck H p l) (h1 : f ≠ p) (h2 : f ≠ l) : Deck (upd H f o) p l := by
  obtain ⟨ds, st, a, b, c⟩ := d.ex
  exact ⟨ds, st, by rw [upd_ne h1.symm]; exact a, by rw [upd_ne h2.symm]; exact b, c⟩
theorem Ext.free {p l f : Addr} {H H' : Hp} (e : Ext p l H H') (h : H' f = none) (h1 : f ≠ p) (h2 : f ≠ l) : H f = none := by
  cases q : H f with
  | none => rfl
  | some o =>
    have := (hid_some (e f o (by rw [hid_ne h1 h2]; exact q))).2.2
    rw [h] at this
    cases this
theorem Ext.at_ {p l f : Addr} {H H' : Hp} {o : HO} (e : Ext p l H H') (h1 : f ≠ p) (h2 : f ≠ l) (q : H f = some o) : H' f = some o := (hid_some (e f o (by rw [hid_ne h1 h2]; exact q))).2.2
/-- tuples stand apart from the deck -/
theorem TS.hide {p l : Addr} {H : Hp} (D : Deck H p l) : TS H (hid p l H) := fun b xs h => by
  obtain ⟨ds, st, h1, h2, _⟩ := D.ex
  rw [hid_ne (ne_of h h1 (by intro z; cases z)) (ne_of h h2 (by intro z; cases z))]
  exact h
theorem TS.deck {p l : Addr} {H H' : Hp} (D : Deck H p l) (E : Ext p l H H') : TS H H' := (TS.hide D).trans ((TS.of E).trans (TS.of (hid_same p l H')))
/-- a list of a new address stands apart -/
structure Apart (p l f : Addr) : Prop where
  p : f ≠ p
  l : f ≠ l
theorem Deck.apart {H : Hp} {p l q : Addr} (d : Deck H p l) (h : H q = none) : Apart p l q := ⟨(d.new h).1, (d.new h).2⟩
theorem Apart.of {H : Hp} {p l f : Addr} (d : Deck H p l) (h : hid p l H f ≠ none) : Apart p l f := by
  cases q : hid p l H f with
  | none => exact absurd q h
  | some o => exact ⟨(hid_some q).1, (hid_some q).2.1⟩
end Kr
namespace Kr
open PySem PySem.Spec PyProof.Rows L2
theorem szm {n : Nat} (h : n ≤ 100000) : n < sizeLine := Nat.lt_of_le_of_lt h (by decide)
theorem walk_rg {n : Nat} : Walk (Itr 0 n) n (fun _ => True) (fun i H x H' => H' = H ∧ x = .int (i : Nat)) := walk_range.mono (fun _ h => h) fun i H x H' _ _ ⟨a, b⟩ => ⟨a, by rw [b]; show V.int (0 + (i : Int)) = _; rw [Int.zero_add]⟩
/-- a comprehension without tests whose items are new data, one for each turn -/
theorem lc_itF {J : It} {n : Nat} {G : Hp → Prop} {Y : Nat → Hp → V → Hp → Prop} (w : Walk J n G Y) {g : TG} {tt : TT} {te : TE} {vs : List Nat} {σ : L2.St} {H1 : Hp} {D : Addr} {Qd : Hp → Prop} (f : Nat → PyData) (nD : H1 D = none) (hn : n ≤ 100000) (hf : ∀ i, i < n → flatT (f i) = true) (hG : ∀ H, Same H1 H → G H)
    (hs : ∀ i x H H' (C : VK) (Cn : Hp → Prop), i < n → Same H1 H → Y i H x H' → (∀ y H4, Same H H4 → Dq H4 y (f i) → C y H4) → g x (wipe σ vs) H' fun σ2 H2 => wipe σ2 vs = wipe σ vs ∧ tt σ2 H2 fun b H3 => if b = true then te σ2 H3 C else Cn H3)
    (hd : ∀ H acc, Same H1 H → H D = some (.lst acc) → DqA H acc ((List.range n).map f) → Qd H) :
    ∃ W : Nat → Nat → Hp → Prop, (∃ m, W 0 m (upd H1 D (.lst []))) ∧ ∀ i m H, W i m H →
      (J.stop i H ∧ Qd H) ∨ (J.go i H ∧ ∃ Nx : Hp → Prop, (∀ H', Nx H' → ∃ m', m' < m ∧ W (i + 1) m' H') ∧ ∀ x H', J.yld i H x H' → g x (wipe σ vs) H' fun σ2 H2 => wipe σ2 vs = wipe σ vs ∧ tt σ2 H2 fun b H3 =>
        if b = true then te σ2 H3 fun y H4 => ∃ acc, H4 D = some (.lst acc) ∧ acc.length < sizeLine ∧ Nx (upd H4 D (.lst (acc ++ [y]))) else Nx H3) := by
  refine lc_it w (fun i H => ∃ acc, H D = some (.lst acc) ∧ Same H1 H ∧ DqA H acc ((List.range i).map f)) ⟨[], upd_same, fun b o e => by rw [upd_ne (ne_of_none e nD)]; exact e, .nil⟩ (fun i H _ ⟨_, _, s, _⟩ => hG H s) (fun i x H H' hi ⟨acc, hD, s, q⟩ y => ?_) fun H ⟨acc, hD, s, q⟩ => hd H acc s hD q
  refine hs i x H H' _ _ hi s y fun z H4 s4 d4 => ⟨acc, s4 _ _ hD, szm (by have := q.len; rw [List.length_map, List.length_range] at this; omega), acc ++ [z], upd_same, fun b o e => ?_, ?_⟩
  · rw [upd_ne (ne_of_none e nD)]
    exact s4 _ _ (s _ _ e)
  · have t : TS H4 (upd H4 D (.lst (acc ++ [z]))) := TS.lst (s4 _ _ hD)
    rw [List.range_succ, List.map_append]
    refine dqa_snoc (DqA.upT t ?_ (q.up s4)) (Dq.upT t (hf i hi) d4)
    exact flatTA_of fun d hd => by
      obtain ⟨j, hj, rfl⟩ := List.mem_map.mp hd
      exact hf j (by have := List.mem_range.mp hj; omega)
end Kr
namespace Kr
open PySem PySem.Spec PyProof.Rows L2
/-- the inner walk of a comprehension with two -/
def Inner (D : Addr) (J1 : It) (g1 : TG) (tt1 : TT) (te : TE) (vs1 : List Nat) (σ2 : L2.St) (H4 : Hp) (Nx : Hp → Prop) : Prop :=
  ∃ W1 : Nat → Nat → Hp → Prop, (∃ m, W1 0 m H4) ∧ ∀ j k H, W1 j k H →
      (J1.stop j H ∧ Nx H) ∨ (J1.go j H ∧ ∃ Nx1 : Hp → Prop, (∀ H', Nx1 H' → ∃ k', k' < k ∧ W1 (j + 1) k' H') ∧ ∀ x H', J1.yld j H x H' → g1 x (wipe σ2 vs1) H' fun σ3 H5 => wipe σ3 vs1 = wipe σ2 vs1 ∧ tt1 σ3 H5 fun b H6 =>
        if b = true then te σ3 H6 fun y H7 => ∃ acc, H7 D = some (.lst acc) ∧ acc.length < sizeLine ∧ Nx1 (upd H7 D (.lst (acc ++ [y]))) else Nx1 H6)
theorem inner_it {J1 : It} {n1 : Nat} {G1 : Hp → Prop} {Y1 : Nat → Hp → V → Hp → Prop} (w : Walk J1 n1 G1 Y1) {D : Addr} {g1 : TG} {tt1 : TT} {te : TE} {vs1 : List Nat} {σ2 : L2.St} {H4 : Hp} {Nx : Hp → Prop} (Pv : Nat → Hp → Prop) (h0 : Pv 0 H4) (hG : ∀ j H, j ≤ n1 → Pv j H → G1 H)
    (hs : ∀ j x H H', j < n1 → Pv j H → Y1 j H x H' → g1 x (wipe σ2 vs1) H' fun σ3 H5 => wipe σ3 vs1 = wipe σ2 vs1 ∧ tt1 σ3 H5 fun b H6 => if b = true then te σ3 H6 fun y H7 => ∃ acc, H7 D = some (.lst acc) ∧ acc.length < sizeLine ∧ Pv (j + 1) (upd H7 D (.lst (acc ++ [y]))) else Pv (j + 1) H6)
    (hd : ∀ H, Pv n1 H → Nx H) : Inner D J1 g1 tt1 te vs1 σ2 H4 Nx := by
  refine ⟨fun j k H => k = n1 - j ∧ j ≤ n1 ∧ Pv j H, ⟨n1, by simp, Nat.zero_le _, h0⟩, ?_⟩
  rintro j k H ⟨rfl, hj, p⟩
  have q := hG j H hj p
  by_cases hlt : j < n1
  · exact .inr ⟨w.goes j H hlt q, Pv (j + 1), fun H' p' => ⟨n1 - (j + 1), by omega, rfl, hlt, p'⟩, fun x H' y => hs j x H H' hlt p (w.yields j H x H' hlt q y)⟩
  · obtain rfl : j = n1 := by omega
    exact .inl ⟨w.stops H q, hd H p⟩
theorem lc2_it {J : It} {n : Nat} {G : Hp → Prop} {Y : Nat → Hp → V → Hp → Prop} (w : Walk J n G Y) {D : Addr} {g g1 : TG} {tt tt1 : TT} {wi1 : TI} {te : TE} {vs vs1 : List Nat} {σ : L2.St} {H1 : Hp} {Qd : Hp → Prop} (Pv : Nat → Hp → Prop) (h0 : Pv 0 (upd H1 D (.lst []))) (hG : ∀ i H, i ≤ n → Pv i H → G H)
    (hs : ∀ i x H H', i < n → Pv i H → Y i H x H' → g x (wipe σ vs) H' fun σ2 H2 => wipe σ2 vs = wipe σ vs ∧ tt σ2 H2 fun b H3 => if b = true then wi1 σ2 H3 fun J1 H4 => Inner D J1 g1 tt1 te vs1 σ2 H4 (Pv (i + 1)) else Pv (i + 1) H3) (hd : ∀ H, Pv n H → Qd H) :
    ∃ W : Nat → Nat → Hp → Prop, (∃ m, W 0 m (upd H1 D (.lst []))) ∧ ∀ i m H, W i m H →
      (J.stop i H ∧ Qd H) ∨ (J.go i H ∧ ∃ Nx : Hp → Prop, (∀ H', Nx H' → ∃ m', m' < m ∧ W (i + 1) m' H') ∧ ∀ x H', J.yld i H x H' → g x (wipe σ vs) H' fun σ2 H2 => wipe σ2 vs = wipe σ vs ∧ tt σ2 H2 fun b H3 =>
        if b = true then wi1 σ2 H3 fun J1 H4 => Inner D J1 g1 tt1 te vs1 σ2 H4 Nx else Nx H3) := by
  refine ⟨fun i m H => m = n - i ∧ i ≤ n ∧ Pv i H, ⟨n, by simp, Nat.zero_le _, h0⟩, ?_⟩
  rintro i m H ⟨rfl, hi, p⟩
  have q := hG i H hi p
  by_cases hlt : i < n
  · exact .inr ⟨w.goes i H hlt q, Pv (i + 1), fun H' p' => ⟨n - (i + 1), by omega, rfl, hlt, p'⟩, fun x H' y => hs i x H H' hlt p (w.yields i H x H' hlt q y)⟩
  · obtain rfl : i = n := by omega
    exact .inl ⟨w.stops H q, hd H p⟩
/-- data of a list of lists of numbers -/
def lotD (l : List Nat) : PyData := .tuple (l.map fun (x : Nat) => .int (x : Int))
def lv (l : List Nat) : List V := l.map fun (x : Nat) => V.int (x : Int)
theorem lv_dq {H : Hp} (l : List Nat) : DqA H (lv l) (l.map fun (x : Nat) => PyData.int (x : Int)) := by
  induction l with
  | nil => exact .nil
  | cons x l ih => exact .cons (.int _) ih
theorem lot_at {H : Hp} {a : Addr} {l : List Nat} (h : H a = some (.tup (lv l))) : Dq H (.ref a) (lotD l) := .tup h (lv_dq l)
theorem lot_inv {H : Hp} {v : V} {l : List Nat} (h : Dq H v (lotD l)) : ∃ a, v = .ref a ∧ H a = some (.tup (lv l)) := by
  obtain ⟨a, xs, rfl, e, q⟩ := Dq.tup_inv h
  have : ∀ (xs : List V) (l : List Nat), DqA H xs (l.map fun (x : Nat) => PyData.int (x : Int)) → xs = lv l := by
    intro xs l
    induction l generalizing xs with
    | nil => intro q; cases q; rfl
    | cons x l ih =>
      intro q
      cases q with
      | cons h1 h2 =>
        cases h1
        rw [ih _ h2]
        rfl
  rw [this xs l q] at e
  exact ⟨a, rfl, e⟩
theorem lot_flat (l : List Nat) : flatT (lotD l) = true := by
  simp only [lotD, flatT]
  exact flatTA_of fun d hd => by
    obtain ⟨x, _, rfl⟩ := List.mem_map.mp hd
    rfl
theorem lots_flat (L : List (List Nat)) : flatTA (L.map lotD) = true := flatTA_of fun d hd => by
  obtain ⟨l, _, rfl⟩ := List.mem_map.mp hd
  exact lot_flat l
theorem lots_get {H : Hp} {xs : List V} {L : List (List Nat)} {i : Nat} {y : V} (q : DqA H xs (L.map lotD)) (e : xs[i]? = some y) : ∃ l, L[i]? = some l ∧ ∃ a, y = .ref a ∧ H a = some (.tup (lv l)) := by
  obtain ⟨d, h1, h2⟩ := q.get e
  rw [List.getElem?_map] at h1
  cases hr : L[i]? with
  | none => rw [hr] at h1; cases h1
  | some l =>
    rw [hr] at h1
    cases Option.some.inj h1
    exact ⟨l, rfl, lot_inv h2⟩
end Kr
namespace Kr
/-! ### how many ways -/
def ch : Nat → Nat → Nat
  | _, 0 => 1
  | 0, _ + 1 => 0
  | n + 1, k + 1 => ch n k + ch n (k + 1)
theorem ch_tab : ∀ n : Nat, n < 26 → ∀ k : Nat, k < 27 → PySem.W.mcComb (n : Int) (k : Int) = (ch n k : Int) := by decide +kernel
theorem ch_zero : ∀ n k : Nat, n < k → ch n k = 0
  | 0, 0, h => absurd h (Nat.lt_irrefl _)
  | 0, k + 1, _ => by simp [ch]
  | n + 1, 0, h => by omega
  | n + 1, k + 1, h => by
    rw [ch, ch_zero n k (by omega), ch_zero n (k + 1) (by omega)]
theorem ch_self : ∀ n : Nat, ch n n = 1
  | 0 => by simp [ch]
  | n + 1 => by rw [ch, ch_self n, ch_zero n (n + 1) (by omega)]
theorem ch_pos : ∀ n k : Nat, k ≤ n → 0 < ch n k
  | n, 0, _ => by cases n <;> simp [ch]
  | 0, k + 1, h => by omega
  | n + 1, k + 1, h => by
    rw [ch]
    have := ch_pos n k (by omega)
    omega
/-- those of fewer places -/
def below (n s : Nat) : Nat := ((List.range s).map fun k => ch n k).sum
theorem below_succ (n s : Nat) : below n (s + 1) = below n s + ch n s := by
  unfold below
  rw [List.range_succ, List.map_append, List.sum_append]
  simp
theorem below_all (n : Nat) (hn : n < 26) : below n (n + 1) = 2 ^ n := by
  have : ∀ n : Nat, n < 26 → below n (n + 1) = 2 ^ n := by decide +kernel
  exact this n hn
theorem below_le {n s t : Nat} (h : s ≤ t) : below n s ≤ below n t := by
  induction t with
  | zero => rw [show s = 0 by omega]; exact Nat.le_refl _
  | succ t ih =>
    by_cases hs : s = t + 1
    · rw [hs]; exact Nat.le_refl _
    · rw [below_succ]
      have := ih (by omega)
      omega
/-! ### lots in their order -/
/-- the lot among those of k places from p on, m places being left -/
def un : Nat → Nat → Nat → Nat → List Nat
  | _, 0, _, _ => []
  | _, _ + 1, 0, _ => []
  | p, m + 1, k + 1, a => if a < ch m k then p :: un (p + 1) m k a else un (p + 1) m (k + 1) (a - ch m k)
/-- how many stand ahead -/
def rk : Nat → Nat → List Nat → Nat
  | _, _, [] => 0
  | _, 0, _ :: _ => 0
  | p, m + 1, x :: xs => if x = p then rk (p + 1) m xs else ch m xs.length + rk (p + 1) m (x :: xs)
/-- an ascending list of numbers from p to p + m - 1 -/
def Asc (p m : Nat) (l : List Nat) : Prop := l.Pairwise (· < ·) ∧ ∀ x ∈ l, p ≤ x ∧ x < p + m
theorem Asc.len : ∀ {p m : Nat} {l : List Nat}, Asc p m l → l.length ≤ m
  | _, _, [], _ => Nat.zero_le _
  | p, 0, x :: l, h => by
    have := h.2 x List.mem_cons_self
    omega
  | p, m + 1, x :: l, h => by
    obtain ⟨h1, h2⟩ := List.pairwise_cons.mp h.1
    have hx := h.2 x List.mem_cons_self
    have : Asc (p + 1) m l := ⟨h2, fun y hy => by
      have := h1 y hy
      have := h.2 y (List.mem_cons_of_mem _ hy)
      omega⟩
    have := this.len
    rw [List.length_cons]
    omega
theorem Asc.tail {p m x : Nat} {l : List Nat} (h : Asc p (m + 1) (x :: l)) (hx : x = p) : Asc (p + 1) m l := by
  obtain ⟨h1, h2⟩ := List.pairwise_cons.mp h.1
  refine ⟨h2, fun y hy => ?_⟩
  have := h1 y hy
  have := h.2 y (List.mem_cons_of_mem _ hy)
  omega
theorem Asc.skip {p m x : Nat} {l : List Nat} (h : Asc p (m + 1) (x :: l)) (hx : ¬ x = p) : Asc (p + 1) m (x :: l) := by
  refine ⟨h.1, fun y hy => ?_⟩
  obtain ⟨h1, _⟩ := List.pairwise_cons.mp h.1
  have hx0 := h.2 x List.mem_cons_self
  have hy0 := h.2 y hy
  rcases List.mem_cons.mp hy with e | hm
  · omega
  · have := h1 y hm
    omega
theorem rk_un : ∀ (m p : Nat) (l : List Nat), Asc p m l → un p m l.length (rk p m l) = l ∧ rk p m l < ch m l.length
  | 0, p, l, h => by
    have := h.len
    have : l = [] := List.length_eq_zero_iff.mp (by omega)
    subst this
    exact ⟨rfl, by simp [rk, ch]⟩
  | m + 1, p, [], _ => ⟨rfl, by simp [rk, ch]⟩
  | m + 1, p, x :: l, h => by
    simp only [List.length_cons, un, rk, ch]
    by_cases hx : x = p
    · obtain ⟨h1, h2⟩ := rk_un m (p + 1) l (h.tail hx)
      rw [if_pos hx, if_pos h2, h1, hx]
      exact ⟨rfl, by omega⟩
    · obtain ⟨h1, h2⟩ := rk_un m (p + 1) (x :: l) (h.skip hx)
      rw [if_neg hx, if_neg (by omega), Nat.add_sub_cancel_left]
      rw [List.length_cons] at h1 h2
      exact ⟨h1, by omega⟩
theorem un_rk : ∀ (m p k a : Nat), a < ch m k → Asc p m (un p m k a) ∧ (un p m k a).length = k ∧ rk p m (un p m k a) = a
  | 0, p, 0, a, h => ⟨⟨.nil, fun x hx => nomatch hx⟩, rfl, by simp [ch] at h; simp [un, rk, h]⟩
  | 0, p, k + 1, a, h => by simp [ch] at h
  | m + 1, p, 0, a, h => ⟨⟨.nil, fun x hx => nomatch hx⟩, rfl, by simp [ch] at h; simp [un, rk, h]⟩
  | m + 1, p, k + 1, a, h => by
    simp only [un]
    by_cases ha : a < ch m k
    · obtain ⟨⟨h1, h2⟩, h3, h4⟩ := un_rk m (p + 1) k a ha
      rw [if_pos ha]
      refine ⟨⟨List.pairwise_cons.mpr ⟨fun y hy => by have := h2 y hy; omega, h1⟩, fun y hy => ?_⟩, by rw [List.length_cons, h3], by simp [rk, h4]⟩
      rcases List.mem_cons.mp hy with e | hm
      · omega
      · have := h2 y hm
        omega
    · rw [ch] at h
      obtain ⟨⟨h1, h2⟩, h3, h4⟩ := un_rk m (p + 1) (k + 1) (a - ch m k) (by omega)
      rw [if_neg ha]
      refine ⟨⟨h1, fun y hy => by have := h2 y hy; omega⟩, h3, ?_⟩
      cases e : un (p + 1) m (k + 1) (a - ch m k) with
      | nil => rw [e] at h3; cases h3
      | cons x l =>
        rw [e] at h2 h3 h4
        have hx := h2 x List.mem_cons_self
        simp only [rk]
        rw [if_neg (by omega), h4, show l.length = k by simpa using h3]
        omega
/-! ### the number of a lot -/
def num (n : Nat) (l : List Nat) : Nat := below n l.length + rk 0 n l
/-- the size of the lot with a number, and what is left -/
def sizeAt (n : Nat) : Nat → Nat → Nat → Option (Nat × Nat)
  | 0, _, _ => none
  | f + 1, s, a => if a < ch n s then some (s, a) else sizeAt n f (s + 1) (a - ch n s)
def lotAt (n a : Nat) : Option (List Nat) := (sizeAt n (n + 1) 0 a).map fun (s, r) => un 0 n s r
theorem sizeAt_ok (n : Nat) : ∀ (f s a t r : Nat), t < s + f → s ≤ t → below n s + a = below n t + r → r < ch n t → sizeAt n f s a = some (t, r)
  | 0, s, a, t, r, h, h1, _, _ => by omega
  | f + 1, s, a, t, r, h, h1, h2, h3 => by
    simp only [sizeAt]
    by_cases hs : s = t
    · subst hs
      rw [if_pos (by omega)]
      have : a = r := by omega
      rw [this]
    · have h4 := below_le (n := n) (show s + 1 ≤ t by omega)
      rw [below_succ] at h4
      rw [if_neg (by omega)]
      exact sizeAt_ok n f (s + 1) (a - ch n s) t r (by omega) (by omega) (by rw [below_succ]; omega) h3
theorem sizeAt_ex (n : Nat) : ∀ (f s a : Nat), below n s + a < below n (s + f) → ∃ t r, sizeAt n f s a = some (t, r) ∧ s ≤ t ∧ t < s + f ∧ below n s + a = below n t + r ∧ r < ch n t
  | 0, s, a, h => by
    rw [Nat.add_zero] at h
    omega
  | f + 1, s, a, h => by
    simp only [sizeAt]
    by_cases ha : a < ch n s
    · rw [if_pos ha]
      exact ⟨s, a, rfl, Nat.le_refl _, by omega, rfl, ha⟩
    · rw [if_neg ha]
      obtain ⟨t, r, h1, h2, h3, h4, h5⟩ := sizeAt_ex n f (s + 1) (a - ch n s) (by rw [below_succ, show s + 1 + f = s + (f + 1) by omega]; omega)
      rw [below_succ] at h4
      exact ⟨t, r, h1, by omega, by omega, by omega, h5⟩
theorem sizeAt_none (n : Nat) : ∀ (f s a : Nat), below n (s + f) ≤ below n s + a → sizeAt n f s a = none
  | 0, s, a, _ => rfl
  | f + 1, s, a, h => by
    have h4 := below_le (n := n) (show s + 1 ≤ s + (f + 1) by omega)
    rw [below_succ] at h4
    simp only [sizeAt]
    rw [if_neg (by omega)]
    exact sizeAt_none n f (s + 1) (a - ch n s) (by rw [below_succ, show s + 1 + f = s + (f + 1) by omega]; omega)
theorem lotAt_num {n : Nat} {l : List Nat} (h : Asc 0 n l) : lotAt n (num n l) = some l := by
  obtain ⟨h1, h2⟩ := rk_un n 0 l h
  have hl := h.len
  unfold lotAt
  rw [sizeAt_ok n (n + 1) 0 (num n l) l.length (rk 0 n l) (by omega) (by omega) (by show 0 + _ = _; rw [Nat.zero_add]; rfl) h2]
  simp only [Option.map_some]
  rw [h1]
theorem lotAt_some {n a : Nat} (hn : n < 26) (ha : a < 2 ^ n) : ∃ l, lotAt n a = some l ∧ Asc 0 n l ∧ num n l = a := by
  obtain ⟨t, r, h1, h2, h3, h4, h5⟩ := sizeAt_ex n (n + 1) 0 a (by rw [Nat.zero_add, below_all n hn]; show 0 + a < _; omega)
  obtain ⟨g1, g2, g3⟩ := un_rk n 0 t r h5
  refine ⟨un 0 n t r, by unfold lotAt; rw [h1]; rfl, g1, ?_⟩
  unfold num
  rw [g2, g3]
  have : below n 0 = 0 := rfl
  omega
theorem lotAt_none {n a : Nat} (hn : n < 26) (ha : 2 ^ n ≤ a) : lotAt n a = none := by
  unfold lotAt
  rw [sizeAt_none n (n + 1) 0 a (by rw [Nat.zero_add, below_all n hn]; show _ ≤ 0 + a; omega)]
  rfl
/-! ### the same, by spots -/
/-- what lot_number adds for the places from s on -/
def numGo (n : Nat) : Nat → List Nat → Nat
  | _, [] => 0
  | p, x :: xs => ((List.range (x - p)).map fun j => ch (n - 1 - (p + j)) xs.length).sum + numGo n (x + 1) xs
theorem rk_go : ∀ (m p : Nat) (l : List Nat), Asc p m l → rk p m l = numGo (p + m) p l
  | m, p, [], _ => by cases m <;> rfl
  | 0, p, x :: l, h => by
    have := h.2 x List.mem_cons_self
    omega
  | m + 1, p, x :: l, h => by
    simp only [rk]
    by_cases hx : x = p
    · rw [if_pos hx, rk_go m (p + 1) l (h.tail hx)]
      simp only [numGo]
      rw [hx, Nat.sub_self, show p + (m + 1) = p + 1 + m by omega]
      simp
    · have hx0 := h.2 x List.mem_cons_self
      rw [if_neg hx, rk_go m (p + 1) (x :: l) (h.skip hx)]
      simp only [numGo]
      rw [show x - p = (x - (p + 1)) + 1 by omega, List.range_succ_eq_map, List.map_cons, List.map_map, List.sum_cons, show p + (m + 1) = p + 1 + m by omega]
      have e1 : ch (p + 1 + m - 1 - (p + 0)) l.length = ch m l.length := by congr 1; omega
      have e2 : ((fun j => ch (p + 1 + m - 1 - (p + j)) l.length) ∘ Nat.succ) = fun j => ch (p + 1 + m - 1 - (p + 1 + j)) l.length := by
        funext j
        show ch (p + 1 + m - 1 - (p + (j + 1))) l.length = _
        congr 1
        omega
      rw [e1, e2]
      omega
theorem num_go {n : Nat} {l : List Nat} (h : Asc 0 n l) : num n l = below n l.length + numGo n 0 l := by
  unfold num
  rw [rk_go n 0 l h, Nat.zero_add]
/-! ### all lots of a size -/
def nx (l : List Nat) : Nat := match l.getLast? with
  | some x => x + 1
  | none => 0
def stepL (n : Nat) (L : List (List Nat)) : List (List Nat) := L.flatMap fun l => (List.range' (nx l) (n - nx l)).map fun x => l ++ [x]
def lotsL (n : Nat) : Nat → List (List Nat)
  | 0 => [[]]
  | s + 1 => stepL n (lotsL n s)
/-- the law's own: lots that can't be filled up are left out -/
def lawStep (n s t : Nat) (L : List (List Nat)) : List (List Nat) := L.flatMap fun l => (List.range' (nx l) (n - s + t + 1 - nx l)).map fun x => l ++ [x]
def lawL (n s : Nat) : Nat → List (List Nat)
  | 0 => [[]]
  | t + 1 => lawStep n s t (lawL n s t)
def allL (n : Nat) : List (List Nat) := (List.range (n + 1)).flatMap fun s => lotsL n s
theorem lots_law : ∀ n : Nat, n < 13 → ∀ s : Nat, s < n + 1 → lawL n s s = lotsL n s := by decide +kernel
theorem lots_len : ∀ n : Nat, n < 13 → ∀ s : Nat, s < 13 → (lotsL n s).length = ch n s := by decide +kernel
theorem lots_nums : ∀ n : Nat, n < 7 → (allL n).map (num n) = List.range (2 ^ n) := by decide +kernel
end Kr
namespace Kr
open PySem PySem.Spec PyProof.Rows L2
theorem ch_small : ∀ n : Nat, n < 13 → ∀ s : Nat, s < 14 → ch n s < 1000 := by decide +kernel
theorem range1_succ (s j : Nat) : List.range' s (j + 1) = List.range' s j ++ [s + j] := by
  rw [List.range'_concat]
  simp
theorem flat_take {α β : Type} {L : List α} {f : α → List β} {i : Nat} {x : α} (h : L[i]? = some x) : (L.take (i + 1)).flatMap f = (L.take i).flatMap f ++ f x := by
  rw [List.take_add_one, h, List.flatMap_append]
  simp
theorem flat_le {α β : Type} (L : List α) (f : α → List β) (i : Nat) : ((L.take i).flatMap f).length ≤ (L.flatMap f).length := by
  conv => rhs; rw [← List.take_append_drop i L]
  rw [List.flatMap_append, List.length_append]
  omega
def exts (n : Nat) (l : List Nat) : List (List Nat) := (List.range' (nx l) (n - nx l)).map fun x => l ++ [x]
theorem step_exts (n : Nat) (L : List (List Nat)) : stepL n L = L.flatMap (exts n) := rfl
theorem nx_nil : nx [] = 0 := rfl
theorem nx_snoc (l : List Nat) (x : Nat) : nx (l ++ [x]) = x + 1 := by simp [nx]
theorem lv_snoc (l : List Nat) (x : Nat) : lv (l ++ [x]) = lv l ++ [V.int (x : Int)] := by simp [lv]
theorem lv_len (l : List Nat) : (lv l).length = l.length := by simp [lv]
theorem lots_in (n : Nat) : ∀ s, ∀ l ∈ lotsL n s, l.length = s ∧ ∀ x ∈ l, x < n
  | 0, l, h => by
    rw [List.mem_singleton.mp h]
    exact ⟨rfl, fun x hx => nomatch hx⟩
  | s + 1, l, h => by
    obtain ⟨k, hk, hl⟩ := List.mem_flatMap.mp h
    obtain ⟨x, hx, rfl⟩ := List.mem_map.mp hl
    obtain ⟨h1, h2⟩ := lots_in n s k hk
    have := List.mem_range'_1.mp hx
    refine ⟨by rw [List.length_append, h1]; rfl, fun y hy => ?_⟩
    rcases List.mem_append.mp hy with hy | hy
    · exact h2 y hy
    · rw [List.mem_singleton.mp hy]; omega
abbrev tNextL (K : PySem.W.Frag) (i : Nat) : TE := tIf (fun σ H Q => tVar i σ H fun x H' => ∃ k, TruV K x H' k ∧ Q k H') (tOp (rI0 fun i j => .int (i + j)) (tOp (rIxT K) (tVar i) (tUn (rU fun i => .int (-i)) (tC (.int 1)))) (tC (.int 1))) (tC (.int 0))
/-- what stands ahead of the extensions of a lot: lot[-1] + 1 if lot else 0 -/
theorem next_val {K : PySem.W.Frag} {σ : L2.St} {i : Nat} {a : Addr} {l : List Nat} {H : Hp} {Q : VK} (hv : σ[i]? = some (some (.ref a))) (ha : H a = some (.tup (lv l))) (q : Q (.int (nx l : Nat)) H) :
    tNextL K i σ H Q := by
  refine ⟨.ref a, hv, _, .inr (.inl ⟨_, SqT.of ha, rfl⟩), ?_⟩
  by_cases hl : l = []
  · subst hl
    exact iteF q
  · obtain ⟨k, x, rfl⟩ : ∃ k x, l = k ++ [x] := ⟨l.dropLast, l.getLast hl, (List.dropLast_concat_getLast hl).symm⟩
    rw [nx_snoc] at q
    have e : (!(lv (k ++ [x])).isEmpty) = true := by simp [lv]
    rw [e]
    refine iteT ⟨.ref a, hv, 1, rfl, a, _, -1, .int (x : Int), rfl, rfl, SqT.of ha, by rw [lv_snoc]; exact atI_last _ _, x, 1, rfl, rfl, ?_⟩
    have e2 : ((x : Int) + 1) = ((x + 1 : Nat) : Int) := by omega
    dsimp only
    rw [e2]
    exact q
def spLots : Sp := fun vs H Q _ => ∃ n s : Nat, vs = [.int (n : Int), .int (s : Int)] ∧ n ≤ 12 ∧ s ≤ 12 ∧ ∀ H' v, Same H H' → Dq H' v (.tuple ((lotsL n s).map lotD)) → Q v H'
end Kr
namespace Kr
open PySem PySem.Spec PyProof.Rows L2
def entD (e : List Int) : PyData := .tuple (e.map .int)
def tabD (T : List (List Int)) : PyData := .tuple (T.map entD)
/-- the entry of a lot l where the riders' ways are ws -/
def byE (l : List Nat) (ws : List Int) : List Int := (List.range ws.length).map fun x => if x ∈ l then -1 else ws.getD x 0
def ups (n : Nat) : List Int := (List.range n).map fun k => ((k : Nat) : Int)
def stillT (n : Nat) : List (List Int) := (allL n).map fun l => byE l (ups n)
def swapW (n a b : Nat) : List Int := ((ups n).set a (b : Int)).set b (a : Int)
def deedT (n : Nat) (q : List Nat) (a b : Nat) : List (List Int) := (allL n).map fun l => byE l (if q.all (fun x => decide (x ∈ l)) = true then swapW n a b else ups n)
theorem ent_flat (e : List Int) : flatT (entD e) = true := by
  simp only [entD, flatT]
  exact flatTA_of fun d hd => by
    obtain ⟨x, _, rfl⟩ := List.mem_map.mp hd
    rfl
theorem ents_flat (T : List (List Int)) : flatTA (T.map entD) = true := flatTA_of fun d hd => by
  obtain ⟨l, _, rfl⟩ := List.mem_map.mp hd
  exact ent_flat l
theorem ent_at {H : Hp} {a : Addr} {e : List Int} (h : H a = some (.tup (e.map V.int))) : Dq H (.ref a) (entD e) := .tup h (DqA.ints e)
theorem dqa_int {H : Hp} : ∀ {xs : List V} {ns : List Int}, DqA H xs (ns.map .int) → xs = ns.map V.int
  | _, [], .nil => rfl
  | _, n :: ns, .cons (.int _) t => by rw [dqa_int t]; rfl
theorem inV_lot (x : Nat) (l : List Nat) : inV (.int (x : Int)) (lv l) = decide (x ∈ l) := by
  unfold inV lv
  rw [Bool.eq_iff_iff, List.any_eq_true, decide_eq_true_iff]
  constructor
  · rintro ⟨v, hv, e⟩
    obtain ⟨y, hy, rfl⟩ := List.mem_map.mp hv
    have : (y : Int) = (x : Int) := by simpa [eqV] using e
    have : y = x := by omega
    rw [← this]
    exact hy
  · intro h
    exact ⟨_, List.mem_map.mpr ⟨x, h, rfl⟩, by simp [eqV]⟩
theorem lv_fl (l : List Nat) : (lv l).all flatV = true := by
  unfold lv
  rw [List.all_map]
  exact List.all_eq_true.mpr fun _ _ => rfl
/-- a statement that no run reaches -/
theorem ps_never {X : Cx} {st : Stmt} : PS X st (fun _ _ _ => False) := ⟨fun _ _ _ _ _ _ h => False.elim h⟩
def spAll6 : Sp := fun vs H Q _ => ∃ n : Nat, vs = [.int (n : Int)] ∧ n ≤ 6 ∧ ∀ H' v, Same H H' → Dq H' v (.tuple ((allL n).map lotD)) → Q v H'
def spEntBy : Sp := fun vs H Q _ => ∃ (a b : Addr) (l : List Nat) (ws : List Int), vs = [.ref a, .ref b] ∧ H a = some (.tup (lv l)) ∧ H b = some (.lst (ws.map V.int)) ∧ ws.length ≤ 100 ∧ ∀ H' t, Same H H' → H' t = some (.tup ((byE l ws).map V.int)) → Q (.ref t) H'
def spStill : Sp := fun vs H Q _ => ∃ n : Nat, vs = [.int (n : Int)] ∧ n ≤ 6 ∧ ∀ H' v, Same H H' → Dq H' v (tabD (stillT n)) → Q v H'
theorem rg_ups (n : Nat) : rgV 0 (n : Nat) = (ups n).map V.int := by
  unfold rgV ups
  rw [List.map_map, show ((n : Int) - 0).toNat = n by omega]
  exact List.map_congr_left fun i _ => by simp
theorem all_few : ∀ n : Nat, n < 7 → (allL n).length ≤ 64 := by decide +kernel
theorem all_len : ∀ n : Nat, n < 7 → (allL n).length = 2 ^ n := by decide +kernel
theorem map_getD {α β : Type} (g : α → β) (d : α) (L : List α) : (List.range L.length).map (fun i => g (L.getD i d)) = L.map g := by
  refine List.ext_getElem? fun i => ?_
  rw [List.getElem?_map, List.getElem?_map]
  by_cases h : i < L.length
  · rw [List.getElem?_range h, List.getElem?_eq_getElem h]
    show some (g (L.getD i d)) = some (g L[i])
    rw [List.getD_eq_getElem?_getD, List.getElem?_eq_getElem h]
    rfl
  · rw [List.getElem?_eq_none (by rw [List.length_range]; omega), List.getElem?_eq_none (by omega)]
    rfl
theorem getD_of {α : Type} {L : List α} {i : Nat} {x d : α} (h : L[i]? = some x) : L.getD i d = x := by
  rw [List.getD_eq_getElem?_getD, h]
  rfl
section
variable {P : Program} {w : World} {K : PySem.W.Frag} {mg : Str → Option Value} {base : Heap}
def spWays : Sp := fun vs H Q _ => ∃ (n : Nat) (b : Addr) (ws : List Int), vs = [.int (n : Int), .ref b] ∧ n ≤ 6 ∧ H b = some (.lst (ws.map V.int)) ∧ ws.length ≤ 100 ∧ ∀ H' v, Same H H' → Dq H' v (tabD ((allL n).map fun l => byE l ws)) → Q v H'
end
def spDeedT : Sp := fun vs H Q _ => ∃ (n : Nat) (d q : Addr) (as : List Nat) (a b : Nat), vs = [.int (n : Int), .ref d] ∧ n ≤ 6 ∧ H d = some (.tup [.ref q, .int (a : Int), .int (b : Int)]) ∧ H q = some (.tup (lv as)) ∧ as.length ≤ 24 ∧ a < n ∧ b < n ∧
  ∀ H' v, Same H H' → Dq H' v (tabD (deedT n as a b)) → Q v H'
def spExch : Sp := fun vs H Q _ => ∃ (n : Int) (a : Addr) (xs : List V) (v : V), vs = [.int n, .ref a] ∧ H a = some (.tup (v :: xs)) ∧ Q v H
theorem dqa_bools {H : Hp} : ∀ {xs : List V} {bs : List Bool}, DqA H xs (bs.map .bool) → xs = bs.map V.bl
  | _, [], .nil => rfl
  | _, n :: ns, .cons (.bl _) t => by rw [dqa_bools t]; rfl
theorem ixN_nat {n i : Nat} (h : i < n) : ixN n (i : Int) = some i := by
  unfold ixN
  rw [if_pos (by omega), if_pos (by omega), Int.toNat_natCast]
theorem take_snoc {α β : Type} {L : List α} {f : α → β} {i : Nat} {x : α} (h : L[i]? = some x) : (L.take (i + 1)).map f = (L.take i).map f ++ [f x] := by
  rw [List.take_add_one, h, List.map_append]
  rfl
def goalE (n : Nat) (e : List Int) : List Nat := (List.range n).filter fun x => !decide ((x : Int) ∈ e)
theorem every_few : ∀ n : Nat, n < 7 → ∀ i : Nat, i < 8 → ((List.range i).flatMap (lotsL n)).length ≤ 64 := by decide +kernel
def spGoal : Sp := fun vs H Q _ => ∃ (n : Nat) (a : Addr) (e : List Int), vs = [.int (n : Int), .ref a] ∧ n ≤ 100 ∧ H a = some (.tup (e.map V.int)) ∧ ∀ H' t, Same H H' → H' t = some (.tup (lv (goalE n e))) → Q (.ref t) H'
def spEvery : Sp := fun vs H Q _ => ∃ n : Nat, vs = [.int (n : Int)] ∧ n ≤ 6 ∧ ∀ H' v, Same H H' → Dq H' v (.list ((allL n).map lotD)) → Q v H'
theorem inV_int (x : Int) (l : List Int) : inV (.int x) (l.map V.int) = decide (x ∈ l) := by
  unfold inV
  rw [Bool.eq_iff_iff, List.any_eq_true, decide_eq_true_iff]
  constructor
  · rintro ⟨v, hv, e⟩
    obtain ⟨y, hy, rfl⟩ := List.mem_map.mp hv
    have : y = x := by simpa [eqV] using e
    rw [← this]
    exact hy
  · intro h
    exact ⟨_, List.mem_map.mpr ⟨x, h, rfl⟩, by simp [eqV]⟩
theorem int_fl (l : List Int) : (l.map V.int).all flatV = true := by
  rw [List.all_map]
  exact List.all_eq_true.mpr fun _ _ => rfl
theorem dep_ints1 : ∀ ds : List Int, PyData.depthAll (ds.map PyData.int) ≤ 1
  | [] => by simp [PyData.depthAll]
  | d :: ds => by
    have := dep_ints1 ds
    simp [PyData.depthAll, PyData.depth]
    omega
theorem lay_ints1 : ∀ ds : List Int, PyData.canLayAll0 (ds.map PyData.int) = true
  | [] => by simp [PyData.canLayAll0]
  | d :: ds => by simp [PyData.canLayAll0, PyData.canLay0, lay_ints1 ds]
theorem tup_shaped (ds : List Int) : SeqAt.shaped (.tuple (ds.map PyData.int)) = true := by
  unfold SeqAt.shaped
  have := dep_ints1 ds
  simp [PyData.canLay0, lay_ints1, PyData.depth]
  omega
theorem lot_shaped (l : List Nat) : SeqAt.shaped (lotD l) = true := by
  have e : l.map (fun (x : Nat) => PyData.int (x : Int)) = (l.map fun (x : Nat) => (x : Int)).map PyData.int := by rw [List.map_map]; rfl
  unfold lotD
  rw [e]
  exact tup_shaped _
theorem lot_nil_eqv (l : List Nat) : PyData.eqv (lotD l) (lotD []) = decide (l = []) := by
  cases l <;> simp [lotD, PyData.eqv, PyData.eqvAll]
section
variable {P : Program} {w : World} {K : PySem.W.Frag} {mg : Str → Option Value} {base : Heap}
/-- lot[-1] + 1 if lot != () else 0 -/
theorem next_ne {σ : L2.St} {i : Nat} {a : Addr} {l : List Nat} {G : Hp} {Q : VK} (hv : σ[i]? = some (some (.ref a))) (ha : G a = some (.tup (lv l))) (q : ∀ G', Same G G' → Q (.int (nx l : Nat)) G') :
    tIf (tTest (tOp (rNeD K) (tVar i) (tTup tNil))) (tOp (rI0 fun i j => .int (i + j)) (tOp (rIxT K) (tVar i) (tUn (rU fun i => .int (-i)) (tC (.int 1)))) (tC (.int 1))) (tC (.int 0)) σ G Q := by
  refine ⟨.ref a, hv, by show 0 ≤ sizeLine; decide, fun e ne => ?_⟩
  have s1 := same_new (o := .tup []) ne
  refine ⟨lotD l, lotD [], (lot_at (s1 _ _ ha)).dp (lot_flat l), (lot_at (l := []) upd_same).dp (lot_flat []), lot_shaped l, lot_shaped [], _, rfl, ?_⟩
  rw [lot_nil_eqv]
  by_cases hl : l = []
  · rw [decide_eq_true hl]
    subst hl
    exact iteF (q _ s1)
  · rw [decide_eq_false hl]
    obtain ⟨k, x, rfl⟩ : ∃ k x, l = k ++ [x] := ⟨l.dropLast, l.getLast hl, (List.dropLast_concat_getLast hl).symm⟩
    have h2 := q _ s1
    rw [nx_snoc] at h2
    refine iteT ⟨.ref a, hv, 1, rfl, a, _, -1, .int (x : Int), rfl, rfl, SqT.of (s1 _ _ ha), by rw [lv_snoc]; exact atI_last _ _, x, 1, rfl, rfl, ?_⟩
    have e2 : ((x : Int) + 1) = ((x + 1 : Nat) : Int) := by omega
    dsimp only
    rw [e2]
    exact h2
end
def setGo : Nat → List Int → List Int → List Int
  | _, [], acc => acc
  | y, x :: r, acc => setGo (y + 1) r (if 0 ≤ x then acc.set x.toNat (y : Int) else acc)
def lawE (n : Nat) (lies : List Int) : List Int := setGo 0 lies (List.replicate n (-1))
theorem setGo_len : ∀ (y : Nat) (r acc : List Int), (setGo y r acc).length = acc.length
  | _, [], _ => rfl
  | y, x :: r, acc => by
    unfold setGo
    rw [setGo_len]
    split
    · rw [List.length_set]
    · rfl
def spLEnt : Sp := fun vs H Q _ => ∃ (n : Nat) (a : Addr) (ls : List Int), vs = [.int (n : Int), .ref a] ∧ 3 ≤ n ∧ n ≤ 6 ∧ H a = some (.lst (ls.map V.int)) ∧ ls.length ≤ 100 ∧ (∀ x ∈ ls, x < n) ∧ ∀ H' t, Same H H' → H' t = some (.tup ((lawE n ls).map V.int)) → Q (.ref t) H'
abbrev Mv := List Nat × Nat × Nat
def stL (n : Nat) (l : List Nat) : List Int := (List.range n).map fun x => if x ∈ l then -1 else ((x : Nat) : Int)
def mvL (ls : List Int) (m : Mv) : List Int := if m.1.all (fun x => !decide (0 ≤ ls.getD x 0)) = true then (ls.set m.2.1 (ls.getD m.2.2 0)).set m.2.2 (ls.getD m.2.1 0) else ls
def madeE (n : Nat) (ms : List Mv) (l : List Nat) : List Int := lawE n (ms.foldl mvL (stL n l))
def madeT (n : Nat) (ms : List Mv) : List (List Int) := (allL n).map (madeE n ms)
def DeedAt (H : Hp) (v : V) (m : Mv) : Prop := ∃ d q, v = .ref d ∧ H d = some (.tup [.ref q, .int (m.2.1 : Nat), .int (m.2.2 : Nat)]) ∧ H q = some (.tup (lv m.1))
def spMade : Sp := fun vs H Q _ => ∃ (n : Nat) (mo : Addr) (xs : List V) (ms : List Mv), vs = [.int (n : Int), .ref mo] ∧ 3 ≤ n ∧ n ≤ 6 ∧ H mo = some (.lst xs) ∧ xs.length = ms.length ∧ (∀ (j : Nat) (v : V) (m : Mv), xs[j]? = some v → ms[j]? = some m → DeedAt H v m) ∧ (∀ m ∈ ms, (m.2.1 < n ∧ m.2.2 < n) ∧ m.1.length ≤ 100 ∧ ∀ x ∈ m.1, x < n) ∧
  ∀ H' v, Same H H' → Dq H' v (tabD (madeT n ms)) → Q v H'
theorem getD_lt {n : Nat} {ls : List Int} (hn : 0 < n) (h : ∀ x ∈ ls, x < n) (i : Nat) : ls.getD i 0 < n := by
  rw [List.getD_eq_getElem?_getD]
  cases e : ls[i]? with
  | none => show (0 : Int) < n; omega
  | some y => exact h y (List.mem_of_getElem? e)
theorem set_lt {n : Nat} {ls : List Int} {i : Nat} {z : Int} (hz : z < n) (h : ∀ x ∈ ls, x < n) : ∀ x ∈ ls.set i z, x < n := fun x hx => by
  rcases List.mem_or_eq_of_mem_set hx with h1 | h1
  · exact h x h1
  · rw [h1]; exact hz
theorem getD_get {ls : List Int} {i : Nat} (h : i < ls.length) : ls[i]? = some (ls.getD i 0) := by
  rw [List.getD_eq_getElem?_getD, List.getElem?_eq_getElem h]
  rfl
/-- a deed at n places -/
structure Deed (n : Nat) (m : Mv) : Prop where
  asc : Asc 0 n m.1
  ab : m.2.1 < m.2.2
  bn : m.2.2 < n
  na : m.2.1 ∉ m.1
  nb : m.2.2 ∉ m.1
/-- sorted pieces of a drawn order -/
theorem drawn_piece {n : Nat} {ys ps zs : List Int} (hp : ys.Perm (ups n)) (hs : ps.Sublist ys) (hz : zs.Perm ps) (ho : zs.Pairwise (· ≤ ·)) : ∃ ds : List Nat, zs = ds.map (fun (x : Nat) => (x : Int)) ∧ Asc 0 n ds := by
  have hm : ∀ z ∈ zs, 0 ≤ z ∧ z < n := fun z h => by
    have h1 := hp.subset (hs.subset (hz.subset h))
    unfold ups at h1
    obtain ⟨k, hk, rfl⟩ := List.mem_map.mp h1
    have := List.mem_range.mp hk
    omega
  have hnd : zs.Nodup := by
    have h0 : (ups n).Nodup := List.Pairwise.map _ (fun a b (h : a < b) => by show ((a : Nat) : Int) ≠ b; omega) List.pairwise_lt_range
    exact hz.symm.nodup ((hp.symm.nodup h0).sublist hs)
  refine ⟨zs.map Int.toNat, ?_, ?_, fun x hx => ?_⟩
  · rw [List.map_map]
    refine (List.map_id zs).symm.trans (List.map_congr_left fun z h => ?_)
    have := hm z h
    show z = ((z.toNat : Nat) : Int)
    omega
  · rw [List.pairwise_map]
    refine List.Pairwise.imp_of_mem (fun {a b} ha hb h => ?_) (ho.and hnd)
    have h1 := hm a ha
    have h2 := hm b hb
    have h3 : a ≤ b ∧ a ≠ b := h
    omega
  · obtain ⟨z, h, rfl⟩ := List.mem_map.mp hx
    have := hm z h
    exact ⟨Nat.zero_le _, by omega⟩
/-- a lot as a key -/
def lotK (l : List Nat) : List Key := l.map fun (x : Nat) => (Sum.inl (x : Int) : Key)
theorem lotK_v (l : List Nat) : (lotK l).map kV = lv l := by
  unfold lotK lv
  rw [List.map_map]
  rfl
def spNumbers : Sp := fun vs H Q _ => ∃ n : Nat, vs = [.int (n : Int)] ∧ n ≤ 6 ∧ ∀ H' p kvs, Same H H' → H' p = some (.dT kvs) → (∀ l ∈ allL n, valV kvs (lotK l) = some (.int (num n l : Nat))) → Q (.ref p) H'
def bothE (n : Nat) (U : List (List Int)) (e : List Int) : List Int := e.map fun x => if x = -1 then -1 else (U.getD (num n (goalE n e)) []).getD x.toNat 0
def bothT (n : Nat) (T U : List (List Int)) : List (List Int) := T.map (bothE n U)
/-- an entry: its goal is a lot, its places are places -/
def EntOk (n : Nat) (e : List Int) : Prop := goalE n e ∈ allL n ∧ e.length ≤ 100 ∧ ∀ x ∈ e, x = -1 ∨ (0 ≤ x ∧ x < n)
def spBoth : Sp := fun vs H Q _ => ∃ (n : Nat) (v u : V) (T U : List (List Int)), vs = [.int (n : Int), v, u] ∧ n ≤ 6 ∧ Dq H v (tabD T) ∧ Dq H u (tabD U) ∧ T.length ≤ 1000 ∧ (∀ e ∈ T, EntOk n e) ∧ U.length = 2 ^ n ∧ (∀ e ∈ U, e.length = n) ∧
  ∀ H' r, Same H H' → Dq H' r (tabD (bothT n T U)) → Q r H'
theorem all_num {n : Nat} (hn : n ≤ 6) {l : List Nat} (h : l ∈ allL n) : num n l < 2 ^ n := by
  have h1 : num n l ∈ (allL n).map (num n) := List.mem_map.mpr ⟨l, h, rfl⟩
  rw [lots_nums n (by omega)] at h1
  exact List.mem_range.mp h1
theorem ent_inv {H : Hp} {v : V} {e : List Int} (h : Dq H v (entD e)) : ∃ a, v = .ref a ∧ H a = some (.tup (e.map V.int)) := by
  obtain ⟨a, xs, rfl, ha, q⟩ := Dq.tup_inv h
  exact ⟨a, rfl, by rw [ha, dqa_int q]⟩
theorem ents_get {H : Hp} {xs : List V} {T : List (List Int)} {i : Nat} {y : V} (q : DqA H xs (T.map entD)) (h : xs[i]? = some y) : ∃ e, T[i]? = some e ∧ ∃ a, y = .ref a ∧ H a = some (.tup (e.map V.int)) := by
  obtain ⟨d, h1, h2⟩ := q.get h
  rw [List.getElem?_map] at h1
  cases hr : T[i]? with
  | none => rw [hr] at h1; cases h1
  | some e =>
    rw [hr] at h1
    cases Option.some.inj h1
    exact ⟨e, rfl, ent_inv h2⟩
section
variable {P : Program} {w : World} {K : PySem.W.Frag} {mg : Str → Option Value} {base : Heap}
theorem all_num_at {n : Nat} (hn : n ≤ 6) {i : Nat} {l : List Nat} (h : (allL n)[i]? = some l) : num n l = i ∧ i < 2 ^ n := by
  have e : ((allL n).map (num n))[i]? = some (num n l) := by rw [List.getElem?_map, h]; rfl
  rw [lots_nums n (by omega)] at e
  obtain ⟨h1, h2⟩ := List.getElem?_eq_some_iff.mp e
  rw [List.getElem_range] at h2
  rw [List.length_range] at h1
  exact ⟨h2.symm, h1⟩
theorem lotK_inj {l l' : List Nat} (h : lotK l = lotK l') : l = l' := by
  have := congrArg (List.map kV) h
  rw [lotK_v, lotK_v] at this
  unfold lv at this
  exact (List.map_inj_right (fun a b e => by
    have : (a : Int) = (b : Int) := V.int.inj e
    omega)).mp this
def aimsT (n : Nat) (T : List (List Int)) : List Int := T.map fun e => ((num n (goalE n e) : Nat) : Int)
def spAims : Sp := fun vs H Q _ => ∃ (n : Nat) (v : V) (T : List (List Int)), vs = [.int (n : Int), v] ∧ n ≤ 6 ∧ Dq H v (tabD T) ∧ T.length ≤ 1000 ∧ (∀ e ∈ T, goalE n e ∈ allL n) ∧
  ∀ H' p, Same H H' → H p = none → H' p = some (.lst ((aimsT n T).map V.int)) → Q (.ref p) H'
end
/-- an entry of the lot l at n places -/
structure EntV (n : Nat) (l : List Nat) (e : List Int) : Prop where
  len : e.length = n
  at_ : ∀ i, i < n → if i ∈ l then e.getD i 0 = -1 else 0 ≤ e.getD i 0 ∧ e.getD i 0 < n
  nd : (e.filter fun x => !decide (x = -1)).Nodup
def spIsEnt : Sp := fun vs H Q _ => ∃ (n : Nat) (la a : Addr) (l : List Nat) (e : List Int), vs = [.int (n : Int), .ref la, .ref a] ∧ n ≤ 6 ∧ H la = some (.tup (lv l)) ∧ H a = some (.tup (e.map V.int)) ∧ EntV n l e ∧ ∀ H', Same H H' → Q (.bl true) H'
def spTabErr : Sp := fun vs H Q _ => ∃ (n : Nat) (v : V) (T : List (List Int)), vs = [.int (n : Int), v] ∧ n ≤ 6 ∧ Dq H v (tabD T) ∧ T.length = 2 ^ n ∧ (∀ (i : Nat) (l : List Nat) (e : List Int), (allL n)[i]? = some l → T[i]? = some e → EntV n l e) ∧ (T.map (goalE n)).Nodup ∧ ∀ H', Same H H' → Q .non H'
/-- an ascending lot stands among all lots -/
theorem asc_all {n : Nat} (hn : n ≤ 6) {l : List Nat} (h : Asc 0 n l) (hasc : ∀ l ∈ allL n, Asc 0 n l) : l ∈ allL n := by
  have h1 : num n l < 2 ^ n := by
    rcases Nat.lt_or_ge (num n l) (2 ^ n) with c | c
    · exact c
    · have e := lotAt_none (by omega) c
      rw [lotAt_num h] at e
      cases e
  have h2 : num n l ∈ (allL n).map (num n) := by
    rw [lots_nums n (by omega)]
    exact List.mem_range.mpr h1
  obtain ⟨l', hl', e⟩ := List.mem_map.mp h2
  have e1 := lotAt_num (hasc l' hl')
  rw [e, lotAt_num h] at e1
  rw [Option.some.inj e1]
  exact hl'
theorem all_asc : ∀ n : Nat, n < 7 → ∀ l ∈ allL n, (l.Pairwise (· < ·) ∧ l.length ≤ 6) ∧ ∀ x ∈ l, x < n := by decide +kernel
theorem all_ascL {n : Nat} (hn : n ≤ 6) : ∀ l ∈ allL n, Asc 0 n l := fun l hl => ⟨(all_asc n (by omega) l hl).1.1, fun x hx => ⟨Nat.zero_le _, by have := (all_asc n (by omega) l hl).2 x hx; omega⟩⟩
def rLenK (K : PySem.W.Frag) : List V → Hp → VK → Prop := fun xs H Q => ∃ (p : Addr) (ys : List V), xs = [V.ref p] ∧ (SqL K H p ys ∨ SqT K H p ys) ∧ Q (V.int (ys.length : Nat)) H
theorem call_lenK {X : Cx} : CallR X (.builtin "len") (rLenK X.K) := call_len_seq
theorem own_filt : ∀ n : Nat, n < 7 → ∀ s : Nat, s < n + 1 → (allL n).filter (fun l => decide (l.length = s)) = lotsL n s := by decide +kernel
theorem lot_filt : ∀ n : Nat, n < 7 → ∀ l ∈ allL n, (List.range n).filter (fun x => decide (x ∈ l)) = l ∧ ((List.range n).filter (fun x => !decide (x ∈ l))).length + l.length = n := by decide +kernel
theorem own_all : ∀ n : Nat, n < 7 → ∀ s : Nat, s < n + 1 → ∀ l ∈ lotsL n s, l ∈ allL n := fun n _ s hs l h => List.mem_flatMap.mpr ⟨s, List.mem_range.mpr hs, h⟩
/-- entries for lots -/
structure Ents (n : Nat) (ls : List (List Nat)) (es : List (List Int)) : Prop where
  len : es.length = ls.length
  at_ : ∀ (t : Nat) (l : List Nat) (e : List Int), ls[t]? = some l → es[t]? = some e → EntV n l e
theorem Ents.nil {n : Nat} : Ents n [] [] := ⟨rfl, fun t l e h _ => by simp at h⟩
theorem Ents.snoc {n : Nat} {ls : List (List Nat)} {es : List (List Int)} {l : List Nat} {e : List Int} (h : Ents n ls es) (g : EntV n l e) : Ents n (ls ++ [l]) (es ++ [e]) := by
  refine ⟨by rw [List.length_append, List.length_append, h.len]; rfl, fun t l' e' h1 h2 => ?_⟩
  rcases Nat.lt_trichotomy t ls.length with c | c | c
  · rw [List.getElem?_append_left c] at h1
    rw [List.getElem?_append_left (by rw [h.len]; exact c)] at h2
    exact h.at_ t l' e' h1 h2
  · subst c
    rw [List.getElem?_append_right (Nat.le_refl _), Nat.sub_self] at h1
    rw [← h.len, List.getElem?_append_right (Nat.le_refl _), Nat.sub_self] at h2
    cases h1
    cases h2
    exact g
  · rw [List.getElem?_eq_none (by rw [List.length_append]; show _ + 1 ≤ t; omega)] at h1
    cases h1
/-- a table -/
structure TabOk (n : Nat) (T : List (List Int)) : Prop where
  ents : Ents n (allL n) T
  goals : (T.map (goalE n)).Perm (allL n)
theorem dqa_perm {α : Type} {H : Hp} {f : α → PyData} {xs ys : List V} (p : ys.Perm xs) : ∀ {L : List α}, DqA H xs (L.map f) → ∃ M : List α, M.Perm L ∧ DqA H ys (M.map f) := by
  induction p with
  | nil =>
    intro L q
    exact ⟨L, .refl _, q⟩
  | cons x p ih =>
    intro L q
    cases L with
    | nil => cases q
    | cons a L =>
      cases q with
      | cons h t =>
        obtain ⟨M, p2, q2⟩ := ih t
        exact ⟨a :: M, p2.cons a, .cons h q2⟩
  | swap x y l =>
    intro L q
    match L, q with
    | a :: b :: L, .cons h1 (.cons h2 t) => exact ⟨b :: a :: L, .swap _ _ _, .cons h2 (.cons h1 t)⟩
  | trans p1 p2 ih1 ih2 =>
    intro L q
    obtain ⟨M, m1, q1⟩ := ih2 q
    obtain ⟨N, m2, q2⟩ := ih1 q1
    exact ⟨N, m2.trans m1, q2⟩
theorem ints_perm {ys : List V} {zs : List Int} (p : ys.Perm (zs.map V.int)) : ∃ ws : List Int, ys = ws.map V.int ∧ ws.Perm zs := by
  obtain ⟨M, p2, q2⟩ := dqa_perm (H := fun _ => none) (f := PyData.int) p (DqA.ints zs)
  exact ⟨M, dqa_int q2, p2⟩
/-- what is left of the riders -/
def cnt (l : List Nat) (n i : Nat) : Nat := ((List.range n).drop i).countP fun t => !decide (t ∈ l)
theorem cnt_step {l : List Nat} {n i : Nat} (h : i < n) : cnt l n i = cnt l n (i + 1) + (if i ∈ l then 0 else 1) := by
  unfold cnt
  rw [List.drop_eq_getElem_cons (by rw [List.length_range]; exact h), List.countP_cons, List.getElem_range]
  by_cases c : i ∈ l <;> simp [c]
theorem cnt_end (l : List Nat) (n : Nat) : cnt l n n = 0 := by
  unfold cnt
  rw [List.drop_of_length_le (by rw [List.length_range]; exact Nat.le_refl _)]
  rfl
/-- the entry that comes of riders at l, free places in a drawn order -/
theorem ent_made {n : Nat} (hn : n ≤ 6) {l g : List Nat} {e zs : List Int} (hl : l ∈ allL n) (hg : g ∈ allL n) (len : e.length = n) (h1 : ∀ t, t < n → t ∈ l → e.getD t 0 = -1) (h2 : ∀ t, t < n → t ∉ l → e.getD t 0 ∈ zs)
    (h3 : e.filter (fun x => !decide (x = -1)) = zs.reverse) (hz : zs.Perm (((List.range n).filter fun y => !decide (y ∈ g)).map fun (y : Nat) => (y : Int))) : EntV n l e ∧ goalE n e = g := by
  have hm : ∀ z, z ∈ zs ↔ ∃ y : Nat, y < n ∧ y ∉ g ∧ (y : Int) = z := fun z => by
    rw [hz.mem_iff, List.mem_map]
    constructor
    · rintro ⟨y, hy, rfl⟩
      rw [List.mem_filter, List.mem_range] at hy
      exact ⟨y, hy.1, by simpa using hy.2, rfl⟩
    · rintro ⟨y, a, b, rfl⟩
      exact ⟨y, List.mem_filter.mpr ⟨List.mem_range.mpr a, by simpa using b⟩, rfl⟩
  refine ⟨⟨len, fun t ht => ?_, ?_⟩, ?_⟩
  · split
    · rename_i c
      exact h1 t ht c
    · rename_i c
      obtain ⟨y, a, _, e1⟩ := (hm _).mp (h2 t ht c)
      omega
  · rw [h3]
    have nd : (((List.range n).filter fun y => !decide (y ∈ g)).map fun (y : Nat) => (y : Int)).Nodup := List.Pairwise.map _ (fun a b (h : a ≠ b) z => h (by omega)) (List.Pairwise.filter _ List.nodup_range)
    exact List.pairwise_reverse.mpr ((hz.symm.nodup nd).imp fun h => h.symm)
  · rw [← (lot_filt n (by omega) g hg).1]
    unfold goalE
    refine List.filter_congr fun x hx => ?_
    have hx := List.mem_range.mp hx
    have e1 : (x : Int) ∈ e ↔ (x : Int) ∈ zs := by
      rw [← List.mem_reverse (as := zs), ← h3, List.mem_filter]
      constructor
      · exact fun h => ⟨h, by
          have : ¬ (x : Int) = -1 := by omega
          simp [this]⟩
      · exact fun h => h.1
    have e2 : (x : Int) ∈ zs ↔ x ∉ g := by
      rw [hm]
      constructor
      · rintro ⟨y, _, b, c⟩
        have : y = x := by omega
        exact this ▸ b
      · exact fun h => ⟨x, hx, h, rfl⟩
    rw [← decide_not, decide_eq_decide, e1, e2, Classical.not_not]
end Kr
namespace Kr
open PySem PySem.Spec PyProof.Rows L2
theorem new_dq {p l q : Addr} {H : Hp} {o : HO} (D : Deck H p l) (h : H q = none) : Ext p l H (upd H q o) ∧ Deck (upd H q o) p l ∧ hid p l (upd H q o) q = some o := by
  obtain ⟨h1, h2⟩ := D.new h
  exact ⟨Ext.rfl.new h, D.mut h1 h2, hid_upd h1 h2⟩
theorem seqIx {r : Int} {n : Nat} (h0 : 0 ≤ r) (h1 : r < n) : seqIndex? r n = some r.toNat := (ixN_seq (by unfold ixN; rw [if_pos h0, if_pos h1])).1
theorem erasev_perm (zs : List V) {k : Nat} (h : k < zs.length) : (zs[k] :: zs.eraseIdx k).Perm zs := by
  rw [List.eraseIdx_eq_take_drop_succ]
  have e : zs = zs.take k ++ zs[k] :: zs.drop (k + 1) := by
    rw [← List.drop_eq_getElem_cons h, List.take_append_drop]
  exact List.perm_middle.symm.trans (.of_eq e.symm)
/-- items in a drawn order -/
def spMixV : Sp := fun vs H Q _ => ∃ (p l a : Addr) (xs : List V), vs = [.ref p, .ref a] ∧ Deck H p l ∧ hid p l H a = some (.lst xs) ∧ xs.length ≤ 1000 ∧
  ∀ (H' : Hp) (f : Addr) (ys : List V), Deck H' p l → Ext p l H H' → H f = none → hid p l H' f = some (.lst ys) → ys.Perm xs → Q (.ref f) H'
def spDeed : Sp := fun vs H Q _ => ∃ (p l : Addr) (n : Nat), vs = [.ref p, .int (n : Int)] ∧ Deck H p l ∧ 3 ≤ n ∧ n ≤ 6 ∧ ∀ H' v m, Deck H' p l → Ext p l H H' → DeedAt H' v m → Deed n m → Q v H'
def spDrawn : Sp := fun vs H Q _ => ∃ (p l : Addr) (n : Nat), vs = [.ref p, .int (n : Int)] ∧ Deck H p l ∧ 3 ≤ n ∧ n ≤ 6 ∧ ∀ H' v T, Deck H' p l → Ext p l H H' → Dq H' v (tabD T) → TabOk n T → Q v H'
end Kr
namespace Kr
open PySem PySem.Spec PyProof.Rows L2
abbrev nv (ks : List Nat) : List V := ks.map fun k : Nat => V.int (k : Int)
structure KsOk (n : Nat) (ks : List Nat) : Prop where
  asc : ks.Pairwise (· < ·)
  up : ∀ k ∈ ks, k + 2 ≤ n
def leastV (ks : List Nat) : V := match ks.filter fun k => decide (0 < k) with
  | [] => .non
  | j :: _ => .int (j : Int)
def tcN (n : Nat) (ks : List Nat) : Nat := (match ks.filter fun k => decide (0 < k) with
  | [] => 1
  | j :: r => keyed n j r.length) * (if 0 ∈ ks then fac n else 1)
def spLeastN : Sp := fun vs H Q _ => ∃ (a : Addr) (ks : List Nat), vs = [.ref a] ∧ H a = some (.tup (nv ks)) ∧ ks.Pairwise (· < ·) ∧ ks.length ≤ 100 ∧ ∀ H', Same H H' → Q (leastV ks) H'
def spProdN : Sp := fun vs H Q _ => ∃ (a : Addr) (ns : List Nat), vs = [.ref a] ∧ H a = some (.lst (nv ns)) ∧ (∀ n ∈ ns, 1 ≤ n) ∧ ns.length ≤ 1000 ∧ prodL ns < 2 ^ 200000 ∧ Q (.int ((prodL ns : Nat) : Int)) H
def spWaysN : Sp := fun vs H Q _ => ∃ n m : Nat, vs = [.int (n : Int), .int (m : Int)] ∧ n ≤ 10 ∧ m ≤ n ∧ ∀ H', Same H H' → Q (.int ((waysN n m : Nat) : Int)) H'
def spAllC : Sp := fun vs H Q _ => ∃ n : Nat, vs = [.int (n : Int)] ∧ n ≤ 10 ∧ ∀ H', Same H H' → Q (.int ((allC n : Nat) : Int)) H'
def spKeyedN : Sp := fun vs H Q _ => ∃ n j o : Nat, vs = [.int (n : Int), .int (j : Int), .int (o : Int)] ∧ 3 ≤ n ∧ n ≤ 10 ∧ 1 ≤ j ∧ j + o + 2 ≤ n ∧ ∀ H', Same H H' → Q (.int ((keyed n j o : Nat) : Int)) H'
def spTc : Sp := fun vs H Q _ => ∃ (n : Nat) (a : Addr) (ks : List Nat), vs = [.int (n : Int), .ref a] ∧ H a = some (.tup (nv ks)) ∧ 3 ≤ n ∧ n ≤ 10 ∧ KsOk n ks ∧ ∀ H', Same H H' → Q (.int ((tcN n ks : Nat) : Int)) H'
def spFacN : Sp := fun vs H Q _ => ∃ n : Nat, vs = [.int (n : Int)] ∧ n ≤ 400 ∧ Q (.int ((fac n : Nat) : Int)) H
def spLotN : Sp := fun vs H Q _ => ∃ n m : Nat, vs = [.int (n : Int), .int (m : Int)] ∧ m ≤ n ∧ n ≤ 10 ∧ Q (.int ((lots n m : Nat) : Int)) H
def spPowN : Sp := fun vs H Q _ => ∃ b k : Nat, vs = [.int (b : Int), .int (k : Int)] ∧ 1 ≤ b ∧ k ≤ 1000 ∧ b ^ k < 2 ^ 200000 ∧ Q (.int ((b ^ k : Nat) : Int)) H
def spWy : Sp := fun vs H Q _ => ∃ (n m : Nat) (v : V) (pr : Bool × Bool), vs = [.int (n : Int), .int (m : Int), .int ((waysN n m : Nat) : Int), v] ∧ Dq H v (pairD pr) ∧ 3 ≤ n ∧ n ≤ 10 ∧ m ≤ n ∧ (m = n → pr = (false, false)) ∧ (m = n - 1 → pr.2 = false) ∧ ∀ H', Same H H' → Q (.int ((fct n m : Nat) : Int)) H'
def spSumsN : Sp := fun vs H Q _ => ∃ (n : Nat) (a : Addr) (j : Nat) (r : List Nat), vs = [.int (n : Int), .ref a] ∧ H a = some (.tup (nv (j :: r))) ∧ 3 ≤ n ∧ n ≤ 10 ∧ KsOk n (j :: r) ∧ 1 ≤ j ∧ ∀ H', Same H H' → Q (.int ((2 ^ (r.length + 1) * oneRow n j : Nat) : Int)) H'
end Kr
namespace Kr
open PySem PySem.Spec PyProof.Rows L2
/-! ### beside an empty list -/
def rEqN : R2 := fun x y H Q => ∃ l b xs, x = .ref l ∧ y = .ref b ∧ H l = some (.lst xs) ∧ H b = some (.lst []) ∧ Q (.bl xs.isEmpty) H
theorem op_eqN {X : Cx} (hu : X.A.units + 64 < cLine) : OpR X (compareOp .Eq) rEqN := by
  intro pins s σ H x y v u Q I rx ry h
  obtain ⟨l, b, xs, rfl, rfl, hl, hb, q⟩ := h
  obtain rfl : v = Value.ref l := rx
  obtain rfl : u = Value.ref b := ry
  obtain ⟨its, r1, p1, _⟩ := I.list (SqL.of (K := X.K) hl)
  obtain ⟨it2, r2, p2, _⟩ := I.list (SqL.of (K := X.K) hb)
  cases r2
  cases r1 with
  | nil => exact SeqAt.RcAt.lists (e := fun _ => true) p1.isList p2.isList rfl (by omega) (fun j h1 _ => absurd h1 (by simp)) X.prog X.w X.xe _ ⟨.bl true, H, I, by rfl, q⟩
  | cons _ _ => exact SeqAt.RcAt.lists_lengths p1.isList p2.isList (by simp) (by omega) X.prog X.w X.xe _ ⟨.bl false, H, I, rfl, q⟩
/-- a list beside one without items -/
def rNeN : R2 := fun x y H Q => ∃ l b xs, x = .ref l ∧ y = .ref b ∧ H l = some (.lst xs) ∧ H b = some (.lst []) ∧ Q (.bl (!xs.isEmpty)) H
theorem op_neN {X : Cx} (hu : X.A.units + 64 < cLine) : OpR X (compareOp .NotEq) rNeN := by
  intro pins s σ H x y v u Q I rx ry h
  obtain ⟨l, b, xs, rfl, rfl, hl, hb, q⟩ := h
  obtain rfl : v = Value.ref l := rx
  obtain rfl : u = Value.ref b := ry
  obtain ⟨its, r1, p1, _⟩ := I.list (SqL.of (K := X.K) hl)
  obtain ⟨it2, r2, p2, _⟩ := I.list (SqL.of (K := X.K) hb)
  cases r2
  have hn : its.length = xs.length := r1.length.symm
  by_cases he : xs = []
  · subst he
    have : its = [] := List.length_eq_zero_iff.mp hn
    subst this
    exact SeqAt.RcNeAt.lists (e := fun _ => true) p1.isList p2.isList rfl (by omega) (fun j h1 _ => absurd h1 (by simp)) X.prog X.w X.xe _ ⟨.bl false, H, I, by rfl, q⟩
  · have hne : (its.toArray.size != ([] : List Value).toArray.size) = true := by
      have := List.length_pos_iff.mpr he
      simp
      intro z
      subst z
      simp at hn
      exact he (List.length_eq_zero_iff.mp hn.symm)
    have e1 : (!xs.isEmpty) = true := by
      cases xs with
      | nil => exact absurd rfl he
      | cons _ _ => rfl
    rw [e1] at q
    exact SeqAt.RcNeAt.lists_lengths p1.isList p2.isList hne (by omega) X.prog X.w X.xe _ ⟨.bl true, H, I, rfl, q⟩
/-- zip of two tuples, of any lengths -/
theorem walk_zipT {K : PySem.W.Frag} {a b : Addr} {xs ys : List V} {n : Nat} (hn : n = min xs.length ys.length) : Walk (RZ.ItzT K a b) n (fun H => SqT K H a xs ∧ SqT K H b ys) (YPair (fun i => xs[i]?) (fun i => ys[i]?)) := by
  subst hn
  refine ⟨fun i _ hi q => ?_, fun _ ⟨q1, q2⟩ => ⟨xs, ys, q1, q2, (by omega)⟩, fun i H v H' _ ⟨q1, q2⟩ y => ?_⟩
  · obtain ⟨g1, g2⟩ := Nat.lt_min.mp hi
    exact ⟨xs, ys, xs[i], ys[i], q.1, q.2, List.getElem?_eq_getElem g1, List.getElem?_eq_getElem g2⟩
  · obtain ⟨T, x, z, t1, t2, t3, t4, t5⟩ := y
    exact ⟨T, x, z, t1, t2, t3, t4 _ q1, t5 _ q2⟩
theorem vals_ints_flat (ns : List Int) : flatV (.int 0) = true := rfl
end Kr
namespace Kr
open PySem PySem.Spec PyProof.Rows L2
/-! ### what is wrong with lots and standings, over data -/
def iv : PyData → Int
  | .int i => i
  | _ => 0
def eForm : PyData := .str "form"
def eItem (i : Nat) : PyData := .tuple [.str "item", .int (i : Nat)]
def lotGo (n : Int) : Int → Nat → List PyData → PyData
  | _, _, [] => .none
  | least, i, x :: r => if isB x least (n - 1) = true then lotGo n (iv x + 1) (i + 1) r else eItem i
def lotErr (n : Int) : PyData → PyData
  | .tuple ds => lotGo n 0 0 ds
  | _ => eForm
theorem isB_bd {x : PyData} {lo hi : Int} (h : isB x lo hi = true) : ∃ i, x = .int i ∧ lo ≤ i ∧ i ≤ hi := by
  cases x with
  | int i =>
    simp [isB] at h
    exact ⟨i, rfl, h.1, h.2⟩
  | _ => simp [isB] at h
/-- a new data result -/
def spErr (F : Int → PyData → PyData) : Sp := fun vs H Q _ => ∃ (n : Int) (v : V) (d : PyData), vs = [.int n, v] ∧ Dq H v d ∧ ∀ H' r, Same H H' → Dq H' r (F n d) → Q r H'
theorem dq_pair {H : Hp} {t : Addr} {x : Str} {i : Nat} (h : H t = some (.tup [.str x, .int (i : Nat)])) : Dq H (.ref t) (.tuple [.str x, .int (i : Nat)]) :=
  .tup h (.cons (.str x) (.cons (.int _) .nil))
theorem inV_ints (r : Int) (ns : List Int) : inV (.int r) (ns.map V.int) = decide (r ∈ ns) := by
  unfold inV
  rw [Bool.eq_iff_iff]
  simp [eqV]
theorem flat_ints (ns : List Int) : (ns.map V.int).all flatV = true := by
  simp [flatV]
/-! ### lots and what is wrong with deeds, over data -/
def asc : List Int → Bool
  | x :: y :: r => decide (x < y) && asc (y :: r)
  | _ => true
def lotOk (n : Int) : PyData → Bool
  | .tuple ds => ds.all (fun d => isB d 0 (n - 1)) && asc (ds.map iv)
  | _ => false
def isNo : PyData → Bool
  | .none => true
  | _ => false
def ascF : Int → List Int → Bool
  | _, [] => true
  | m, x :: r => decide (m ≤ x) && ascF (x + 1) r
theorem ascF_asc : ∀ (m x : Int) (r : List Int), ascF m (x :: r) = (decide (m ≤ x) && asc (x :: r))
  | m, x, [] => rfl
  | m, x, y :: r => by
    show (decide (m ≤ x) && ascF (x + 1) (y :: r)) = (decide (m ≤ x) && (decide (x < y) && asc (y :: r)))
    rw [ascF_asc (x + 1) y r]
    rfl
theorem isB_from {x : PyData} {m h : Int} (h0 : 0 ≤ m) : isB x m h = (isB x 0 h && decide (m ≤ iv x)) := by
  cases x with
  | int i =>
    show (decide (m ≤ i) && decide (i ≤ h)) = ((decide (0 ≤ i) && decide (i ≤ h)) && decide (m ≤ i))
    rw [Bool.eq_iff_iff]
    simp
    omega
  | _ => rfl
theorem lotGo_no (n : Int) : ∀ (m : Int) (i : Nat) (ds : List PyData), 0 ≤ m → isNo (lotGo n m i ds) = (ds.all (fun d => isB d 0 (n - 1)) && ascF m (ds.map iv))
  | _, _, [], _ => rfl
  | m, i, x :: r, h => by
    show isNo (if _ then _ else _) = ((isB x 0 (n - 1) && r.all _) && (decide (m ≤ iv x) && ascF (iv x + 1) (r.map iv)))
    by_cases hb : isB x m (n - 1) = true
    · have h2 := hb
      rw [isB_from h, Bool.and_eq_true] at h2
      rw [if_pos hb, lotGo_no n (iv x + 1) (i + 1) r (by have := of_decide_eq_true h2.2; omega), h2.1, h2.2]
      rfl
    · have h2 := Bool.eq_false_iff.mpr hb
      rw [isB_from h] at h2
      rw [if_neg hb]
      show false = _
      cases q1 : isB x 0 (n - 1) with
      | false => rfl
      | true =>
        rw [q1] at h2
        rw [show decide (m ≤ iv x) = false from h2]
        simp
theorem lotErr_no (n : Int) (d : PyData) : isNo (lotErr n d) = lotOk n d := by
  cases d with
  | tuple ds =>
    show isNo (lotGo n 0 0 ds) = (_ && _)
    rw [lotGo_no n 0 0 ds (Int.le_refl _)]
    cases ds with
    | nil => rfl
    | cons x r =>
      rw [List.map_cons, ascF_asc]
      by_cases hx : isB x 0 (n - 1) = true
      · obtain ⟨i, rfl, h0, _⟩ := isB_bd hx
        rw [show decide ((0 : Int) ≤ iv (.int i)) = true from decide_eq_true h0, Bool.true_and]
      · rw [List.all_cons, Bool.eq_false_iff.mpr hx]
        rfl
  | _ => rfl
theorem Dq.no {H : Hp} {v : V} {d : PyData} (h : Dq H v d) : decide (v = .non) = isNo d := by
  cases h <;> simp [isNo]
def ivl : PyData → List Int
  | .tuple ds => ds.map iv
  | _ => []
def plOk (n : Int) (l x y : PyData) : Bool := isB x 0 (n - 1) && isB y 0 (n - 1) && decide (iv x < iv y) && !decide (iv x ∈ ivl l) && !decide (iv y ∈ ivl l)
def deedErr (n : Int) : PyData → PyData
  | .tuple [l, x, y] => if lotOk n l = true then (if plOk n l x y = true then .none else .str "places") else .str "lot"
  | _ => eForm
/-- a lot's data: whole numbers -/
theorem lotOk_ints {n : Int} {d : PyData} (h : lotOk n d = true) : ∃ ns : List Int, d = .tuple (ns.map .int) ∧ ∀ z ∈ ns, 0 ≤ z ∧ z ≤ n - 1 := by
  cases d with
  | tuple ds =>
    have h1 := (Bool.and_eq_true_iff.mp h).1
    rw [List.all_eq_true] at h1
    refine ⟨ds.map iv, ?_, fun z hz => ?_⟩
    · rw [List.map_map]
      congr 1
      refine (List.map_id ds).symm.trans (List.map_congr_left fun x hx => ?_)
      obtain ⟨i, rfl, _⟩ := isB_bd (h1 x hx)
      rfl
    · obtain ⟨x, hx, rfl⟩ := List.mem_map.mp hz
      obtain ⟨i, rfl, g0, g1⟩ := isB_bd (h1 x hx)
      exact ⟨g0, g1⟩
  | _ => cases h
theorem dq_tupI {H : Hp} {v : V} {ns : List Int} (h : Dq H v (.tuple (ns.map .int))) : ∃ a, v = .ref a ∧ H a = some (.tup (ns.map V.int)) := by
  generalize e : PyData.tuple (ns.map .int) = d at h
  cases h with
  | @tup a xs ds ea q =>
    cases e
    refine ⟨a, rfl, ?_⟩
    have : xs = ns.map V.int := by
      clear ea
      induction ns generalizing xs with
      | nil => cases q; rfl
      | cons n ns ih =>
        cases q with
        | cons q1 q2 =>
          cases q1
          rw [ih q2]
          rfl
    rw [← this]
    exact ea
  | _ => cases e
theorem inV_mem (r : Int) (ns : List Int) : inV (.int r) (ns.map V.int) = decide (r ∈ ns) := inV_ints r ns
theorem asc_iff : ∀ ns : List Int, asc ns = true ↔ ∀ (j : Nat) (x y : Int), ns[j]? = some x → ns[j + 1]? = some y → x < y
  | [] => by simp [asc]
  | [_] => by simp [asc]
  | x :: y :: r => by
    show (decide (x < y) && asc (y :: r)) = true ↔ _
    rw [Bool.and_eq_true, asc_iff (y :: r), decide_eq_true_eq]
    constructor
    · rintro ⟨h1, h2⟩ j u v hu hv
      cases j with
      | zero =>
        have e1 : x = u := Option.some.inj hu
        have e2 : y = v := Option.some.inj hv
        omega
      | succ j => exact h2 j u v hu hv
    · intro h
      exact ⟨h 0 x y rfl rfl, fun j u v hu hv => h (j + 1) u v hu hv⟩
theorem cut_one (xs : List V) : cutV xs (some 1) none = xs.drop 1 := by
  unfold cutV
  have e1 : HT.sIx xs.length 0 (some 1) = min 1 xs.length := HT.sIx_nat _ _ 1
  rw [e1, HT.sIx_none]
  cases xs with
  | nil => rfl
  | cons x r =>
    have e2 : min 1 (x :: r).length = 1 := by simp
    rw [e2]
    show List.take ((r.length + 1) - 1) r = r
    rw [Nat.add_sub_cancel]
    exact List.take_length
/-- v, v[1:] as arguments -/
theorem zip_args {K : PySem.W.Frag} {i : Nat} {a : Addr} {xs : List V} {σ : L2.St} {H : Hp} {Q : List V → Hp → Prop} (hv : σ[i]? = some (some (.ref a))) (hx : H a = some (.tup xs))
    (h : ∀ (b : Addr) (H3 : Hp), Same H H3 → H3 b = some (.tup (xs.drop 1)) → Q [.ref a, .ref b] H3) : tCons (tVar i) (tCons (tSl (rSlA K) (tVar i) (tPart (tC (.int 1))) tNoPart) tNil) σ H Q :=
  ⟨.ref a, hv, .ref a, hv, 1, rfl, a, xs, rfl, SqT.of hx, fun w => h a H (Same.refl _) (by
    have e1 : HT.sIx xs.length 0 (some 1) = min 1 xs.length := HT.sIx_nat _ _ 1
    have h0 := w.1
    rw [e1] at h0
    have : xs = [] := List.length_eq_zero_iff.mp (by omega)
    subst this
    exact hx), fun _ p np => by
    rw [cut_one]
    exact h p _ (same_new np) upd_same⟩
theorem weight_len : ∀ ds : List PyData, ds.length ≤ PyData.weightAll ds
  | [] => Nat.zero_le _
  | d :: ds => by
    have := weight_len ds
    simp only [PyData.weightAll, List.length_cons]
    omega
theorem weight_mem : ∀ (ds : List PyData) (d : PyData), d ∈ ds → d.weight ≤ PyData.weightAll ds
  | e :: ds, d, h => by
    simp only [PyData.weightAll]
    rcases List.mem_cons.mp h with h | h
    · rw [h]; omega
    · have := weight_mem ds d h
      omega
theorem weight_tup {ds : List PyData} {n : Nat} (h : (PyData.tuple ds).weight ≤ n) : ds.length ≤ n ∧ ∀ d ∈ ds, d.weight ≤ n := by
  simp only [PyData.weight] at h
  exact ⟨Nat.le_trans (weight_len ds) h, fun d hd => Nat.le_trans (weight_mem ds d hd) h⟩
theorem dqa_isB {H : Hp} {n : Int} : ∀ {xs : List V} {ds : List PyData}, DqA H xs ds → ds.all (fun d => isB d 0 (n - 1)) = true → ∃ ns : List Int, xs = ns.map V.int ∧ ds.map iv = ns
  | _, _, .nil, _ => ⟨[], rfl, rfl⟩
  | _, _, .cons h t, ha => by
    rw [List.all_cons, Bool.and_eq_true] at ha
    obtain ⟨ns, e1, e2⟩ := dqa_isB t ha.2
    obtain ⟨i, rfl, _⟩ := isB_bd ha.1
    cases h
    exact ⟨i :: ns, by rw [e1]; rfl, by rw [List.map_cons, e2]; rfl⟩
theorem dq3 {H : Hp} {v : V} {l x y : PyData} (h : Dq H v (.tuple [l, x, y])) : ∃ a u1 u2 u3, v = .ref a ∧ H a = some (.tup [u1, u2, u3]) ∧ Dq H u1 l ∧ Dq H u2 x ∧ Dq H u3 y := by
  cases h with
  | tup e q =>
    cases q with
    | cons q1 q =>
      cases q with
      | cons q2 q =>
        cases q with
        | cons q3 q =>
          cases q
          exact ⟨_, _, _, _, rfl, e, q1, q2, q3⟩
theorem is3 {d : PyData} (h : isT d 3 = true) : ∃ l x y, d = .tuple [l, x, y] := by
  cases d with
  | tuple ds =>
    have h1 : (ds.length : Int) = 3 := of_decide_eq_true h
    match ds, h1 with
    | [l, x, y], _ => exact ⟨l, x, y, rfl⟩
    | [], h => cases h
    | [_], h => simp at h
    | [_, _], h => simp at h
    | _ :: _ :: _ :: _ :: r, h => simp at h; omega
  | _ => cases h
theorem not3 {n : Int} {d : PyData} (h : isT d 3 = false) : deedErr n d = eForm := by
  cases d with
  | tuple ds =>
    match ds, h with
    | [l, x, y], h => cases h
    | [], _ => rfl
    | [_], _ => rfl
    | [_, _], _ => rfl
    | _ :: _ :: _ :: _ :: _, _ => rfl
  | _ => rfl
end Kr
namespace Kr
open PySem PySem.Spec PyProof.Rows L2
theorem asc_len {b : Nat} : ∀ (ks : List Nat) (lo : Nat), ks.Pairwise (· < ·) → (∀ k ∈ ks, lo ≤ k ∧ k < b) → lo ≤ b → lo + ks.length ≤ b
  | [], lo, _, _, h => h
  | k :: r, lo, hp, hb, _ => by
    obtain ⟨h1, h2⟩ := hb k List.mem_cons_self
    obtain ⟨p1, p2⟩ := List.pairwise_cons.mp hp
    have := asc_len r (k + 1) p2 (fun x hx => ⟨p1 x hx, (hb x (List.mem_cons_of_mem _ hx)).2⟩) (by omega)
    rw [List.length_cons]
    omega
theorem KsOk.len {n : Nat} {ks : List Nat} (h : KsOk n ks) (hn : 1 ≤ n) : ks.length + 1 ≤ n := by
  have := asc_len (b := n - 1) ks 0 h.asc (fun k hk => ⟨Nat.zero_le _, by have := h.up k hk; omega⟩) (by omega)
  omega
theorem fil_more {ks r : List Nat} {j : Nat} (e : ks.filter (fun k => decide (0 < k)) = j :: r) (hp : ks.Pairwise (· < ·)) : ks.filter (fun k => decide (j < k)) = r ∧ 1 ≤ j ∧ j ∈ ks ∧ (j :: r).Pairwise (· < ·) := by
  have hj : j ∈ ks.filter (fun k => decide (0 < k)) := by rw [e]; exact List.mem_cons_self
  obtain ⟨m1, m2⟩ := List.mem_filter.mp hj
  have hp2 : (j :: r).Pairwise (· < ·) := by
    rw [← e]
    exact hp.filter _
  refine ⟨?_, of_decide_eq_true m2, m1, hp2⟩
  have e1 : ks.filter (fun k => decide (j < k)) = (ks.filter (fun k => decide (0 < k))).filter (fun k => decide (j < k)) := by
    rw [List.filter_filter]
    refine List.filter_congr fun k _ => ?_
    by_cases h : j < k
    · rw [decide_eq_true h, decide_eq_true (show 0 < k by omega)]
      rfl
    · rw [decide_eq_false h]
      rfl
  rw [e1, e, List.filter_cons_of_neg (by simp), List.filter_eq_self.mpr fun k hk => decide_eq_true ((List.pairwise_cons.mp hp2).1 k hk)]
theorem KsOk.sub {n j : Nat} {ks r : List Nat} (h : KsOk n ks) (e : ks.filter (fun k => decide (0 < k)) = j :: r) : KsOk n (j :: r) ∧ 1 ≤ j ∧ j + r.length + 2 ≤ n := by
  obtain ⟨_, h1, _, h3⟩ := fil_more e h.asc
  have hu : ∀ k ∈ j :: r, k + 2 ≤ n := fun k hk => by
    rw [← e] at hk
    exact h.up k (List.mem_filter.mp hk).1
  refine ⟨⟨h3, hu⟩, h1, ?_⟩
  have h4 := hu j List.mem_cons_self
  have := asc_len (b := n - 1) (j :: r) j h3 (fun k hk => ⟨?_, by have := hu k hk; omega⟩) (by omega)
  · rw [List.length_cons] at this
    omega
  · rcases List.mem_cons.mp hk with rfl | hk
    · exact Nat.le_refl _
    · exact Nat.le_of_lt ((List.pairwise_cons.mp h3).1 k hk)
theorem inV_nv (k : Nat) (ks : List Nat) : inV (.int (k : Int)) (nv ks) = decide (k ∈ ks) := by
  have := inV_ints (k : Int) (ks.map fun k : Nat => (k : Int))
  rw [List.map_map] at this
  show inV _ (ks.map ((fun z : Int => V.int z) ∘ fun k : Nat => (k : Int))) = _
  rw [this, Bool.eq_iff_iff]
  simp
  constructor
  · rintro ⟨x, hx, e⟩
    have : x = k := by omega
    rwa [← this]
  · intro h
    exact ⟨k, h, rfl⟩
theorem flat_nv (ks : List Nat) : (nv ks).all flatV = true := by
  rw [List.all_eq_true]
  intro v hv
  obtain ⟨k, _, rfl⟩ := List.mem_map.mp hv
  rfl
theorem nv_at {ks : List Nat} {i : Nat} {x : V} (hx : (nv ks)[i]? = some x) : ∃ k : Nat, ks[i]? = some k ∧ x = V.int (k : Int) := by
  rw [List.getElem?_map] at hx
  cases g : ks[i]? with
  | none => rw [g] at hx; cases hx
  | some k => rw [g] at hx; exact ⟨k, rfl, (Option.some.inj hx).symm⟩
section
variable {K : PySem.W.Frag}
/-- [k for k in ks if p(k)] -/
theorem lc_filN {a D : Addr} {H : Hp} {ks : List Nat} {g : TG} {tt : TT} {te : TE} {vs : List Nat} {σ : L2.St} {Qd : Hp → Prop} (p : Nat → Bool) (ha : H a = some (.tup (nv ks))) (nD : H D = none) (hl : ks.length ≤ 100)
    (hs : ∀ (k : Nat) (G : Hp) (Z : Hp → Prop), k ∈ ks → Same H G → (p k = true → ∃ acc, G D = some (.lst acc) ∧ acc.length < sizeLine ∧ Z (upd G D (.lst (acc ++ [.int (k : Int)])))) → (p k = false → Z G) → g (.int (k : Int)) (wipe σ vs) G fun σ2 H2 => wipe σ2 vs = wipe σ vs ∧ tt σ2 H2 fun b H3 => if b = true then te σ2 H3 fun y H4 => ∃ acc, H4 D = some (.lst acc) ∧ acc.length < sizeLine ∧ Z (upd H4 D (.lst (acc ++ [y]))) else Z H3)
    (hd : ∀ G, Same H G → G D = some (.lst (nv (ks.filter p))) → Qd G) :
    ∃ W : Nat → Nat → Hp → Prop, (∃ m, W 0 m (upd H D (.lst []))) ∧ ∀ i m G, W i m G →
      ((Itt K a).stop i G ∧ Qd G) ∨ ((Itt K a).go i G ∧ ∃ Nx : Hp → Prop, (∀ H', Nx H' → ∃ m', m' < m ∧ W (i + 1) m' H') ∧ ∀ x H', (Itt K a).yld i G x H' → g x (wipe σ vs) H' fun σ2 H2 => wipe σ2 vs = wipe σ vs ∧ tt σ2 H2 fun b H3 =>
        if b = true then te σ2 H3 fun y H4 => ∃ acc, H4 D = some (.lst acc) ∧ acc.length < sizeLine ∧ Nx (upd H4 D (.lst (acc ++ [y]))) else Nx H3) := by
  refine lc_tup (K := K) (xs := nv ks) (fun i G => G D = some (.lst (nv ((ks.take i).filter p))) ∧ Same H G) ⟨upd_same, same_new nD⟩ (fun _ _ _ ⟨_, sm⟩ => SqT.of (sm _ _ ha)) ?_ ?_
  · rintro i x G hx ⟨hD, sm⟩
    obtain ⟨k, hk, rfl⟩ := nv_at hx
    have et : ks.take (i + 1) = ks.take i ++ [k] := by
      rw [List.take_add_one, hk]
      rfl
    refine hs k G _ (List.mem_of_getElem? hk) sm (fun c => ⟨_, hD, szl ?_, ?_, fun b o hb => ?_⟩) (fun c => ⟨?_, sm⟩)
    · rw [List.length_map]
      exact Nat.lt_of_le_of_lt (List.length_filter_le _ _) (by rw [List.length_take]; omega)
    · rw [upd_same, et, List.filter_append]
      simp [nv, c]
    · rw [upd_ne (ne_of_none hb nD)]
      exact sm _ _ hb
    · rw [hD, et, List.filter_append]
      simp [nv, c]
  · rintro G ⟨hD, sm⟩
    rw [List.length_map, List.take_length] at hD
    exact hd G sm hD
end
end Kr
namespace Kr
open PySem PySem.Spec PyProof.Rows L2
theorem allC_pos : ∀ n < 11, 1 ≤ allC n := by decide +kernel
section
variable {n : Nat} {ks : List Nat}
theorem tc_parts (n0 : 3 ≤ n) (n1 : n ≤ 10) (hk : KsOk n ks) : ∃ A : Nat, tcN n ks = A * (if 0 ∈ ks then fac n else 1) ∧ A * fac n < 10 ^ 4300 ∧ allC n % (A * fac n) = 0 := by
  cases e : ks.filter fun k => decide (0 < k) with
  | nil => exact ⟨1, by unfold tcN; rw [e], by rw [Nat.one_mul]; exact Nat.lt_trans (fac_lt (by omega)) (by decide +kernel), by rw [Nat.one_mul]; exact divides0 n (by omega)⟩
  | cons j r =>
    obtain ⟨_, h1, h2⟩ := hk.sub e
    exact ⟨keyed n j r.length, by unfold tcN; rw [e], keyed_lt (by omega) n0 h1 h2, divides (by omega) n0 h1 h2⟩
theorem zf_le : (if 0 ∈ ks then fac n else 1) ≤ fac n := by
  split
  · exact Nat.le_refl _
  · exact fac_pos n
theorem tc_lt (n0 : 3 ≤ n) (n1 : n ≤ 10) (hk : KsOk n ks) : tcN n ks < 10 ^ 4300 := by
  obtain ⟨A, e, h, _⟩ := tc_parts n0 n1 hk
  rw [e]
  exact Nat.lt_of_le_of_lt (Nat.mul_le_mul_left _ zf_le) h
theorem tc_dvd (n0 : 3 ≤ n) (n1 : n ≤ 10) (hk : KsOk n ks) : tcN n ks ∣ allC n := by
  obtain ⟨A, e, _, h⟩ := tc_parts n0 n1 hk
  rw [e]
  refine Nat.dvd_trans (Nat.mul_dvd_mul_left A ?_) (Nat.dvd_of_mod_eq_zero h)
  split
  · exact Nat.dvd_refl _
  · exact Nat.one_dvd _
theorem tc_pos (n0 : 3 ≤ n) (n1 : n ≤ 10) (hk : KsOk n ks) : 1 ≤ tcN n ks := Nat.pos_of_dvd_of_pos (tc_dvd n0 n1 hk) (allC_pos n (by omega))
theorem tc_mod (n0 : 3 ≤ n) (n1 : n ≤ 10) (hk : KsOk n ks) : ((allC n : Nat) : Int) % ((tcN n ks : Nat) : Int) = 0 := by
  rw [← Int.natCast_emod, Nat.mod_eq_zero_of_dvd (tc_dvd n0 n1 hk)]
  rfl
theorem tc_zero (h : 0 ∉ ks) : tcN n (0 :: ks) = tcN n ks * fac n := by
  unfold tcN
  rw [List.filter_cons_of_neg (by simp), if_pos List.mem_cons_self, if_neg h, Nat.mul_one]
theorem ks_zero (n0 : 3 ≤ n) (hk : KsOk n ks) (h : 0 ∉ ks) : KsOk n (0 :: ks) := by
  refine ⟨List.pairwise_cons.mpr ⟨fun k hm => ?_, hk.asc⟩, fun k hm => ?_⟩
  · by_cases c : k = 0
    · subst c
      exact absurd hm h
    · omega
  · rcases List.mem_cons.mp hm with rfl | hm
    · omega
    · exact hk.up k hm
theorem tc_one : tcN n [0] = fac n := by
  unfold tcN
  rw [List.filter_cons_of_neg (by simp), if_pos List.mem_cons_self]
  exact Nat.one_mul _
theorem tc_sums {j : Nat} {r : List Nat} (n0 : 3 ≤ n) (n1 : n ≤ 10) (hk : KsOk n ks) (e : ks.filter (fun k => decide (0 < k)) = j :: r) : 2 ^ (r.length + 1) * oneRow n j * (if 0 ∈ ks then fac n else 1) = tcN n ks := by
  obtain ⟨_, h1, h2⟩ := hk.sub e
  rw [sums_keyed (by omega) n0 h1 h2]
  unfold tcN
  rw [e]
theorem keyed_two (j o : Nat) : keyed n j (o + 1) = 2 * keyed n j o := by
  unfold keyed
  rw [Nat.pow_succ, ← Nat.mul_assoc, Nat.mul_comm]
theorem tc_more {j x : Nat} {r ks2 : List Nat} (hk : KsOk n ks) (e : ks.filter (fun k => decide (0 < k)) = j :: r) (hx : j < x) (hm : x ∉ ks) (hxn : x + 2 ≤ n) (hp : ks2.Perm (ks ++ [x])) (hs : ks2.Pairwise (· ≤ ·)) : KsOk n ks2 ∧ tcN n ks2 = 2 * tcN n ks := by
  obtain ⟨_, j1, jm, hjr⟩ := fil_more e hk.asc
  have nd1 : ks.Nodup := hk.asc.imp fun h => Nat.ne_of_lt h
  have nd : ks2.Nodup := hp.nodup_iff.mpr (List.nodup_append.mpr ⟨nd1, List.pairwise_singleton _ _, fun a ha b hb => by
    rw [List.mem_singleton.mp hb]
    exact fun z => hm (by rw [← z]; exact ha)⟩)
  have asc : ks2.Pairwise (· < ·) := (hs.and nd).imp fun h => Nat.lt_of_le_of_ne h.1 h.2
  have up : ∀ k ∈ ks2, k + 2 ≤ n := fun k hk2 => by
    rcases List.mem_append.mp (hp.mem_iff.mp hk2) with h | h
    · exact hk.up k h
    · rw [List.mem_singleton.mp h]
      exact hxn
  refine ⟨⟨asc, up⟩, ?_⟩
  have hf : (ks2.filter fun k => decide (0 < k)).Perm (j :: r ++ [x]) := by
    have := hp.filter fun k => decide (0 < k)
    rw [List.filter_append, e, List.filter_cons_of_pos (by simp; omega)] at this
    exact this
  have fa : (ks2.filter fun k => decide (0 < k)).Pairwise (· < ·) := asc.filter _
  have z : (0 ∈ ks2) ↔ 0 ∈ ks := by
    rw [hp.mem_iff, List.mem_append]
    constructor
    · rintro (h | h)
      · exact h
      · have := List.mem_singleton.mp h
        omega
    · exact .inl
  have hz : (if 0 ∈ ks2 then fac n else 1) = if 0 ∈ ks then fac n else 1 := by
    by_cases c : 0 ∈ ks
    · rw [if_pos c, if_pos (z.mpr c)]
    · rw [if_neg c, if_neg (fun h => c (z.mp h))]
  cases e2 : ks2.filter fun k => decide (0 < k) with
  | nil =>
    rw [e2] at hf
    have := hf.length_eq
    simp at this
  | cons j2 r2 =>
    rw [e2] at hf fa
    have hl := hf.length_eq
    rw [List.length_append, List.length_cons, List.length_cons, List.length_cons, List.length_nil] at hl
    have h1 : j2 ≤ j := by
      rcases List.mem_cons.mp (hf.mem_iff.mpr (List.mem_append.mpr (.inl List.mem_cons_self))) with h | h
      · omega
      · exact Nat.le_of_lt ((List.pairwise_cons.mp fa).1 j h)
    have h2 : j ≤ j2 := by
      rcases List.mem_append.mp (hf.mem_iff.mp List.mem_cons_self) with h | h
      · rcases List.mem_cons.mp h with h | h
        · omega
        · exact Nat.le_of_lt ((List.pairwise_cons.mp hjr).1 j2 h)
      · rw [List.mem_singleton.mp h]
        omega
    obtain rfl : j2 = j := by omega
    unfold tcN
    rw [e, e2, hz]
    show keyed n j2 r2.length * _ = 2 * (keyed n j2 r.length * _)
    rw [show r2.length = r.length + 1 by omega, keyed_two, Nat.mul_assoc]
end
theorem nat_sorted {ks : List Nat} {ns : List Int} (hp : ns.Perm (ks.map fun k : Nat => (k : Int))) (hs : ns.Pairwise (· ≤ ·)) : ∃ ks2 : List Nat, ns.map V.int = nv ks2 ∧ ks2.Perm ks ∧ ks2.Pairwise (· ≤ ·) := by
  have e : ∀ z ∈ ns, ((z.toNat : Nat) : Int) = z := fun z hz => by
    obtain ⟨k, _, rfl⟩ := List.mem_map.mp (hp.mem_iff.mp hz)
    rw [Int.toNat_natCast]
  refine ⟨ns.map Int.toNat, ?_, ?_, ?_⟩
  · show _ = (ns.map Int.toNat).map _
    rw [List.map_map]
    refine List.map_congr_left fun z hz => ?_
    show V.int z = V.int ((z.toNat : Nat) : Int)
    rw [e z hz]
  · have := hp.map Int.toNat
    rw [List.map_map] at this
    have e2 : ks.map (Int.toNat ∘ fun k : Nat => (k : Int)) = ks := by
      rw [show (Int.toNat ∘ fun k : Nat => (k : Int)) = id from funext fun k => Int.toNat_natCast k, List.map_id]
    rwa [e2] at this
  · exact List.pairwise_map.mpr (hs.imp fun h => Int.toNat_le_toNat h)
end Kr
namespace Kr
open PySem PySem.Spec PyProof.Rows L2
/-- two ways of an expression that meet again -/
theorem ifE_join {c : Prop} [Decidable c] {a b : TE} {σ τ : L2.St} {Ha Hb : Hp} {Q : VK} (R : V → Hp → Prop) (h : ∀ v G, R v G → Q v G) (hA : c → ∀ Q' : VK, (∀ v G, R v G → Q' v G) → a σ Ha Q') (hB : ¬ c → ∀ Q' : VK, (∀ v G, R v G → Q' v G) → b τ Hb Q') : if c then a σ Ha Q else b τ Hb Q :=
  ite2 (fun k => hA k Q h) fun k => hB k Q h
/-- two ways of a statement that meet again, none of which ends the def -/
theorem ifS_join {c : Prop} [Decidable c] {a b : L2.TS} {D : Ends} {σ τ : L2.St} {Ha Hb : Hp} (R : L2.St → Hp → Prop) (h : ∀ σ G, R σ G → D.nx σ G) (hA : c → ∀ D' : Ends, (∀ σ G, R σ G → D'.nx σ G) → a D' σ Ha) (hB : ¬ c → ∀ D' : Ends, (∀ σ G, R σ G → D'.nx σ G) → b D' τ Hb) : if c then a D σ Ha else b D τ Hb :=
  ite2 (fun k => hA k D h) fun k => hB k D h
end Kr
namespace Kr
open PySem PySem.Spec PyProof.Rows L2
section
variable {prog : Program} {w : World} {A : Around} {E : Value → Shared → Prop} {s : Shared}
/-- the heap behind a collecting -/
def gathered (h : Heap) (vs : List Value) : Heap := (h.push (seqObj "list" #[] 0)).update h.objs.size (Obj.mapSeq (· ++ vs.toArray))
theorem collect_tup {t : Addr} {vs : List Value} {Q : List Value → Shared → Prop} (hl : IsTup s.heap t vs.toArray) (h : Q vs { s with heap := gathered s.heap vs }) (hsz : vs.length ≤ sizeLine) : wpAny (model prog w) A (collect (.ref t)) Q E s := by
  obtain ⟨ot, gt, ct, nt, dt⟩ := id hl
  unfold collect
  refine wpAny_bind (wpAny_runValue (codeAny_builtin entry_proto_collect' ?_))
  show wpAny (model prog w) _ (do again (.builtin "list.__iadd__" ⟨[← newList [], .ref t], []⟩)) _ _ s
  refine wpAny_bind (wpAny_newList (wpAny_pure ⟨Code.quiet_builtin _ (by decide +kernel), codeAny_builtin entry_list_iadd' (?_ : wpAny (model prog w) _ (Builtin.List.listExtendWith (.ref s.heap.objs.size) (.ref t) (.ref s.heap.objs.size)) _ _ { s with heap := s.heap.push (seqObj "list" #[] 0) })⟩))
  unfold Builtin.List.listExtendWith
  have gt' : (s.heap.push (seqObj "list" #[] 0)).get? t = some ot := Heap.get?_push_of_some _ gt
  refine wpAny_bind (wpAny_typeOf (T := "tuple") ⟨ot, gt', ct⟩ ?_)
  have tt : (Value.type "tuple" == Value.type "tuple") = true := by rfl
  rw [if_pos (by rw [tt]; simp)]
  refine wpAny_bind (listItems_at gt' dt (wpAny_bind (listItems_at (xs := #[]) (n := 0) (Heap.get?_push_size _ rfl) rfl ?_)))
  rw [if_neg (by simp)]
  refine wpAny_bind (listUpdate_at (xs := #[]) (n := 0) (Heap.get?_push_size _ rfl) rfl (wpAny_pure ?_) (Nat.zero_le _) (by show (#[] ++ vs.toArray).size ≤ sizeLine + 1; simp only [Array.size_append, List.size_toArray, List.length_nil]; omega))
  show wpAny (model prog w) A (do let ob ← load s.heap.objs.size; match ob.data with | .seq xs _ => pure xs.toList | _ => unsupported "internal:collect") Q E { s with heap := gathered s.heap vs }
  refine wpAny_bind (wpAny_load (get?_update_seq (Heap.get?_push_size _ rfl) _) ?_)
  show wpAny (model prog w) A (pure ((#[] : Array Value) ++ vs.toArray).toList) Q E _
  have e0 : ((#[] : Array Value) ++ vs.toArray).toList = vs := by simp
  rw [e0]
  exact wpAny_pure h
theorem sorted_tup {t : Addr} {vs : List Value} {ltv : Value → Value → Bool} {Q : Value → Shared → Prop} (O : SrtO.Swo ltv) (hl : IsTup s.heap t vs.toArray) (hz : vs.length ≤ sizeLine)
    (hS : 2 ≤ vs.length → ∀ (h₁ : Heap) (a : Addr), h₁.get? a = some (seqObj "list" vs.toArray 0) → (∀ b o, s.heap.get? b = some o → b ≠ a ∧ h₁.get? b = some o) → SrtO.SortableO prog w A.in1.in1 { s with heap := h₁ } a vs ltv)
    (h : ∀ out : List Value, SrtO.Srtd ltv out → SrtO.Stb ltv out vs → Q (.ref (s.heap.objs.size + 1)) { s with heap := sortedAll s.heap vs out.toArray }) : wpAny (model prog w) A (call (.builtin "sorted") [.ref t]) Q E s := by
  refine Calls.call_function_entry kind_sorted plain_sorted entry_sorted (args_sorted1 _) ?_
  unfold Builtin.«sorted»
  refine wpAny_bind (m := checkCount "sorted" 1 1 _) (wpAny_pure (wpAny_bind (collect_tup hl (wpAny_bind (wpAny_newList ?_ hz)) hz)))
  have z1 : (gathered s.heap vs).objs.size = s.heap.objs.size + 1 := (Heap.size_update _ _ _).trans (size_push' _ _)
  have lst : ((gathered s.heap vs).push (seqObj "list" vs.toArray 0)).get? (s.heap.objs.size + 1) = some (seqObj "list" vs.toArray 0) := by
    rw [← z1]; exact Heap.get?_push_size _ rfl
  have stays : ∀ b o, s.heap.get? b = some o → b ≠ s.heap.objs.size + 1 ∧ ((gathered s.heap vs).push (seqObj "list" vs.toArray 0)).get? b = some o := fun b o q => by
    have lt := Heap.lt_size q
    refine ⟨Nat.ne_of_lt (Nat.lt_succ_of_lt lt), Heap.get?_push_of_some _ ?_⟩
    unfold gathered
    rw [Heap.get?_update_ne _ _ _ _ (Nat.ne_of_lt lt)]
    exact Heap.get?_push_of_some _ q
  show wpAny (model prog w) _ _ _ _ { s with heap := (gathered s.heap vs).push (seqObj "list" vs.toArray 0) }
  rw [z1]
  exact wpAny_bind (wpAny_holding (wpAny_call_entry slot_list_sort ⟨_, lst, rfl⟩ entry_list_sort (SrtO.list_sort_ord O lst hz (fun h2 => hS h2 _ _ lst stays) fun out hs hb => ⟨_, rfl, wpAny_pure ⟨_, rfl, h out hs hb⟩⟩) (args_list_sort _)))
end
section
variable {X : Cx}
/-- sorted(t), t a tuple of whole numbers -/
def rSortT (K : PySem.W.Frag) : List V → Hp → VK → Prop := fun vs H Q => ∃ (a : Addr) (ns : List Int), vs = [V.ref a] ∧ SqT K H a (ns.map V.int) ∧ ∀ (ns' : List Int) (p : Addr), ns'.Perm ns → ns'.Pairwise (· ≤ ·) → H p = none → Q (.ref p) (upd H p (.lst (ns'.map V.int)))
theorem cr_sortT5 : CallR X (.builtin "sorted") (rSortT X.K) := by
  intro pins s σ H vs us Q I r h
  obtain ⟨a, ns, rfl, hs, q⟩ := h
  obtain ⟨its, rv, ht, hz⟩ := I.tuple hs
  rw [Vals.ref1 r]
  have hi := rv.ints
  refine sorted_tup SrtO.swo_int ht (by rw [← rv.length]; exact hz) (fun h2 _ _ _ _ => SrtO.ints_sortable hi h2) fun out h1 h2 => ?_
  obtain ⟨k1, k2, k3⟩ := SrtO.ints_out hi h1 h2
  obtain ⟨ep, he⟩ := PyProof.Rows.sortedAll_at s.heap its out.toArray
  have hl : ((out.map SrtO.iv).map V.int).length ≤ sizeLine := by
    rw [List.length_map] at hz
    rw [List.length_map, k2.length_eq]
    exact hz
  exact ⟨.ref _, upd H (s.heap.objs.size + 1) (.lst ((out.map SrtO.iv).map V.int)), I.laid (t' := s.toks) (fun _ _ => PyProof.Rows.sortedAll_old) (Nat.le_succ _) ⟨hl, out, ep, vals_of_ints k1, he⟩, rfl, q _ _ k2 k3 (I.hok.fresh (Nat.le_succ _))⟩
end
end Kr
namespace Kr
open PySem PySem.Spec PyProof.Rows L2 PySem.SeqAt PySem.MeetsSeq
/-! ### x == i, x any data, i a number -/
theorem dict_eq_declines_int (l : Addr) (es : Array DictEntry) (ep : Nat) (dd : Option Addr) (sl : Array (Option Value)) (b : Int) (u : Tok) :
    Meets (Builtin.«dict.__eq__» ⟨[.ref l, .int b u], []⟩) (fun _ R s => s.heap.get? l = some { cls := .type "dict", dict := dd, data := .dict es ep, slots := sl } ∧ R (.ok (.ret .notImplemented)) s) :=
  .of_wp fun prog w A R s h => by obtain ⟨hp, g, d, tk, os⟩ := s; obtain ⟨hl, h⟩ := h; have f1 := F.sub_int_dict; wp_walk using wpAny_loadPart' hl; exact ⟨_, rfl, h⟩
theorem int_eq_declines_dict (b : Int) (u : Tok) (l : Addr) (c : Value) (es : Array DictEntry) (ep : Nat) (dd : Option Addr) (sl : Array (Option Value)) :
    Meets (Builtin.«int.__eq__» ⟨[.int b u, .ref l], []⟩) (fun _ R s => s.heap.get? l = some { cls := c, dict := dd, data := .dict es ep, slots := sl } ∧ R (.ok (.ret .notImplemented)) s) :=
  .of_wp fun prog w A R s h => by obtain ⟨hp, g, d, tk, os⟩ := s; obtain ⟨hl, h⟩ := h; wp_walk using wpAny_loadPart' hl, wpAny_load hl; exact ⟨_, rfl, h⟩
theorem rc_dict_int {A : Around} {s : Shared} {l : Addr} {es : Array DictEntry} {ep : Nat} {dd : Option Addr} {sl : Array (Option Value)} (b : Int) (u : Tok) (ho : s.heap.get? l = some { cls := .type "dict", dict := dd, data := .dict es ep, slots := sl }) (hu : A.units < cLine) : RcAt A s (.ref l) (.int b u) false := fun prog w E Q h => by
  exact rc_eq_decline_or (k := false) ⟨_, ho, rfl⟩ (typeIs_int s b u) (by decide) F.sub_int_dict F.slot_dict_eq F.slot_int_eq_refl
    (fun _ hq => call_meets F.slot_dict_eq ⟨_, ho, rfl⟩ F.entry_dict_eq (F.args_dict_eq_2 _ _) (dict_eq_declines_int l es ep dd sl b u) ⟨ho, hq⟩)
    (fun _ hq => call_meets F.slot_int_eq_refl (typeIs_int s b u) F.entry_int_eq (F.args_int_eq_2 _ _) (int_eq_declines_dict b u l (.type "dict") es ep dd sl) ⟨ho, hq⟩)
    (fun _ hq => wpAny_of_eq (rfl : isSame (.ref l) (.int b u) = pure false) hq) (.inr hu) h
def rEq1 : R2 := fun x y H Q => ∃ (d : PyData) (i : Int), Dq H x d ∧ y = .int i ∧ Q (.bl (PyData.eqv d (.int i))) H
theorem op_eq1 {X : Cx} (hu : X.A.units + 64 < cLine) : OpR X (compareOp .Eq) rEq1 := by
  intro pins s σ H x y v u Q I rx ry h
  obtain ⟨d, i, hd, rfl, q⟩ := h
  obtain ⟨t, rfl⟩ := ry
  have hu : X.A.units < cLine := by omega
  cases hd with
  | non =>
    cases rx
    exact RcAt.none_int i t X.prog X.w X.xe _ ⟨.bl _, H, I, rfl, q⟩
  | bl b =>
    cases rx
    exact RcAt.bool_int b i t X.prog X.w X.xe _ ⟨.bl _, H, I, rfl, q⟩
  | int j =>
    obtain ⟨t', rfl⟩ := rx
    exact RcAt.int_int j t' i t X.prog X.w X.xe _ ⟨.bl _, H, I, rfl, q⟩
  | str z =>
    obtain ⟨t', rfl⟩ := rx
    exact RcAt.str_int z t' i t X.prog X.w X.xe _ ⟨.bl _, H, I, rfl, q⟩
  | lst e _ =>
    cases rx
    obtain ⟨its, _, p1, _⟩ := I.list (SqL.of (K := X.K) e)
    exact RcAt.list_int i t p1.isList hu X.prog X.w X.xe _ ⟨.bl _, H, I, rfl, q⟩
  | tup e _ =>
    cases rx
    obtain ⟨its, _, p1, _⟩ := I.tuple (SqT.of (K := X.K) e)
    exact RcAt.tuple_int i t p1 hu X.prog X.w X.xe _ ⟨.bl _, H, I, rfl, q⟩
  | @dic a e =>
    cases rx
    obtain ⟨_, hsys, vs, rel, ⟨cls, dd, data, sl⟩, es, ep, ho, hx, hd, _⟩ := I.hok a _ e
    obtain rfl : cls = .type "dict" := hx.1
    simp only at hd
    subst hd
    exact rc_dict_int i t ho hu X.prog X.w X.xe _ ⟨.bl _, H, I, rfl, q⟩
/-- a tuple beside () -/
def rEqT0 (K : PySem.W.Frag) : R2 := fun x y H Q => ∃ l b xs, x = .ref l ∧ y = .ref b ∧ SqT K H l xs ∧ SqT K H b [] ∧ Q (.bl xs.isEmpty) H
theorem all0 (n : Nat) (e : Nat → Bool) : ((List.range (min n 0)).all e && n == 0) = decide (n = 0) := by
  rw [Nat.min_zero]
  cases n <;> rfl
theorem isE {xs : List V} {its : List Value} (r : Vals xs its) : decide (its.toArray.size = 0) = xs.isEmpty := by
  cases r with
  | nil => rfl
  | cons _ _ => rfl
theorem op_eqT0 {X : Cx} (hu : X.A.units + 64 < cLine) : OpR X (compareOp .Eq) (rEqT0 X.K) := by
  intro pins s σ H x y v u Q I rx ry h
  obtain ⟨l, b, xs, rfl, rfl, hl, hb, q⟩ := h
  obtain rfl : v = Value.ref l := rx
  obtain rfl : u = Value.ref b := ry
  obtain ⟨its, r1, p1, _⟩ := I.tuple hl
  obtain ⟨it2, r2, p2, _⟩ := I.tuple hb
  cases r2
  refine SeqAt.RcAt.tuples (e := fun _ => true) p1 p2 (by omega) (fun j _ h2 => absurd h2 (by simp)) X.prog X.w X.xe _ ⟨.bl xs.isEmpty, H, I, ?_, q⟩
  show Value.bool _ = Value.bool _
  rw [← isE r1]
  exact congrArg Value.bool (all0 _ _)
end Kr
namespace Kr
open PySem PySem.Spec PyProof.Rows L2
/-! ### a tuple that is not () -/
def rNeT0 (K : PySem.W.Frag) : R2 := fun x y H Q => ∃ l b xs, x = .ref l ∧ y = .ref b ∧ SqT K H l xs ∧ SqT K H b [] ∧ Q (.bl (!xs.isEmpty)) H
theorem op_neT0 {X : Cx} (hu : X.A.units + 64 < cLine) : OpR X (compareOp .NotEq) (rNeT0 X.K) := by
  intro pins s σ H x y v u Q I rx ry h
  obtain ⟨l, b, xs, rfl, rfl, hl, hb, q⟩ := h
  obtain rfl : v = Value.ref l := rx
  obtain rfl : u = Value.ref b := ry
  obtain ⟨its, r1, p1, _⟩ := I.tuple hl
  obtain ⟨it2, r2, p2, _⟩ := I.tuple hb
  cases r2
  refine SeqAt.RcNeAt.tuples (e := fun _ => true) p1 p2 (by omega) (fun j _ h2 => absurd h2 (by simp)) X.prog X.w X.xe _ ⟨.bl (!xs.isEmpty), H, I, ?_, q⟩
  show Value.bool _ = Value.bool _
  rw [← isE r1]
  exact congrArg (fun z => Value.bool (!z)) (all0 _ _)
end Kr
namespace Kr
open PySem PySem.Spec PyProof.Rows L2
def spLaw (K : PySem.W.Frag) : Sp := fun vs H Q _ => ∃ (a : Addr) (ns : List Int), vs = [.ref a] ∧ SqL K H a (ns.map V.int) ∧ ns.length ≤ 63 ∧ ∀ H', Q (.bl true) H'
section
variable {K : PySem.W.Frag} {p l : Addr} {σ : L2.St} {H : Hp}
/-- a test that never holds -/
theorem ifS_no {tt : TT} {ta tb : L2.TS} {D : Ends} (R : Hp → Prop) (h : ∀ G, R G → tb D σ G) (hk : ∀ Z : Bool → Hp → Prop, (∀ G, R G → Z false G) → tt σ H Z) : tIfS tt ta tb D σ H := by
  refine hk _ fun G r => ?_
  exact iteF (h G r)
theorem sq_ifS_no {tt : TT} {ta u : L2.TS} {D : Ends} (R : Hp → Prop) (h : ∀ G, R G → u D σ G) (hk : ∀ Z : Bool → Hp → Prop, (∀ G, R G → Z false G) → tt σ H Z) : tSeq (tIfS tt ta tNext) u D σ H := ifS_no R h hk
theorem ifS_yes {tt : TT} {ta tb : L2.TS} {D : Ends} (h : tt σ H fun b H1 => if b = true then ta D σ H1 else tb D σ H1) : tIfS tt ta tb D σ H := h
end
section
variable {P : Program} {w : World} {K : PySem.W.Frag} {mg : Str → Option Value} {base : Heap}
abbrev n_Law : List Str := ["script", "deck", "n", "turn", "often", "kinds", "k", "due", "own", "rest", "more"]
theorem sc_Law : FnScope n_Law ["script"] (defScope sLaw) := ⟨rfl, rfl, rfl, by decide +kernel, rfl, by decide +kernel, by decide +kernel⟩
theorem ok_law {f : Addr} {fd : FuncData} (F : Fun K "law" "law" sLaw f fd) (B : Bi mg) (hz : base.NoDigits) (dk : Ok P w K mg base 1 "_law_deck" ["script"] (spDeck K)) (dr : Ok P w K mg base 1 "_law_draw" ["deck", "many"] spDraw) (pk : Ok P w K mg base 2 "_law_pick" ["deck", "some"] spPick) (ac : OkN P w K mg base 3 "all_count" ["n"] ["n"] spAllC) (tc : OkN P w K mg base 4 "table_count" ["n", "kinds"] ["kinds", "n"] spTc) (la : Ok P w K mg base 3 "_law_all" ["n"] spAllC) (lp : Ok P w K mg base 1 "_law_product" ["n"] spFacN) (pl : Ok P w K mg base 3 "_law_plain" ["n", "kinds"] spTc) (su : Ok P w K mg base 3 "_law_sums" ["n", "kinds"] spSumsN) : FnG P w K mg base CX0 6 f fd ["script"] (spLaw K) := by
  refine okG F sc_Law (fun vs H Q E h => ?_) (fun cdv A outer s H vs Q E hg hr h => ?_)
  · obtain ⟨_, _, rfl, _⟩ := h
    rfl
  · obtain ⟨a, ns, rfl, hS, hlen, q⟩ := h
    have hr_dk := hr.mono (show 1 ≤ 5 by omega)
    have hr_dr := hr.mono (show 1 ≤ 5 by omega)
    have hr_pk := hr.mono (show 2 ≤ 5 by omega)
    have hr_ac := hr.mono (show 3 ≤ 5 by omega)
    have hr_tc := hr.mono (show 4 ≤ 5 by omega)
    have hr_la := hr.mono (show 3 ≤ 5 by omega)
    have hr_lp := hr.mono (show 1 ≤ 5 by omega)
    have hr_pl := hr.mono (show 3 ≤ 5 by omega)
    have hr_su := hr.mono (show 3 ≤ 5 by omega)
    have hu : (cxOf CX0 P w K mg base n_Law "law" (defScope sLaw) f cdv A outer s H E).A.units + 64 < cLine := hr.units
    have hu1 := hu_of hr
    have cr := call_repr (X := (cxOf CX0 P w K mg base n_Law "law" (defScope sLaw) f cdv A outer s H E).nox) hg hr.units
    refine ⟨_, pss_cons (ps_set (i := 1) sc_Law.nd rfl (.inr rfl) (pe_fn dk hr_dk (by rfl) (pa_cons (pv 0) pa_nil)))
      (pss_cons (ps_for PassesOwn.never rfl (pi_list (pe_lst (pa_cons pe_int (pa_cons (pe_op op_add pe_int (pe_fn dr hr_dr (by rfl) (pa_cons (pv 1) (pa_cons pe_int pa_nil)))) (pa_cons (pe_ifExp (pt_cmpR op_eq (pe_fn dr hr_dr (by rfl) (pa_cons (pv 1) (pa_cons pe_int pa_nil))) pe_int (nomark _)) (pe_op op_add pe_int (pe_fn dr hr_dr (by rfl) (pa_cons (pv 1) (pa_cons pe_int pa_nil)))) pe_int) pa_nil))))) (pg_name (i := 2) sc_Law.nd rfl (.inl rfl))
        (pss_one (ps_if (pt_cmpR op_ne (pe_callB (call_reprW hg hr.units hz) (by rfl) B.repr (by decide +kernel) (pa_cons (pe_lst (pa_cons (pe_fn ac.ok hr_ac (by rfl) (pa_cons (pv 2) pa_nil)) (pa_cons (pe_fnN ac hr_ac (by rfl) (pk_cons (pv 2) pk_nil)) pa_nil))) pa_nil)) (pe_callB (call_reprW hg hr.units hz) (by rfl) B.repr (by decide +kernel) (pa_cons (pe_op op_rep (pe_lst (pa_cons (pe_fn la hr_la (by rfl) (pa_cons (pv 2) pa_nil)) pa_nil)) pe_int) pa_nil)) (nomark _)) (pss_one (ps_ret pe_bl)) pss_nil)))
      (pss_cons (ps_for PassesOwn.never rfl (pi_range1 (by rfl) B.range (pa_cons pe_int pa_nil)) (pg_name (i := 3) sc_Law.nd rfl (.inl rfl))
        (pss_cons (ps_set (i := 2) sc_Law.nd rfl (.inl rfl) (pe_ix ix_list (pe_lst (pa_cons pe_int (pa_cons (pe_op op_add pe_int (pe_fn dr hr_dr (by rfl) (pa_cons (pv 1) (pa_cons pe_int pa_nil)))) (pa_cons (pe_ifExp (pt_cmpR op_eq (pe_fn dr hr_dr (by rfl) (pa_cons (pv 1) (pa_cons pe_int pa_nil))) pe_int (nomark _)) (pe_op op_add pe_int (pe_fn dr hr_dr (by rfl) (pa_cons (pv 1) (pa_cons pe_int pa_nil)))) pe_int) pa_nil)))) (pv 3) (fun _ _ => rfl)))
        (pss_cons (ps_set (i := 4) sc_Law.nd rfl (.inr rfl) (pe_fn pk hr_pk (by rfl) (pa_cons (pv 1) (pa_cons (pe_lst (pa_cons pe_int (pa_cons pe_int (pa_cons pe_int (pa_cons pe_int pa_nil))))) pa_nil))))
        (pss_cons (ps_set (i := 5) sc_Law.nd rfl (.inr rfl) (pe_callTy call_tuple_of (by rfl) B.tuple (by decide +kernel) (pa_cons (pe_lc (own := [("k", 6)]) (g := gName 6) rfl sc_Law.nd (pi_range1 (by rfl) B.range (pa_cons (pe_op op_sub (pv 2) pe_int) pa_nil)) (blkOk_by (own := [("k", 6)]) (N := n_Law) (sc := defScope sLaw) (by decide +kernel)) (fun _ _ _ _ _ => pg_name (i := 6) sc_Law.nd rfl (.inl rfl)) (fun _ _ _ _ _ => pts_one (pt_cmpR op_eq (pe_fn dr hr_dr (by rfl) (pa_cons (pv 1) (pa_cons (pv 4) pa_nil))) pe_int (nomark _))) (fun _ _ _ _ _ => (pv 6))) pa_nil)))
        (pss_cons (ps_set (i := 5) sc_Law.nd rfl (.inr rfl) (pe_ifExp (pt_cmpR (op_eqT0 hu) (pv 5) (pe_tup pa_nil) (nomark _)) (pe_tup (pa_cons (pe_fn dr hr_dr (by rfl) (pa_cons (pv 1) (pa_cons (pe_op op_sub (pv 2) pe_int) pa_nil))) pa_nil)) (pv 5)))
        (pss_cons (ps_asg (pe_tup (pa_cons (pe_fn pl hr_pl (by rfl) (pa_cons (pv 2) (pa_cons (pv 5) pa_nil))) (pa_cons (pe_callTy call_tuple_of (by rfl) B.tuple (by decide +kernel) (pa_cons (pe_lc (own := [("k", 6)]) (g := gName 6) rfl sc_Law.nd (pi_tup (pv 5)) (blkOk_by (own := [("k", 6)]) (N := n_Law) (sc := defScope sLaw) (by decide +kernel)) (fun _ _ _ _ _ => pg_name (i := 6) sc_Law.nd rfl (.inl rfl)) (fun _ _ _ _ _ => pts_one (pt_cmpR op_gt (pv 6) pe_int (nomark _))) (fun _ _ _ _ _ => (pv 6))) pa_nil)) pa_nil))) (pg_tup rfl (pgs_cons (pg_name (i := 7) sc_Law.nd rfl (.inl rfl)) (pgs_cons (pg_name (i := 8) sc_Law.nd rfl (.inr rfl)) pgs_nil))))
        (pss_cons (ps_if (PW.pt (pw_and (pt_cmpR (op_neT0 hu) (pv 8) (pe_tup pa_nil) (nomark _)) (pw_and1 (pt_cmpR op_ne (pe_op op_mulW (pe_fn su hr_su (by rfl) (pa_cons (pv 2) (pa_cons (pv 8) pa_nil))) (pe_ifExp (pt_cmpR (r := rIn K false) op_in_seq pe_int (pv 5) rfl) (pe_fn lp hr_lp (by rfl) (pa_cons (pv 2) pa_nil)) pe_int)) (pv 7) (nomark _))))) (pss_one (ps_ret pe_bl)) pss_nil)
        (pss_cons (ps_if (pt_cmpR op_ne (pe_callB (call_reprW hg hr.units hz) (by rfl) B.repr (by decide +kernel) (pa_cons (pe_lst (pa_cons (pe_fn tc.ok hr_tc (by rfl) (pa_cons (pv 2) (pa_cons (pv 5) pa_nil))) (pa_cons (pe_fnN tc hr_tc (by rfl) (pk_cons (pv 5) (pk_cons (pv 2) pk_nil))) pa_nil))) pa_nil)) (pe_callB (call_reprW hg hr.units hz) (by rfl) B.repr (by decide +kernel) (pa_cons (pe_lst (pa_cons (pv 7) (pa_cons (pv 7) pa_nil))) pa_nil)) (nomark _)) (pss_one (ps_ret pe_bl)) pss_nil)
        (pss_cons (ps_if (pt_cmpR op_ne (pe_op op_mod (pe_callTy call_int1 (by rfl) B.int (by decide +kernel) (pa_cons (pe_fn ac.ok hr_ac (by rfl) (pa_cons (pv 2) pa_nil)) pa_nil)) (pe_fn tc.ok hr_tc (by rfl) (pa_cons (pv 2) (pa_cons (pv 5) pa_nil)))) pe_int (nomark _)) (pss_one (ps_ret pe_bl)) pss_nil)
        (pss_cons (ps_if (PW.pt (pw_and (pt_cmpR (r := rIn K true) op_notIn_seq pe_int (pv 5) rfl) (pw_and1 (pt_cmpR op_ne (pe_callB (call_reprW hg hr.units hz) (by rfl) B.repr (by decide +kernel) (pa_cons (pe_fn tc.ok hr_tc (by rfl) (pa_cons (pv 2) (pa_cons (pe_op op_catA (pe_tup (pa_cons pe_int pa_nil)) (pv 5)) pa_nil))) pa_nil)) (pe_callB (call_reprW hg hr.units hz) (by rfl) B.repr (by decide +kernel) (pa_cons (pe_op op_mulW (pv 7) (pe_fn lp hr_lp (by rfl) (pa_cons (pv 2) pa_nil))) pa_nil)) (nomark _))))) (pss_one (ps_ret pe_bl)) pss_nil)
        (pss_cons (ps_setLc (i := 9) (own := [("k", 6)]) (g := gName 6) rfl sc_Law.nd rfl rfl (sw_true rfl rfl rfl (by decide +kernel)) (pi_range1 (by rfl) B.range (pa_cons (pe_op op_sub (pv 2) pe_int) pa_nil)) (blkOk_by (own := [("k", 6)]) (N := n_Law) (sc := defScope sLaw) (by decide +kernel)) (fun _ _ _ _ _ => pg_name (i := 6) sc_Law.nd rfl (.inl rfl)) (fun _ _ _ _ _ => pts_one (PW.pt (pw_and (pt_cmpR (r := rIn K true) op_notIn_seq (pv 6) (pv 5) rfl) (pw_and (pt_cmpR (r := rNeT0 K) (op_neT0 (by exact hu)) (pv 8) (pe_tup pa_nil) (nomark _)) (pw_and1 (pt_cmpR op_gt (pv 6) (pe_ix (r := rIxT K) ix_tup (pv 8) pe_int (fun _ _ => rfl)) (nomark _))))))) (fun _ _ _ _ _ => (pv 6)))
        (pss_one (ps_if (pt_cmpR (op_neN hu) (pv 9) (pe_lst pa_nil) (nomark _)) (pss_cons (ps_set (i := 10) sc_Law.nd rfl (.inl rfl) (pe_callTy call_tuple_of (by rfl) B.tuple (by decide +kernel) (pa_cons (pe_callB cr_sortT5 (by rfl) B.sorted (by decide +kernel) (pa_cons (pe_op op_catA (pv 5) (pe_tup (pa_cons (pe_fn pk hr_pk (by rfl) (pa_cons (pv 1) (pa_cons (pv 9) pa_nil))) pa_nil))) pa_nil)) pa_nil)))
          (pss_one (ps_if (pt_cmpR op_ne (pe_callB (call_reprW hg hr.units hz) (by rfl) B.repr (by decide +kernel) (pa_cons (pe_fn tc.ok hr_tc (by rfl) (pa_cons (pv 2) (pa_cons (pv 10) pa_nil))) pa_nil)) (pe_callB (call_reprW hg hr.units hz) (by rfl) B.repr (by decide +kernel) (pa_cons (pe_op op_mulW pe_int (pv 7)) pa_nil)) (nomark _)) (pss_one (ps_ret pe_bl)) pss_nil))) pss_nil)))))))))))))
      (pss_cons (ps_set (i := 2) sc_Law.nd rfl (.inl rfl) (pe_op op_add pe_int (pe_fn dr hr_dr (by rfl) (pa_cons (pv 1) (pa_cons pe_int pa_nil)))))
      (pss_one (ps_ret (pe_cmpR op_eq (pe_callB (call_reprW hg hr.units hz) (by rfl) B.repr (by decide +kernel) (pa_cons (pe_lst (pa_cons (pe_fn tc.ok hr_tc (by rfl) (pa_cons (pv 2) (pa_cons (pe_tup (pa_cons pe_int pa_nil)) pa_nil))) (pa_cons (pe_fn ac.ok hr_ac (by rfl) (pa_cons pe_int pa_nil)) pa_nil))) pa_nil)) (pe_callB (call_reprW hg hr.units hz) (by rfl) B.repr (by decide +kernel) (pa_cons (pe_lst (pa_cons (pe_fn lp hr_lp (by rfl) (pa_cons (pv 2) pa_nil)) (pa_cons pe_int pa_nil))) pa_nil)) (nomark _))))))), ?_⟩
    refine ⟨.ref a, rfl, a, ns, rfl, hS, by omega, fun H1 p l s1 np nl D1 => ?_⟩
    clear hS hlen s1 np nl
    dsimp only [tNext]
    refine ⟨.ref p, rfl, p, l, 3, rfl, D1, by decide, fun H2 z1 D2 _ z10 z11 => ⟨_, _, rfl, rfl, .ref p, rfl, p, l, 3, rfl, D2, by decide, fun H3 z2 D3 _ z20 z21 => ⟨rfl, _, rfl, ?_⟩⟩⟩
    refine ifE_join (R := fun v G => Deck G p l ∧ ∃ k : Nat, v = .int (k : Int) ∧ 3 ≤ k ∧ k ≤ 10) (fun v G4 ⟨D4, k3, ek, k30, k31⟩ => ?_) (fun _ Q' kk => ?_) (fun _ Q' kk => ?_)
    rotate_left
    · exact ⟨.ref p, rfl, p, l, 4, rfl, D3, by decide, fun H4 z3 D4 _ a b => ⟨_, _, rfl, rfl, kk _ _ ⟨D4, (7 + z3).toNat, by rw [Int.toNat_of_nonneg (by omega)], by omega, by omega⟩⟩⟩
    · exact kk _ _ ⟨D3, 5, rfl, by decide, by decide⟩
    subst ek
    have hxs : ∀ x ∈ [V.int 3, V.int (4 + z1), V.int (k3 : Int)], ∃ k : Nat, x = .int (k : Int) ∧ k ≤ 10 := fun x hx => by
      simp only [List.mem_cons, List.not_mem_nil, or_false] at hx
      rcases hx with rfl | rfl | rfl
      · exact ⟨3, rfl, by decide⟩
      · exact ⟨(4 + z1).toNat, by rw [Int.toNat_of_nonneg (by omega)], by omega⟩
      · exact ⟨k3, rfl, k31⟩
    refine ⟨by show 3 ≤ sizeLine; decide, fun L nL => ?_⟩
    have D5 := D4.up (same_new (o := .lst [.int 3, .int (4 + z1), .int (k3 : Int)]) nL)
    refine ⟨L, rfl, ⟨_, SqL.of upd_same⟩, for_it (walk_list (K := K) (a := L) (xs := [.int 3, .int (4 + z1), .int (k3 : Int)])) (fun i σ G => ∃ y2 : Option V, σ = [some (.ref a), some (.ref p), y2, none, none, none, none, none, none, none, none] ∧ Same (upd G4 L (.lst [.int 3, .int (4 + z1), .int (k3 : Int)])) G) ⟨none, rfl, Same.refl _⟩ (fun _ _ _ _ ⟨_, _, sm⟩ => SqL.of (sm _ _ upd_same)) ?_ ?_⟩
    · rintro i x σ _ G hi ⟨y2, rfl, sm⟩ ⟨rfl, hx⟩
      obtain ⟨k, rfl, hk10⟩ := hxs x (List.mem_of_getElem? hx)
      have al := all_lt k (by omega)
      refine ⟨.int (k : Int), rfl, k, rfl, hk10, fun G6 s6 => ⟨.int (k : Int), rfl, rfl, k, rfl, hk10, fun G7 s7 => ⟨by show 2 ≤ sizeLine; decide, fun L1 nL1 => ?_⟩⟩⟩
      have r2 : ∀ is : List Int, is = [((allC k : Nat) : Int), ((allC k : Nat) : Int)] → ∀ i ∈ is, i.natAbs < 10 ^ 4300 := fun is e i hi => by
        subst e
        simp only [List.mem_cons, List.not_mem_nil, or_false] at hi
        rcases hi with rfl | rfl <;> exact al
      refine ⟨.ref L1, rfl, .inr ⟨L1, [((allC k : Nat) : Int), ((allC k : Nat) : Int)], rfl, upd_same, by simp, by show 2 ≤ 1000; decide, r2 _ rfl, ?_⟩⟩
      have s8 := same_new (o := .lst [.int ((allC k : Nat) : Int), .int ((allC k : Nat) : Int)]) nL1
      refine ⟨.int (k : Int), rfl, k, rfl, hk10, fun G9 s9 => ⟨by show 1 ≤ sizeLine; decide, fun L2 nL2 => ?_⟩⟩
      have s10 := same_new (o := .lst [.int ((allC k : Nat) : Int)]) nL2
      refine ⟨L2, 2, _, rfl, rfl, upd_same, by decide, by decide, by show 1 * 2 ≤ sizeLine; decide, fun L3 nL3 => ?_⟩
      have s11 := same_new (o := .lst (List.replicate (2 : Int).toNat [V.int ((allC k : Nat) : Int)]).flatten) nL3
      refine ⟨.ref L3, rfl, .inr ⟨L3, [((allC k : Nat) : Int), ((allC k : Nat) : Int)], rfl, upd_same, by simp, by show 2 ≤ 1000; decide, r2 _ rfl, rfl, _, rfl, ?_⟩⟩
      rw [show (!decide (V.str (listText (shownI [((allC k : Nat) : Int), ((allC k : Nat) : Int)])) = V.str (listText (shownI [((allC k : Nat) : Int), ((allC k : Nat) : Int)])))) = false by rw [decide_eq_true rfl]; rfl]
      exact iteF ⟨some (.int (k : Int)), rfl, sm.trans (s6.trans (s7.trans (s8.trans (s9.trans (s10.trans s11)))))⟩
    rintro σ G5 ⟨y2, rfl, sm⟩
    replace D5 := D5.up sm
    clear sm nL D4 D3 D2 D1 z20 z21 z10 z11 hxs
    refine ⟨3, rfl, by decide, by decide, for_it (walk_rg (n := 3)) (fun i σ G => ∃ y2 y3 y4 y5 y6 y7 y8 y9 y10 : Option V, σ = [some (.ref a), some (.ref p), y2, y3, y4, y5, y6, y7, y8, y9, y10] ∧ Deck G p l) ⟨_, _, _, _, _, _, _, _, _, rfl, D5⟩ (fun _ _ _ _ _ => trivial) ?_ ?_⟩
    rotate_left
    · rintro σ G ⟨y2, y3, y4, y5, y6, y7, y8, y9, y10, rfl, DG⟩
      refine ⟨.ref p, rfl, p, l, 6, rfl, DG, by decide, fun G2 z D2 _ z0 z1 => ⟨_, _, rfl, rfl, ?_⟩⟩
      obtain ⟨n, en, n0, n1⟩ : ∃ n : Nat, 5 + z = (n : Int) ∧ 3 ≤ n ∧ n ≤ 10 := ⟨(5 + z).toNat, by omega, by omega, by omega⟩
      have h400 : ((fac n : Nat) : Int).natAbs < 10 ^ 4300 := Nat.lt_trans (fac_lt (by omega)) (by decide +kernel)
      refine ⟨.int (5 + z), rfl, by show 1 ≤ sizeLine; decide, fun t nt => ⟨n, t, [0], by rw [en]; rfl, upd_same, n0, n1, ⟨List.pairwise_singleton _ _, fun k hk => by rw [List.mem_singleton.mp hk]; omega⟩, fun G3 s3 => ⟨3, rfl, by decide, fun G4 s4 => ⟨by show 2 ≤ sizeLine; decide, fun L1 nL1 => ⟨.ref L1, rfl, .inr ⟨L1, [((tcN n [0] : Nat) : Int), ((allC 3 : Nat) : Int)], rfl, upd_same, by simp, by show 2 ≤ 1000; decide, ?_, ?_⟩⟩⟩⟩⟩⟩
      · intro i hi
        simp only [List.mem_cons, List.not_mem_nil, or_false] at hi
        rcases hi with rfl | rfl
        · rw [tc_one]
          exact h400
        · exact all_lt 3 (by decide)
      rw [tc_one, show allC 3 = 1728 by decide +kernel]
      refine ⟨.int (5 + z), rfl, n, by rw [en]; rfl, by omega, by show 2 ≤ sizeLine; decide, fun L2 nL2 => ⟨.ref L2, rfl, .inr ⟨L2, [((fac n : Nat) : Int), 1728], rfl, upd_same, by simp, by show 2 ≤ 1000; decide, ?_, rfl, ?_⟩⟩⟩
      · intro i hi
        simp only [List.mem_cons, List.not_mem_nil, or_false] at hi
        rcases hi with rfl | rfl
        · exact h400
        · decide +kernel
      rw [show ((1728 : Nat) : Int) = 1728 from rfl, decide_eq_true rfl]
      exact q _
    rintro i x σ _ G hi ⟨y2, y3, y4, y5, y6, y7, y8, y9, y10, rfl, DG⟩ ⟨rfl, rfl⟩
    -- n
    refine ⟨.ref p, rfl, p, l, 3, rfl, DG, by decide, fun G2 z1 D2 _ z10 z11 => ⟨_, _, rfl, rfl, .ref p, rfl, p, l, 4, rfl, D2, by decide, fun G3 z2 D3 _ z20 z21 => ⟨rfl, _, rfl, ?_⟩⟩⟩
    refine ifE_join (R := fun v G => Deck G p l ∧ ∃ k : Nat, v = .int (k : Int) ∧ 5 ≤ k ∧ k ≤ 10) (fun v G4 ⟨D4, k3, ek, k30, k31⟩ => ?_) (fun _ Q' kk => ?_) (fun _ Q' kk => ?_)
    rotate_left
    · exact ⟨.ref p, rfl, p, l, 3, rfl, D3, by decide, fun H4 z3 D4 _ a b => ⟨_, _, rfl, rfl, kk _ _ ⟨D4, (8 + z3).toNat, by rw [Int.toNat_of_nonneg (by omega)], by omega, by omega⟩⟩⟩
    · exact kk _ _ ⟨D3, 6, rfl, by decide, by decide⟩
    subst ek
    refine ⟨by show 3 ≤ sizeLine; decide, fun L nL => ?_⟩
    obtain ⟨x, hx⟩ : ∃ x, [V.int 5, V.int (5 + z1), V.int (k3 : Int)][i]? = some x := ⟨_, List.getElem?_eq_getElem (show i < 3 from hi)⟩
    have hxs : ∀ x ∈ [V.int 5, V.int (5 + z1), V.int (k3 : Int)], ∃ k : Nat, x = .int (k : Int) ∧ 5 ≤ k ∧ k ≤ 10 := fun x hx => by
      simp only [List.mem_cons, List.not_mem_nil, or_false] at hx
      rcases hx with rfl | rfl | rfl
      · exact ⟨5, rfl, by decide, by decide⟩
      · exact ⟨(5 + z1).toNat, by rw [Int.toNat_of_nonneg (by omega)], by omega, by omega⟩
      · exact ⟨k3, rfl, k30, k31⟩
    obtain ⟨n, rfl, n5, n1⟩ := hxs x (List.mem_of_getElem? hx)
    have n0 : 3 ≤ n := by omega
    have D5 := D4.up (same_new (o := .lst [.int 5, .int (5 + z1), .int (k3 : Int)]) nL)
    refine ⟨.int (i : Nat), rfl, L, [.int 5, .int (5 + z1), .int (k3 : Int)], _, _, rfl, rfl, SqL.of upd_same, atI_nat hx, ?_⟩
    generalize upd G4 L (.lst [.int 5, .int (5 + z1), .int (k3 : Int)]) = G5 at D5
    clear hxs hx nL k30 k31 D4 D3 D2 DG z20 z21
    -- often
    refine ⟨.ref p, rfl, by show 4 ≤ sizeLine; decide, fun L2 nL2 => ?_⟩
    obtain ⟨l1, l2⟩ := D5.new nL2
    refine ⟨p, l, L2, [.int 1, .int 2, .int 3, .int 9], rfl, D5.up (same_new nL2), hid_upd l1 l2, by simp, by show 4 < 1000000; decide, fun G6 v D6 _ hv => ?_⟩
    obtain ⟨o, rfl, o0, o1⟩ : ∃ o : Int, v = .int o ∧ 1 ≤ o ∧ o ≤ 9 := by
      simp only [List.mem_cons, List.not_mem_nil, or_false] at hv
      rcases hv with rfl | rfl | rfl | rfl
      · exact ⟨1, rfl, by decide, by decide⟩
      · exact ⟨2, rfl, by decide, by decide⟩
      · exact ⟨3, rfl, by decide, by decide⟩
      · exact ⟨9, rfl, by decide, by decide⟩
    clear hv l1 l2 nL2 D5
    -- kinds
    refine ⟨.int (n : Int), rfl, _, _, rfl, rfl, (n : Int) - 1, rfl, by omega, by omega, fun D nD => ?_⟩
    obtain ⟨d1, d2⟩ := D6.new nD
    refine lc_it (walk_rg (n := ((n : Int) - 1).toNat)) (fun t G => ∃ ks : List Nat, G D = some (.lst (nv ks)) ∧ ks.Pairwise (· < ·) ∧ (∀ k ∈ ks, k < t) ∧ Deck G p l) ⟨[], upd_same, .nil, (fun _ h => nomatch h), D6.mut d1 d2⟩ (fun _ _ _ _ => trivial) ?_ ?_
    · rintro t x _ G7 ht ⟨ks, hD, asc, hlt, D7⟩ ⟨rfl, rfl⟩
      refine ⟨rfl, .ref p, rfl, .int o, rfl, p, l, o, rfl, D7, by omega, fun G8 z D8 e8 z0 z1 => ⟨rfl, _, rfl, ite2 (fun c => ?_) (fun c => ?_)⟩⟩
      · have hl := asc_len (b := t) ks 0 asc (fun k hk => ⟨Nat.zero_le _, hlt k hk⟩) (Nat.zero_le _)
        refine ⟨.int (t : Nat), rfl, _, e8.at_ d1 d2 hD, szl (by rw [List.length_map]; omega), ks ++ [t], ?_, ?_, fun k hk => ?_, D8.mut d1 d2⟩
        · rw [upd_same]
          show _ = some (HO.lst ((ks ++ [t]).map _))
          rw [List.map_append]
          rfl
        · refine List.pairwise_append.mpr ⟨asc, List.pairwise_singleton _ _, fun x hx y hy => ?_⟩
          rw [List.mem_singleton.mp hy]
          exact hlt x hx
        · rcases List.mem_append.mp hk with hk | hk
          · exact Nat.lt_succ_of_lt (hlt k hk)
          · rw [List.mem_singleton.mp hk]
            exact Nat.lt_succ_self _
      · exact ⟨ks, e8.at_ d1 d2 hD, asc, fun k hk => Nat.lt_succ_of_lt (hlt k hk), D8⟩
    rintro G7 ⟨ks0, hD, asc, hlt, D7⟩
    have hk0 : KsOk n ks0 := ⟨asc, fun k hk => by have := hlt k hk; omega⟩
    refine ⟨D, _, rfl, .inl ⟨SqL.of hD, fun κ nκ => ?_⟩⟩
    obtain ⟨c1, c2⟩ := D7.new nκ
    have D8 := D7.up (same_new (o := .tup (nv ks0)) nκ)
    have hκ : upd G7 κ (.tup (nv ks0)) κ = some (.tup (nv ks0)) := upd_same
    generalize upd G7 κ (.tup (nv ks0)) = G8 at D8 hκ
    clear hD asc hlt nD d1 d2 D6 D7 nκ
    refine ⟨.ref κ, rfl, by show 0 ≤ sizeLine; decide, fun e ne => ⟨κ, e, _, rfl, rfl, SqT.of (same_new ne _ _ hκ), SqT.of upd_same, _, rfl, ?_⟩⟩
    have D9 := D8.up (same_new (o := .tup []) ne)
    have hκ9 := same_new (o := .tup []) ne _ _ hκ
    generalize upd G8 e (.tup []) = G9 at D9 hκ9
    refine ifE_join (R := fun v G => ∃ (κ : Addr) (ks : List Nat), v = .ref κ ∧ G κ = some (.tup (nv ks)) ∧ Deck G p l ∧ KsOk n ks ∧ κ ≠ p ∧ κ ≠ l) (fun v G10 ⟨κ, ks, ev, hκ, D10, hk, c1, c2⟩ => ?_) (fun _ Q' kk => ?_) (fun _ Q' kk => ?_)
    rotate_left
    · refine ⟨.ref p, rfl, .int (n : Int), rfl, _, _, rfl, rfl, p, l, (n : Int) - 1, rfl, D9, by omega, fun G10 z D10 _ z0 z1 => ⟨by show 1 ≤ sizeLine; decide, fun κ2 nκ2 => kk _ _ ⟨κ2, [z.toNat], rfl, ?_, D10.up (same_new nκ2), ⟨List.pairwise_singleton _ _, fun k hk => by rw [List.mem_singleton.mp hk]; omega⟩, (D10.new nκ2).1, (D10.new nκ2).2⟩⟩⟩
      rw [upd_same]
      show some (HO.tup [V.int z]) = some (HO.tup [V.int ((z.toNat : Nat) : Int)])
      rw [Int.toNat_of_nonneg z0]
    · exact ⟨_, rfl, kk _ _ ⟨κ, ks0, rfl, hκ9, D9, hk0, c1, c2⟩⟩
    subst ev
    clear hκ9 D9 D8 hk0 ne
    have hlen := hk.len (by omega)
    have hTl := tc_lt n0 n1 hk
    -- due, own
    refine ⟨.int (n : Int), rfl, .ref κ, rfl, n, κ, ks, rfl, hκ, n0, n1, hk, fun G11 s11 => ⟨.ref κ, rfl, κ, rfl, ⟨_, SqT.of (s11 _ _ hκ)⟩, fun D nD => ?_⟩⟩
    refine lc_filN (fun k => decide (0 < k)) (s11 _ _ hκ) nD (by omega) (fun k G Z hm sm zt zf => ?_) (fun G12 s12 hD => ?_)
    · refine ⟨rfl, .int (k : Int), rfl, _, _, rfl, rfl, _, rfl, ite2 (fun c => ⟨_, rfl, zt (decide_eq_true ?_)⟩) (fun c => zf (decide_eq_false fun z => c (decide_eq_true ?_)))⟩
      · have : (0 : Int) < k := of_decide_eq_true c
        omega
      · show (0 : Int) < k
        omega
    refine ⟨D, _, rfl, .inl ⟨SqL.of hD, fun ω nω => ⟨by show 2 ≤ sizeLine; decide, fun T nT => ⟨T, _, rfl, SqT.of upd_same, rfl, _, _, rfl, _, _, rfl, rfl, ?_⟩⟩⟩⟩
    obtain ⟨os, eo⟩ : ∃ os : List Nat, ks.filter (fun k => decide (0 < k)) = os := ⟨_, rfl⟩
    rw [eo] at hD nT ⊢
    have s13 := same_new (o := .tup (nv os)) nω
    have s14 := same_new (o := .tup [.int ((tcN n ks : Nat) : Int), .ref ω]) nT
    have hω := s14 _ _ (upd_same (H := G12) (a := ω) (o := .tup (nv os)))
    have s15 := s11.trans (s12.trans (s13.trans s14))
    replace hκ := s15 _ _ hκ
    have D15 := D10.up s15
    generalize upd (upd G12 ω (.tup (nv os))) T (.tup [.int ((tcN n ks : Nat) : Int), .ref ω]) = G15 at hω hκ D15
    clear s15 s14 s13 s12 s11 hD nD nω nT D10
    have hT2 : ∀ i ∈ [((tcN n ks : Nat) : Int), ((tcN n ks : Nat) : Int)], i.natAbs < 10 ^ 4300 := fun i hi => by
      simp only [List.mem_cons, List.not_mem_nil, or_false] at hi
      rcases hi with rfl | rfl <;> exact hTl
    have same2 : ∀ x : V, (!decide (x = x)) = false := fun x => by rw [decide_eq_true rfl]; rfl
    -- the sums
    dsimp only
    refine sq_ifS_no (Same G15) (fun G16 s16 => ?_) (fun Z kk => ?_)
    rotate_left
    · refine ⟨.ref ω, rfl, by show 0 ≤ sizeLine; decide, fun e ne => ⟨ω, e, _, rfl, rfl, SqT.of (same_new ne _ _ hω), SqT.of upd_same, _, rfl, ?_⟩⟩
      have se := same_new (o := .tup []) ne
      cases os with
      | nil => exact iteF (kk _ se)
      | cons j r =>
        refine iteT ?_
        obtain ⟨k1, k2, k3⟩ := hk.sub eo
        refine ⟨.int (n : Int), rfl, .ref ω, rfl, n, ω, j, r, rfl, se _ _ hω, n0, n1, k1, k2, fun G2 s2 => ?_⟩
        have s3 := se.trans s2
        have es := tc_sums n0 n1 hk eo
        refine ⟨.ref κ, rfl, κ, _, rfl, .inr (SqT.of (s3 _ _ hκ)), rfl, flat_nv ks, _, rfl, ?_⟩
        rw [show inV (.int 0) (nv ks) = decide (0 ∈ ks) from inV_nv 0 ks]
        refine ifE_join (R := fun v G => G = G2 ∧ v = .int (((if 0 ∈ ks then fac n else 1 : Nat)) : Int)) (fun v G ⟨eG, ev⟩ => ?_) (fun c Q' k => ?_) (fun c Q' k => ?_)
        · subst eG
          subst ev
          have z1 : 1 ≤ (if 0 ∈ ks then fac n else 1) := by
            split
            · exact fac_pos n
            · exact Nat.le_refl _
          have a1 : 2 ^ (r.length + 1) * oneRow n j < 10 ^ 4300 := by
            refine Nat.lt_of_le_of_lt (Nat.le_mul_of_pos_right _ z1) ?_
            rw [es]
            exact hTl
          refine ⟨_, _, rfl, rfl, mulOk (big_lt a1) (big_lt (Nat.lt_of_le_of_lt zf_le (Nat.lt_trans (fac_lt (show n ≤ 400 by omega)) (by decide +kernel)))), _, rfl, rfl, _, rfl, ?_⟩
          show Z (!decide (V.int (((2 ^ (r.length + 1) * oneRow n j : Nat) : Int) * ((if 0 ∈ ks then fac n else 1 : Nat) : Int)) = V.int ((tcN n ks : Nat) : Int))) G
          rw [← Int.natCast_mul, es, same2]
          exact kk _ s3
        · exact ⟨.int (n : Int), rfl, n, rfl, by omega, k _ _ ⟨rfl, by rw [if_pos (of_decide_eq_true c)]⟩⟩
        · exact k _ _ ⟨rfl, by rw [if_neg (fun h => c (decide_eq_true h))]; rfl⟩
    replace hω := s16 _ _ hω
    replace hκ := s16 _ _ hκ
    have D16 := D15.up s16
    clear s16 D15
    -- twice
    refine sq_ifS_no (Same G16) (fun G17 s17 => ?_) (fun Z kk => ?_)
    rotate_left
    · refine ⟨.int (n : Int), rfl, .ref κ, rfl, n, κ, ks, rfl, hκ, n0, n1, hk, fun G2 s2 => ⟨.ref κ, rfl, .int (n : Int), rfl, rfl, n, κ, ks, rfl, s2 _ _ hκ, n0, n1, hk, fun G3 s3 => ⟨by show 2 ≤ sizeLine; decide, fun L1 nL1 => ?_⟩⟩⟩
      refine ⟨.ref L1, rfl, .inr ⟨L1, [((tcN n ks : Nat) : Int), ((tcN n ks : Nat) : Int)], rfl, upd_same, by simp, by show 2 ≤ 1000; decide, hT2, ?_⟩⟩
      refine ⟨_, rfl, _, rfl, by show 2 ≤ sizeLine; decide, fun L2 nL2 => ?_⟩
      refine ⟨.ref L2, rfl, .inr ⟨L2, [((tcN n ks : Nat) : Int), ((tcN n ks : Nat) : Int)], rfl, upd_same, by simp, by show 2 ≤ 1000; decide, hT2, rfl, _, rfl, ?_⟩⟩
      rw [same2]
      exact kk _ (s2.trans (s3.trans ((same_new nL1).trans (same_new nL2))))
    replace hω := s17 _ _ hω
    replace hκ := s17 _ _ hκ
    have D17 := D16.up s17
    clear s17 D16
    -- a divisor
    refine sq_ifS_no (Same G17) (fun G18 s18 => ?_) (fun Z kk => ?_)
    rotate_left
    · refine ⟨.int (n : Int), rfl, n, rfl, n1, fun G2 s2 => .inl ⟨_, rfl, .int (n : Int), rfl, .ref κ, rfl, n, κ, ks, rfl, s2 _ _ hκ, n0, n1, hk, fun G3 s3 => ⟨_, _, rfl, rfl, ?_, rfl, _, rfl, ?_⟩⟩⟩
      · have := tc_pos n0 n1 hk
        show (0 : Int) < ((tcN n ks : Nat) : Int)
        omega
      · show Z (!decide (V.int (((allC n : Nat) : Int) % ((tcN n ks : Nat) : Int)) = V.int 0)) G3
        rw [tc_mod n0 n1 hk, same2]
        exact kk _ (s2.trans s3)
    replace hω := s18 _ _ hω
    replace hκ := s18 _ _ hκ
    have D18 := D17.up s18
    clear s18 D17
    -- with kind 0
    refine sq_ifS_no (Same G18) (fun G19 s19 => ?_) (fun Z kk => ?_)
    rotate_left
    · refine ⟨.ref κ, rfl, κ, _, rfl, .inr (SqT.of hκ), rfl, flat_nv ks, _, rfl, ?_⟩
      rw [if_pos rfl, show inV (.int 0) (nv ks) = decide (0 ∈ ks) from inV_nv 0 ks]
      by_cases h0 : 0 ∈ ks
      · rw [decide_eq_true h0]
        exact iteF (kk _ (Same.refl _))
      rw [decide_eq_false h0]
      refine iteT ?_
      refine ⟨.int (n : Int), rfl, by show 1 ≤ sizeLine; decide, fun t nt => ⟨.ref κ, rfl, ?_⟩⟩
      have st := same_new (o := .tup [.int 0]) nt
      have ez := tc_zero (n := n) h0
      have hkz := ks_zero n0 hk h0
      have hzl := tc_lt n0 n1 hkz
      have fin : ∀ G3, Same G18 G3 → ∀ s : Str, s = toString ((tcN n (0 :: ks) : Nat) : Int) → tOp (rI CMulW fun i j => V.int (i * j)) (tVar 7) (tCall spFacN [] E0 (tCons (tVar 2) tNil)) [some (.ref a), some (.ref p), some (.int (n : Int)), some (.int (i : Nat)), some (.int o), some (.ref κ), y6, some (.int ((tcN n ks : Nat) : Int)), some (.ref ω), y9, y10] G3 fun v G4 => rReprW [v] G4 fun v2 G5 => rNe (.str s) v2 G5 fun v3 G6 => ∃ k, v3 = .bl k ∧ Z k G6 := fun G3 s3 s e => by
        refine ⟨_, rfl, .int (n : Int), rfl, n, rfl, by omega, _, _, rfl, rfl, mulOk (big_lt hTl) (Nat.lt_trans (fac_lt (show n ≤ 400 by omega)) (Nat.pow_lt_pow_right (by decide) (by decide))), _, rfl, .inl ⟨_, rfl, ?_, rfl, _, rfl, ?_⟩⟩
        · rw [← Int.natCast_mul, ← ez]
          exact hzl
        · rw [← Int.natCast_mul, ← ez, e, same2]
          exact kk _ s3
      refine ⟨t, κ, [.int 0], nv ks, rfl, rfl, SqT.of upd_same, SqT.of (st _ _ hκ), sz (by show 1 + (nv ks).length ≤ _; rw [List.length_map]; omega), fun z => (nomatch z), fun _ hz => ?_, fun _ _ t2 nt2 => ?_⟩
      · have hz2 : ks = [] := List.map_eq_nil_iff.mp hz
        exact ⟨n, t, 0 :: ks, rfl, by rw [upd_same, hz2]; rfl, n0, n1, hkz, fun G3 s3 => ⟨_, rfl, .inl ⟨_, rfl, hzl, fin G3 (st.trans s3) _ rfl⟩⟩⟩
      · exact ⟨n, t2, 0 :: ks, rfl, upd_same, n0, n1, hkz, fun G3 s3 => ⟨_, rfl, .inl ⟨_, rfl, hzl, fin G3 ((st.trans (same_new nt2)).trans s3) _ rfl⟩⟩⟩
    replace hω := s19 _ _ hω
    replace hκ := s19 _ _ hκ
    have D19 := D18.up s19
    clear s19 D18
    -- what is left
    refine ⟨.int (n : Int), rfl, _, _, rfl, rfl, (n : Int) - 1, rfl, by omega, by omega, fun D nD => ?_⟩
    obtain ⟨d1, d2⟩ := D19.new nD
    refine lc_it (walk_rg (n := ((n : Int) - 1).toNat)) (fun t G => ∃ rs : List Nat, G D = some (.lst (nv rs)) ∧ (∀ k ∈ rs, k + 2 ≤ n ∧ k ∉ ks ∧ ∃ j r, os = j :: r ∧ j < k) ∧ rs.length ≤ t ∧ ∀ b o, G19 b = some o → G b = some o) ⟨[], upd_same, (fun _ h => nomatch h), Nat.le_refl _, same_new nD⟩ (fun _ _ _ _ => trivial) ?_ ?_
    · rintro t x _ G20 ht ⟨rs, hD, hrs, hrl, sm⟩ ⟨rfl, rfl⟩
      have no : ∀ G21, Same G20 G21 → ∃ rs : List Nat, G21 D = some (.lst (nv rs)) ∧ (∀ k ∈ rs, k + 2 ≤ n ∧ k ∉ ks ∧ ∃ j r, os = j :: r ∧ j < k) ∧ rs.length ≤ t + 1 ∧ ∀ b o, G19 b = some o → G21 b = some o := fun G21 s21 => ⟨rs, s21 _ _ hD, hrs, by omega, fun b o h => s21 _ _ (sm _ _ h)⟩
      refine ⟨rfl, .int (t : Nat), rfl, .ref κ, rfl, κ, _, rfl, .inr (SqT.of (sm _ _ hκ)), rfl, flat_nv ks, _, rfl, ?_⟩
      rw [if_pos rfl, inV_nv]
      by_cases h1 : t ∈ ks
      · rw [decide_eq_true h1]
        exact iteF (iteF (no _ (Same.refl _)))
      rw [decide_eq_false h1]
      refine iteT ⟨.ref ω, rfl, by show 0 ≤ sizeLine; decide, fun e ne => ⟨ω, e, _, rfl, rfl, SqT.of (same_new ne _ _ (sm _ _ hω)), SqT.of upd_same, _, rfl, ?_⟩⟩
      have se := same_new (o := .tup []) ne
      cases os with
      | nil => exact iteF (iteF (no _ se))
      | cons j r =>
        have hix : atI (nv (j :: r)) 0 = some (.int (j : Int)) := atI_nat (j := 0) (xs := nv (j :: r)) (v := .int (j : Int)) rfl
        refine iteT ⟨.int (t : Nat), rfl, .ref ω, rfl, ω, _, 0, .int (j : Int), rfl, rfl, SqT.of (se _ _ (sm _ _ hω)), hix, _, _, rfl, rfl, _, rfl, ite2 (fun c => ?_) (fun c => no _ se)⟩
        have h2 : j < t := by
          have : (j : Int) < (t : Int) := of_decide_eq_true c
          omega
        refine ⟨.int (t : Nat), rfl, _, se _ _ hD, szl (by rw [List.length_map]; omega), rs ++ [t], ?_, fun k hk => ?_, by rw [List.length_append]; exact Nat.succ_le_succ hrl, fun b o hb => ?_⟩
        · rw [upd_same]
          show _ = some (HO.lst ((rs ++ [t]).map _))
          rw [List.map_append]
          rfl
        · rcases List.mem_append.mp hk with hk | hk
          · exact hrs k hk
          · rw [List.mem_singleton.mp hk]
            exact ⟨by omega, h1, j, r, rfl, h2⟩
        · rw [upd_ne (ne_of_none hb nD)]
          exact se _ _ (sm _ _ hb)
    rintro G20 ⟨rs, hD, hrs, hrl, s20⟩
    replace hκ := s20 _ _ hκ
    have D20 := D19.up s20
    refine ⟨.ref D, rfl, by show 0 ≤ sizeLine; decide, fun e ne => ⟨D, e, _, rfl, rfl, same_new ne _ _ hD, upd_same, _, rfl, ?_⟩⟩
    have s21 := same_new (o := .lst []) ne
    replace hκ := s21 _ _ hκ
    replace hD := s21 _ _ hD
    have D21 := D20.up s21
    generalize upd G20 e (.lst []) = G21 at hκ hD D21
    by_cases hrs0 : rs = []
    · subst hrs0
      exact iteF ⟨_, _, _, _, _, _, _, _, _, rfl, D21⟩
    rw [show (nv rs).isEmpty = false by
      cases rs with
      | nil => exact absurd rfl hrs0
      | cons _ _ => rfl]
    refine iteT ?_
    refine ⟨.ref κ, rfl, .ref p, rfl, .ref D, rfl, p, l, D, nv rs, rfl, D21, by rw [hid_ne d1 d2]; exact hD, fun z => hrs0 (List.map_eq_nil_iff.mp z), by rw [List.length_map]; omega, fun G22 v D22 e22 hv => ⟨by show 1 ≤ sizeLine; decide, fun t nt => ?_⟩⟩
    obtain ⟨x, hx, rfl⟩ := List.mem_map.mp hv
    obtain ⟨h1, h2, j, r, rfl, h3⟩ := hrs x hx
    have st := same_new (o := .tup [.int (x : Int)]) nt
    have hκ22 := st _ _ (e22.at_ c1 c2 hκ)
    have D23 := D22.up st
    refine ⟨κ, t, nv ks, [.int (x : Int)], rfl, rfl, SqT.of hκ22, SqT.of upd_same, sz (by show (nv ks).length + 1 ≤ _; rw [List.length_map]; omega), fun z => ?_, fun _ z => (nomatch z), fun _ _ t2 nt2 => ?_⟩
    · obtain ⟨_, _, jm, _⟩ := fil_more eo hk.asc
      rw [List.map_eq_nil_iff.mp z] at jm
      exact nomatch jm
    have D24 := D23.up (same_new (o := .tup (nv ks ++ [.int (x : Int)])) nt2)
    have e3 : nv ks ++ [.int (x : Int)] = ((ks ++ [x]).map fun k : Nat => (k : Int)).map V.int := by
      rw [List.map_map, List.map_append]
      rfl
    refine ⟨t2, (ks ++ [x]).map (fun k : Nat => (k : Int)), rfl, SqT.of (by rw [upd_same, e3]), fun ns' p2 hp hs np2 => ?_⟩
    obtain ⟨ks2, e4, hp2, hs2⟩ := nat_sorted hp hs
    rw [e4]
    refine ⟨p2, nv ks2, rfl, .inl ⟨SqL.of upd_same, fun m nm => ?_⟩⟩
    have D25 := (D24.up (same_new (o := .lst (nv ks2)) np2)).up (same_new (o := .tup (nv ks2)) nm)
    obtain ⟨hk2, et⟩ := tc_more hk eo h3 h2 h1 hp2 hs2
    have et2 : ((tcN n ks2 : Nat) : Int) = 2 * ((tcN n ks : Nat) : Int) := by
      rw [et, Int.natCast_mul]
      rfl
    have hl2 := tc_lt n0 n1 hk2
    dsimp only [gName]
    refine ifS_no (fun G => Deck G p l) (fun G DG => ⟨_, _, _, _, _, _, _, _, _, rfl, DG⟩) (fun Z kk => ?_)
    refine ⟨.int (n : Int), rfl, .ref m, rfl, n, m, ks2, rfl, upd_same, n0, n1, hk2, fun G26 s26 => ⟨_, rfl, .inl ⟨_, rfl, hl2, _, rfl, _, _, rfl, rfl, mulOk (a := 2) (Nat.lt_of_lt_of_le (by decide : 2 < 2 ^ 3) (Nat.pow_le_pow_right (by decide) (by decide))) (big_lt hTl), _, rfl, .inl ⟨_, rfl, ?_, rfl, _, rfl, ?_⟩⟩⟩⟩
    · rw [← et2]
      exact hl2
    · rw [← et2, same2]
      exact kk _ (D25.up s26)
end
end Kr
namespace Kr
open PySem PySem.Spec PyProof.Rows L2
section
variable {P : Program} {w : World} {K : PySem.W.Frag} {mg : Str → Option Value} {base : Heap}
abbrev n_tc : List Str := ["n", "kinds", "j", "count", "kind"]
theorem sc_tc : FnScope n_tc ["n", "kinds"] (defScope sTableCount) := ⟨rfl, rfl, rfl, by decide +kernel, rfl, by decide +kernel, by decide +kernel⟩
theorem f_tc (hC : mg "comb" = some (.builtin "math.comb")) (hF : mg "factorial" = some (.builtin "math.factorial")) {f : Addr} {fd : FuncData} (F : Fun K "table_count" "table_count" sTableCount f fd) (B : Bi mg) (lk : Ok P w K mg base 1 "least_kind" ["kinds"] spLeastN) (ke : Ok P w K mg base 3 "_keyed_count" ["n", "j", "others"] spKeyedN) : FnOk P w K mg base CX0 4 f fd ["n", "kinds"] spTc := by
  refine F.ok sc_tc (fun vs H Q E h => ?_) (fun cdv A outer s H vs Q E hr h => ?_)
  · obtain ⟨_, _, _, rfl, _⟩ := h
    rfl
  · obtain ⟨n, a, ks, rfl, ha, n0, n1, hk, q⟩ := h
    have hr_lk := hr.mono (show 1 ≤ 3 by omega)
    have hr_ke := hr.mono (show 3 ≤ 3 by omega)
    have hu : (cxOf CX0 P w K mg base n_tc "table_count" (defScope sTableCount) f cdv A outer s H E).A.units + 64 < cLine := hr.units
    have hu1 := hu_of hr
    refine ⟨_, pss_cons (ps_set (i := 2) sc_tc.nd rfl (.inr rfl) (pe_fn lk hr_lk (by rfl) (pa_cons (pv 1) pa_nil)))
      (pss_cons (ps_set (i := 3) sc_tc.nd rfl (.inl rfl) (pe_ifExp (pt_cmpR op_isN (pv 2) pe_non (nomark _)) pe_int (pe_fn ke hr_ke (by rfl) (pa_cons (pv 0) (pa_cons (pv 2) (pa_cons (pe_callB call_len_seq (by rfl) B.len boot_len (pa_cons (pe_lc (own := [("kind", 4)]) (g := gName 4) rfl sc_tc.nd (pi_tup (pv 1)) (blkOk_by (own := [("kind", 4)]) (N := n_tc) (sc := defScope sTableCount) (by decide +kernel)) (fun _ _ _ _ _ => pg_name (i := 4) sc_tc.nd rfl (.inl rfl)) (fun _ _ _ _ _ => pts_one (pt_cmpR op_gt (pv 4) (pv 2) (nomark _))) (fun _ _ _ _ _ => (pv 4))) pa_nil)) pa_nil))))))
      (pss_one (ps_ret (pe_ifExp (pt_cmpR (r := rIn K false) op_in_seq pe_int (pv 1) rfl) (pe_op op_mulW (pv 3) (pe_callBG call_fac (by rfl) hF (pa_cons (pv 0) pa_nil))) (pv 3))))), ?_⟩
    have hlen := hk.len (by omega)
    have hf400 : fac n < 10 ^ 4300 := Nat.lt_trans (fac_lt (by omega)) (by decide +kernel)
    -- the last line
    have last : ∀ (c : Nat) (y2 y4 : Option V) (G : Hp), Same H G → c * fac n < 10 ^ 4300 → tcN n ks = c * (if 0 ∈ ks then fac n else 1) → tIf (tTest (tOp (rIn K false) (tC (V.int 0)) (tVar 1))) (tOp (rI CMulW fun i j => V.int (i * j)) (tVar 3) (tCB rFac (tCons (tVar 0) tNil))) (tVar 3) [some (.int (n : Int)), some (.ref a), y2, some (.int (c : Int)), y4] G Q := fun c y2 y4 G sm hc e => by
      have q2 := q G sm
      rw [e] at q2
      refine ⟨.ref a, rfl, a, _, rfl, .inr (SqT.of (sm _ _ ha)), rfl, flat_nv ks, _, rfl, ?_⟩
      rw [show inV (.int 0) (nv ks) = decide (0 ∈ ks) from inV_nv 0 ks]
      refine ite2 (fun h0 => ?_) (fun h0 => ?_)
      · rw [if_pos (of_decide_eq_true h0), Int.natCast_mul] at q2
        exact ⟨_, rfl, .int (n : Int), rfl, n, rfl, by omega, _, _, rfl, rfl, mulOk (big_lt (Nat.lt_of_le_of_lt (Nat.le_mul_of_pos_right _ (fac_pos n)) hc)) (big_lt hf400), q2⟩
      · rw [if_neg (fun z => h0 (decide_eq_true z)), Nat.mul_one] at q2
        exact ⟨_, rfl, q2⟩
    refine ⟨.ref a, rfl, a, ks, rfl, ha, hk.asc, by omega, fun H1 s1 => ?_⟩
    dsimp only [tNext]
    have et : tcN n ks = (match ks.filter fun k => decide (0 < k) with
      | [] => 1
      | j :: r => keyed n j r.length) * (if 0 ∈ ks then fac n else 1) := rfl
    have el : leastV ks = match ks.filter fun k => decide (0 < k) with
      | [] => .non
      | j :: _ => .int (j : Int) := rfl
    cases e : ks.filter fun k => decide (0 < k) with
    | nil =>
      rw [e] at et el
      rw [el]
      refine ⟨.non, rfl, rfl, _, rfl, ?_⟩
      rw [decide_eq_true rfl]
      exact iteT (last 1 _ _ _ s1 (by rw [Nat.one_mul]; exact hf400) et)
    | cons j r =>
      obtain ⟨k1, k2, k3⟩ := hk.sub e
      obtain ⟨f1, _, _, _⟩ := fil_more e hk.asc
      rw [e] at et el
      rw [el]
      refine ⟨.int (j : Int), rfl, rfl, _, rfl, ?_⟩
      rw [decide_eq_false (show ¬ V.int (j : Int) = V.non from fun z => by cases z)]
      refine iteF ⟨.int (n : Int), rfl, .int (j : Int), rfl, .ref a, rfl, a, rfl, ⟨_, SqT.of (s1 _ _ ha)⟩, fun D nD => ?_⟩
      refine lc_filN (fun k => decide (j < k)) (s1 _ _ ha) nD (by omega) (fun k G Z hm sm zt zf => ?_) (fun G sm hD => ?_)
      · refine ⟨rfl, .int (k : Int), rfl, .int (j : Int), rfl, _, _, rfl, rfl, _, rfl, ite2 (fun c => ⟨_, rfl, zt (decide_eq_true ?_)⟩) (fun c => zf (decide_eq_false fun z => c (decide_eq_true ?_)))⟩
        · have : (j : Int) < k := of_decide_eq_true c
          omega
        · show (j : Int) < k
          omega
      · rw [f1] at hD
        refine ⟨D, nv r, rfl, .inl (SqL.of hD), n, j, r.length, ?_, n0, n1, k2, k3, fun G2 s2 => ?_⟩
        · rw [List.length_map]
          rfl
        · exact last (keyed n j r.length) _ _ _ (s1.trans (sm.trans s2)) (keyed_lt (by omega) n0 k2 k3) et
end
end Kr
namespace Kr
open PySem PySem.Spec PyProof.Rows L2
section
variable {P : Program} {w : World} {K : PySem.W.Frag} {mg : Str → Option Value} {base : Heap}
abbrev n_allC : List Str := ["n", "size"]
theorem sc_allC : FnScope n_allC ["n"] (defScope sAllCount) := ⟨rfl, rfl, rfl, by decide +kernel, rfl, by decide +kernel, by decide +kernel⟩
theorem f_allC {f : Addr} {fd : FuncData} (F : Fun K "all_count" "all_count" sAllCount f fd) (B : Bi mg) (pr : Ok P w K mg base 1 "product_of" ["numbers"] spProdN) (wy : Ok P w K mg base 2 "_ways_of_size" ["n", "size"] spWaysN) : FnOk P w K mg base CX0 3 f fd ["n"] spAllC := by
  refine F.ok sc_allC (fun vs H Q E h => ?_) (fun cdv A outer s H vs Q E hr h => ?_)
  · obtain ⟨_, rfl, _⟩ := h
    rfl
  · obtain ⟨n, rfl, hn, q⟩ := h
    have hr_pr := hr.mono (show 1 ≤ 2 by omega)
    have hr_wy := hr.mono (show 2 ≤ 2 by omega)
    have hu : (cxOf CX0 P w K mg base n_allC "all_count" (defScope sAllCount) f cdv A outer s H E).A.units + 64 < cLine := hr.units
    have hu1 := hu_of hr
    refine ⟨_, pss_one (ps_ret (pe_fn pr hr_pr (by rfl) (pa_cons (pe_lc (own := [("size", 1)]) (g := gName 1) (tt := tYes) rfl sc_allC.nd (pi_range1 (by rfl) B.range (pa_cons (pe_op op_add (pv 0) pe_int) pa_nil)) (blkOk_by (own := [("size", 1)]) (N := n_allC) (sc := defScope sAllCount) (by decide +kernel)) (fun _ _ _ _ _ => pg_name (i := 1) sc_allC.nd rfl (.inl rfl)) (fun _ _ _ _ _ => pts_nil) (fun _ _ _ _ _ => (pe_fn wy hr_wy (by rfl) (pa_cons (pv 0) (pa_cons (pv 1) pa_nil))))) pa_nil))), ?_⟩
    have hw : ∀ i, i < n + 1 → 1 ≤ waysN n (0 + i) := fun i hi => (ways_lt n (by omega) (0 + i) (by omega) (by omega)).1
    refine ⟨.int (n : Int), rfl, _, _, rfl, rfl, (n : Int) + 1, rfl, by omega, by omega, fun D nD => ?_⟩
    have e0 : ((n : Int) + 1).toNat = n + 1 := by omega
    refine lc_itF walk_rg (fun i => .int ((waysN n (0 + i) : Nat) : Int)) nD (by show ((n : Int) + 1).toNat ≤ 100000; omega) (fun _ _ => rfl) (fun _ _ => trivial) (fun m x H2 H2' C Cn hm s y c => ?_) (fun H2 acc s hD qa => ?_)
    · obtain ⟨rfl, rfl⟩ := y
      refine ⟨rfl, ?_⟩
      dsimp only [tYes]
      rw [if_pos rfl]
      refine ⟨.int (n : Int), rfl, .int (m : Int), rfl, n, m, rfl, hn, by omega, fun H' s' => c _ _ s' ?_⟩
      rw [Nat.zero_add]
      exact .int _
    · have ea : acc = nv ((List.range (n + 1)).map fun i => waysN n (0 + i)) := by
        rw [e0] at qa
        have : ∀ (l : List Nat) (acc : List V), DqA H2 acc (l.map fun i => PyData.int ((waysN n (0 + i) : Nat) : Int)) → acc = nv (l.map fun i => waysN n (0 + i)) := by
          intro l
          induction l with
          | nil => intro acc h; cases h; rfl
          | cons i l ih =>
            intro acc h
            cases h with
            | cons h1 h2 =>
              cases h1
              rw [ih _ h2]
              rfl
        exact this _ _ qa
      have ep : prodL ((List.range (n + 1)).map fun i => waysN n (0 + i)) = allC n := rfl
      refine ⟨D, _, rfl, by rw [← ea]; exact hD, fun x hx => ?_, by rw [List.length_map, List.length_range]; omega, by rw [ep]; exact big_lt (all_lt n (by omega)), ?_⟩
      · obtain ⟨i, hi, rfl⟩ := List.mem_map.mp hx
        exact hw i (List.mem_range.mp hi)
      · rw [ep]
        exact q _ s
end
end Kr
namespace Kr
open PySem PySem.Spec PyProof.Rows L2
section
variable {P : Program} {w : World} {K : PySem.W.Frag} {mg : Str → Option Value} {base : Heap}
abbrev n_least : List Str := ["kinds", "kind"]
theorem sc_least : FnScope n_least ["kinds"] (defScope sLeastKind) := ⟨rfl, rfl, rfl, by decide +kernel, rfl, by decide +kernel, by decide +kernel⟩
theorem o_least (D0 : Df K mg "least_kind" sLeastKind ["kinds"]) (B : Bi mg) : Ok P w K mg base 1 "least_kind" ["kinds"] spLeastN := by
  refine D0.ok fun f fd F => F.ok sc_least (fun vs H Q E h => ?_) (fun cdv A outer s H vs Q E hr h => ?_)
  · obtain ⟨_, _, rfl, _⟩ := h
    rfl
  · obtain ⟨a, ks, rfl, ha, hs, hl, q⟩ := h
    have hu : (cxOf CX0 P w K mg base n_least "least_kind" (defScope sLeastKind) f cdv A outer s H E).A.units + 64 < cLine := hr.units
    have hu1 := hu_of hr
    refine ⟨_, pss_one (ps_ret (pe_callBK (cr_minD rfl) (by rfl) B.min (by decide +kernel) (pa_cons (pe_lc (own := [("kind", 1)]) (g := gName 1) rfl sc_least.nd (pi_tup (pv 0)) (blkOk_by (own := [("kind", 1)]) (N := n_least) (sc := defScope sLeastKind) (by decide +kernel)) (fun _ _ _ _ _ => pg_name (i := 1) sc_least.nd rfl (.inl rfl)) (fun _ _ _ _ _ => pts_one (pt_cmpR op_gt (pv 1) pe_int (nomark _))) (fun _ _ _ _ _ => (pv 1))) pa_nil) (pk_cons pe_non pk_nil))), ?_⟩
    have hat : ∀ i x, (nv ks)[i]? = some x → ∃ k : Nat, ks[i]? = some k ∧ x = V.int (k : Int) := fun i x hx => by
      rw [List.getElem?_map] at hx
      cases g : ks[i]? with
      | none => rw [g] at hx; cases hx
      | some k => rw [g] at hx; exact ⟨k, g, (Option.some.inj hx).symm⟩
    refine ⟨.ref a, rfl, a, rfl, ⟨_, SqT.of ha⟩, fun D nD => ?_⟩
    refine lc_tup (K := K) (xs := nv ks) (fun i G => G D = some (.lst (nv ((ks.take i).filter fun k => decide (0 < k)))) ∧ Same H G) ⟨upd_same, same_new nD⟩ (fun _ _ _ ⟨_, sm⟩ => SqT.of (sm _ _ ha)) ?_ ?_
    · rintro i x G hx ⟨hD, sm⟩
      obtain ⟨k, hk, rfl⟩ := hat i x hx
      have et : ks.take (i + 1) = ks.take i ++ [k] := by
        rw [List.take_add_one, hk]
        rfl
      refine ⟨rfl, .int (k : Int), rfl, _, _, rfl, rfl, _, rfl, ite2 (fun c => ?_) (fun c => ?_)⟩
      · have c1 : 0 < k := by have : (0 : Int) < k := of_decide_eq_true c; omega
        refine ⟨.int (k : Int), rfl, _, hD, szl ?_, ?_, fun b o hb => ?_⟩
        · rw [List.length_map]
          exact Nat.lt_of_le_of_lt (List.length_filter_le _ _) (by rw [List.length_take]; omega)
        · rw [upd_same, et, List.filter_append]
          simp [nv, c1]
        · rw [upd_ne (ne_of_none hb nD)]
          exact sm _ _ hb
      · have c1 : ¬ 0 < k := fun z => c (decide_eq_true (show (0 : Int) < k by omega))
        refine ⟨?_, sm⟩
        rw [hD, et, List.filter_append]
        simp [nv, c1]
    · rintro G ⟨hD, sm⟩
      rw [List.length_map, List.take_length] at hD
      have q2 := q G sm
      unfold leastV at q2
      have asc : (ks.filter fun k => decide (0 < k)).Pairwise (· < ·) := hs.filter _
      generalize ks.filter (fun k => decide (0 < k)) = fs at hD q2 asc
      refine ⟨D, fs.map fun k : Nat => (k : Int), .non, rfl, rfl, ?_, fun hz => ?_, fun m hm hmin => ?_⟩
      · rw [List.map_map]
        exact SqL.of hD
      · cases fs with
        | nil => exact q2
        | cons _ _ => cases hz
      · cases fs with
        | nil => cases hm
        | cons j r =>
          have h1 : m ≤ (j : Int) := hmin _ (by simp)
          obtain ⟨k, hk, rfl⟩ := List.mem_map.mp hm
          have h2 : j ≤ k := by
            rcases List.mem_cons.mp hk with rfl | hk
            · exact Nat.le_refl _
            · exact Nat.le_of_lt ((List.pairwise_cons.mp asc).1 k hk)
          obtain rfl : k = j := by omega
          exact q2
end
end Kr
namespace Kr
open PySem PySem.Spec PyProof.Rows L2
section
variable {P : Program} {w : World} {K : PySem.W.Frag} {mg : Str → Option Value} {base : Heap}
abbrev n_keyed : List Str := ["n", "j", "others", "count", "size"]
theorem sc_keyed : FnScope n_keyed ["n", "j", "others"] (defScope sKeyedCount) := ⟨rfl, rfl, rfl, by decide +kernel, rfl, by decide +kernel, by decide +kernel⟩
theorem o_keyed (hC : mg "comb" = some (.builtin "math.comb")) (hF : mg "factorial" = some (.builtin "math.factorial")) (D0 : Df K mg "_keyed_count" sKeyedCount ["n", "j", "others"]) (B : Bi mg) (pr : Ok P w K mg base 1 "product_of" ["numbers"] spProdN) (wy : Ok P w K mg base 2 "_ways_of_size" ["n", "size"] spWaysN) : Ok P w K mg base 3 "_keyed_count" ["n", "j", "others"] spKeyedN := by
  refine D0.ok fun f fd F => F.ok sc_keyed (fun vs H Q E h => ?_) (fun cdv A outer s H vs Q E hr h => ?_)
  · obtain ⟨_, _, _, rfl, _⟩ := h
    rfl
  · obtain ⟨n, j, o, rfl, n0, n1, hj, ho, q⟩ := h
    have hr_pr := hr.mono (show 1 ≤ 2 by omega)
    have hr_wy := hr.mono (show 2 ≤ 2 by omega)
    have hu : (cxOf CX0 P w K mg base n_keyed "_keyed_count" (defScope sKeyedCount) f cdv A outer s H E).A.units + 64 < cLine := hr.units
    have hu1 := hu_of hr
    refine ⟨_, pss_cons (ps_set (i := 3) sc_keyed.nd rfl (.inl rfl) (pe_fn pr hr_pr (by rfl) (pa_cons (pe_op op_rep (pe_lst (pa_cons (pe_callBG call_fac (by rfl) hF (pa_cons (pe_op op_sub (pv 0) (pv 1)) pa_nil)) pa_nil)) (pe_callBG call_comb (by rfl) hC (pa_cons (pv 0) (pa_cons (pv 1) pa_nil)))) pa_nil)))
      (pss_cons (ps_for PassesOwn.never rfl (pi_range2 (by rfl) B.range (pa_cons (pe_op op_add (pv 1) pe_int) (pa_cons (pe_op op_sub (pv 0) pe_int) pa_nil))) (pg_name (i := 4) sc_keyed.nd rfl (.inl rfl))
        (pss_one (ps_set (i := 3) sc_keyed.nd rfl (.inl rfl) (pe_op op_mulW (pv 3) (pe_op op_fdivW (pe_fn wy hr_wy (by rfl) (pa_cons (pv 0) (pa_cons (pv 4) pa_nil))) pe_int)))))
      (pss_one (ps_ret (pe_op op_mulW (pe_op op_mulW (pv 3) (pe_op op_fdivW (pe_callBG call_fac (by rfl) hF (pa_cons (pv 0) pa_nil)) pe_int)) (pe_fn pr hr_pr (by rfl) (pa_cons (pe_op op_rep (pe_lst (pa_cons pe_int pa_nil)) (pv 2)) pa_nil)))))), ?_⟩
    obtain ⟨l1, l2⟩ := lots_le n (by omega) j (by omega) (by omega)
    obtain ⟨_, _, w3⟩ := ways_lt n (by omega) j (by omega) (by omega)
    have e1 := comb_lots n (by omega) j (by omega) (by omega)
    have hf2 : 2 ∣ fac n := by
      have : ∀ n < 11, 3 ≤ n → fac n % 2 = 0 := by decide +kernel
      exact Nat.dvd_of_mod_eq_zero (this n (by omega) n0)
    have hk := keyed_lt (o := o) (by omega) n0 hj ho
    have hw4 : ∀ i, i < n - 2 - j → 1 ≤ waysN n (j + 1 + i) / 4 := fun i hi => by
      have := ways4 n (by omega) (j + 1 + i) (by omega) n0 (by omega) (by omega)
      omega
    have f1 : 1 ≤ freeN n j := Nat.pos_of_ne_zero fun z => by
      have : 0 < freeN n j := Nat.pow_pos (Nat.lt_of_lt_of_le Nat.zero_lt_one (fac_pos _))
      omega
    have hp1 := prodN_pos (f := fun m => waysN n m / 4) (a := j + 1) (k := n - 2 - j) hw4
    have hfn := fac_pos n
    have hfn2 : 1 ≤ fac n / 2 := by
      have := fac_mono n0
      have e : fac 3 = 6 := by decide
      omega
    -- the whole is the greatest of what is reckoned
    have hA : freeN n j * prodN (fun m => waysN n m / 4) (j + 1) (n - 2 - j) * (fac n / 2) ≤ keyed n j o := Nat.le_mul_of_pos_right _ (Nat.pow_pos (by decide))
    have hB : freeN n j * prodN (fun m => waysN n m / 4) (j + 1) (n - 2 - j) ≤ freeN n j * prodN (fun m => waysN n m / 4) (j + 1) (n - 2 - j) * (fac n / 2) := Nat.le_mul_of_pos_right _ hfn2
    have hKl : keyed n j o < 10 ^ 4300 := Nat.lt_of_le_of_lt (Nat.le_mul_of_pos_right _ hfn) hk
    refine ⟨.int (n : Int), rfl, .int (j : Int), rfl, _, _, rfl, rfl, n - j, ?_, by omega, by show 1 ≤ sizeLine; decide, fun L nL => ?_⟩
    · show [V.int (((n : Nat) : Int) - (j : Int))] = _
      rw [show ((n : Nat) : Int) - (j : Int) = ((n - j : Nat) : Int) by omega]
    have s1 := same_new (o := .lst [.int ((fac (n - j) : Nat) : Int)]) nL
    refine ⟨.int (n : Int), rfl, .int (j : Int), rfl, n, j, rfl, by omega, by omega, by omega, ?_⟩
    rw [e1]
    refine ⟨L, _, _, rfl, rfl, upd_same, by omega, by omega, by show 1 * _ ≤ sizeLine; exact sz (by omega), fun L2 nL2 => ?_⟩
    have s2 := same_new (o := .lst (List.replicate (((lots n j : Nat) : Int)).toNat [V.int ((fac (n - j) : Nat) : Int)]).flatten) nL2
    have rp : ∀ (c x : Nat), (List.replicate (((c : Nat) : Int)).toNat [V.int ((x : Nat) : Int)]).flatten = nv (List.replicate c x) := fun c x => by
      rw [Int.toNat_natCast]
      induction c with
      | zero => rfl
      | succ c ih =>
        rw [List.replicate_succ, List.flatten_cons, ih, List.replicate_succ]
        rfl
    have e3 : prodL (List.replicate (lots n j) (fac (n - j))) = freeN n j := prodL_rep _ _
    refine ⟨L2, List.replicate (lots n j) (fac (n - j)), rfl, by rw [upd_same, rp], fun x hx => by rw [List.eq_of_mem_replicate hx]; exact fac_pos _, by rw [List.length_replicate]; omega, by rw [e3]; exact big_lt w3, ?_⟩
    rw [e3]
    have s12 := s1.trans s2
    generalize upd (upd H L (.lst [.int ((fac (n - j) : Nat) : Int)])) L2 (.lst (List.replicate (((lots n j : Nat) : Int)).toNat [V.int ((fac (n - j) : Nat) : Int)]).flatten) = G1 at s12
    dsimp only [tNext]
    refine ⟨.int (j : Int), rfl, _, _, rfl, rfl, .int (n : Int), rfl, _, _, rfl, rfl, (j : Int) + 1, (n : Int) - 1, rfl, ⟨by omega, by omega, by omega, by omega⟩, for_it (walk_range (lo := (j : Int) + 1) (n := ((n : Int) - 1 - ((j : Int) + 1)).toNat)) (fun i σ G => ∃ y4 : Option V, σ = [some (.int (n : Int)), some (.int (j : Int)), some (.int (o : Int)), some (.int ((freeN n j * prodN (fun m => waysN n m / 4) (j + 1) i : Nat) : Int)), y4] ∧ Same H G) ⟨none, ?_, s12⟩ (fun _ _ _ _ _ => trivial) ?_ ?_⟩
    · show _ = [some (V.int (n : Int)), some (.int (j : Int)), some (.int (o : Int)), some (.int ((freeN n j * 1 : Nat) : Int)), none]
      rw [Nat.mul_one]
      rfl
    · rintro i x σ _ G hi ⟨y4, rfl, sm⟩ ⟨rfl, rfl⟩
      have hi2 : i < n - 2 - j := by omega
      have ecast : ((j : Int) + 1 + ((i : Nat) : Int)) = ((j + 1 + i : Nat) : Int) := by omega
      have hle := prodN_le (f := fun m => waysN n m / 4) (a := j + 1) (k := n - 2 - j) hw4 (i := i) (by omega)
      have hle2 := prodN_le (f := fun m => waysN n m / 4) (a := j + 1) (k := n - 2 - j) hw4 (i := i + 1) (by omega)
      have b1 : freeN n j * prodN (fun m => waysN n m / 4) (j + 1) i < 10 ^ 4300 := Nat.lt_of_le_of_lt (Nat.le_trans (Nat.mul_le_mul_left _ hle) (Nat.le_trans hB hA)) hKl
      obtain ⟨_, w2, _⟩ := ways_lt n (by omega) (j + 1 + i) (by omega) (by omega)
      refine ⟨_, rfl, .int (n : Int), rfl, .int ((j : Int) + 1 + (i : Nat)), rfl, n, j + 1 + i, ?_, n1, by omega, fun G2 s2 => ⟨_, _, rfl, rfl, ?_, _, _, rfl, rfl, ?_, some (.int ((j : Int) + 1 + (i : Nat))), ?_, sm.trans s2⟩⟩
      · show [V.int (n : Int), V.int ((j : Int) + 1 + ((i : Nat) : Int))] = _
        rw [ecast]
      · exact divOk (a := waysN n (j + 1 + i)) (b := 4) (by decide) (Nat.lt_of_lt_of_le (by decide : 4 < 2 ^ 3) (Nat.pow_le_pow_right (by decide) (by decide)))
      · show CMulW _ (((waysN n (j + 1 + i) : Nat) : Int) / ((4 : Nat) : Int))
        rw [← Int.natCast_ediv]
        exact mulOk (big_lt b1) (big_lt (Nat.lt_of_le_of_lt (Nat.div_le_self _ _) w2))
      · rw [prodN_succ, ← Nat.mul_assoc, Int.natCast_mul _ (waysN n (j + 1 + i) / 4), Int.natCast_ediv]
        rfl
    · rintro σ G ⟨y4, rfl, sm⟩
      rw [show ((n : Int) - 1 - ((j : Int) + 1)).toNat = n - 2 - j by omega]
      have bB := Nat.lt_of_le_of_lt (Nat.le_trans hB hA) hKl
      have fl : fac n < 2 ^ 200000 := Nat.lt_trans (fac_lt (by omega)) (Nat.pow_lt_pow_right (by decide) (by decide))
      refine ⟨_, rfl, .int (n : Int), rfl, n, rfl, by omega, _, _, rfl, rfl, divOk (a := fac n) (b := 2) (by decide) (Nat.lt_of_lt_of_le (by decide : 2 < 2 ^ 3) (Nat.pow_le_pow_right (by decide) (by decide))), _, _, rfl, rfl, ?_, by show 1 ≤ sizeLine; decide, fun L3 nL3 => ?_⟩
      · show CMulW _ (((fac n : Nat) : Int) / ((2 : Nat) : Int))
        rw [← Int.natCast_ediv]
        exact mulOk (big_lt bB) (Nat.lt_of_le_of_lt (Nat.div_le_self _ _) fl)
      have s3 := same_new (o := .lst [.int 2]) nL3
      refine ⟨.int (o : Int), rfl, L3, _, _, rfl, rfl, upd_same, by omega, by omega, by show 1 * _ ≤ sizeLine; exact sz (by omega), fun L4 nL4 => ?_⟩
      have s4 := same_new (o := .lst (List.replicate (((o : Nat) : Int)).toNat [V.int 2]).flatten) nL4
      have e4 : prodL (List.replicate o 2) = 2 ^ o := prodL_rep _ _
      have ho2 : 2 ^ o ≤ keyed n j o := Nat.le_mul_of_pos_left _ (Nat.mul_pos (Nat.mul_pos f1 hp1) hfn2)
      refine ⟨L4, List.replicate o 2, rfl, by rw [upd_same]; exact congrArg (fun z => some (HO.lst z)) (rp o 2), fun x hx => by rw [List.eq_of_mem_replicate hx]; decide, by rw [List.length_replicate]; omega, by rw [e4]; exact big_lt (Nat.lt_of_le_of_lt ho2 hKl), ?_⟩
      rw [e4]
      refine ⟨_, _, rfl, rfl, ?_, ?_⟩
      · show CMulW (((freeN n j * prodN (fun m => waysN n m / 4) (j + 1) (n - 2 - j) : Nat) : Int) * (((fac n : Nat) : Int) / ((2 : Nat) : Int))) _
        rw [← Int.natCast_ediv, ← Int.natCast_mul]
        exact mulOk (big_lt (Nat.lt_of_le_of_lt hA hKl)) (big_lt (Nat.lt_of_le_of_lt ho2 hKl))
      · have q2 := q _ (sm.trans (s3.trans s4))
        rw [show keyed n j o = freeN n j * prodN (fun m => waysN n m / 4) (j + 1) (n - 2 - j) * (fac n / 2) * 2 ^ o from rfl, Int.natCast_mul _ (2 ^ o), Int.natCast_mul _ (fac n / 2), Int.natCast_ediv] at q2
        exact q2
end
end Kr
namespace Kr
open PySem PySem.Spec PyProof.Rows L2
section
variable {P : Program} {w : World} {K : PySem.W.Frag} {mg : Str → Option Value} {base : Heap}
abbrev n_ways : List Str := ["n", "size", "many"]
theorem sc_ways : FnScope n_ways ["n", "size"] (defScope sWaysOfSize) := ⟨rfl, rfl, rfl, by decide +kernel, rfl, by decide +kernel, by decide +kernel⟩
theorem o_ways (hC : mg "comb" = some (.builtin "math.comb")) (hF : mg "factorial" = some (.builtin "math.factorial")) (D0 : Df K mg "_ways_of_size" sWaysOfSize ["n", "size"]) (B : Bi mg) (pr : Ok P w K mg base 1 "product_of" ["numbers"] spProdN) : Ok P w K mg base 2 "_ways_of_size" ["n", "size"] spWaysN := by
  refine D0.ok fun f fd F => F.ok sc_ways (fun vs H Q E h => ?_) (fun cdv A outer s H vs Q E hr h => ?_)
  · obtain ⟨_, _, rfl, _⟩ := h
    rfl
  · obtain ⟨n, m, rfl, hn, hm, q⟩ := h
    have hr_pr := hr.mono (show 1 ≤ 1 by omega)
    have hu : (cxOf CX0 P w K mg base n_ways "_ways_of_size" (defScope sWaysOfSize) f cdv A outer s H E).A.units + 64 < cLine := hr.units
    have hu1 := hu_of hr
    refine ⟨_, pss_cons (ps_set (i := 2) sc_ways.nd rfl (.inl rfl) (pe_callBG call_comb (by rfl) hC (pa_cons (pv 0) (pa_cons (pv 1) pa_nil))))
      (pss_one (ps_ret (pe_op op_mulW (pe_callBG call_fac (by rfl) hF (pa_cons (pv 2) pa_nil)) (pe_fn pr hr_pr (by rfl) (pa_cons (pe_op op_rep (pe_lst (pa_cons (pe_callBG call_fac (by rfl) hF (pa_cons (pe_op op_sub (pv 0) (pv 1)) pa_nil)) pa_nil)) (pv 2)) pa_nil))))), ?_⟩
    obtain ⟨l1, l2⟩ := lots_le n (by omega) m (by omega) hm
    obtain ⟨w1, w2, w3⟩ := ways_lt n (by omega) m (by omega) hm
    have e1 := comb_lots n (by omega) m (by omega) hm
    refine ⟨.int (n : Int), rfl, .int (m : Int), rfl, n, m, rfl, by omega, by omega, by omega, ?_⟩
    rw [e1]
    dsimp only [tNext]
    refine ⟨.int ((lots n m : Nat) : Int), rfl, lots n m, rfl, by omega, .int (n : Int), rfl, .int (m : Int), rfl, _, _, rfl, rfl, n - m, ?_, by omega, by show 1 ≤ sizeLine; decide, fun L nL => ?_⟩
    · show [V.int (((n : Nat) : Int) - (m : Int))] = _
      rw [show ((n : Nat) : Int) - (m : Int) = ((n - m : Nat) : Int) by omega]
    have s1 := same_new (o := .lst [.int ((fac (n - m) : Nat) : Int)]) nL
    refine ⟨.int ((lots n m : Nat) : Int), rfl, L, _, _, rfl, rfl, upd_same, by omega, by omega, by show 1 * _ ≤ sizeLine; exact sz (by omega), fun L2 nL2 => ?_⟩
    have s2 := same_new (o := .lst (List.replicate (((lots n m : Nat) : Int)).toNat [V.int ((fac (n - m) : Nat) : Int)]).flatten) nL2
    have e2 : (List.replicate (((lots n m : Nat) : Int)).toNat [V.int ((fac (n - m) : Nat) : Int)]).flatten = nv (List.replicate (lots n m) (fac (n - m))) := by
      rw [Int.toNat_natCast]
      generalize lots n m = c
      induction c with
      | zero => rfl
      | succ c ih =>
        rw [List.replicate_succ, List.flatten_cons, ih, List.replicate_succ]
        rfl
    have e3 : prodL (List.replicate (lots n m) (fac (n - m))) = freeN n m := prodL_rep _ _
    refine ⟨L2, List.replicate (lots n m) (fac (n - m)), rfl, by rw [upd_same, e2], fun x hx => by rw [List.eq_of_mem_replicate hx]; exact fac_pos _, by rw [List.length_replicate]; omega, by rw [e3]; exact big_lt w3, ?_⟩
    rw [e3]
    refine ⟨_, _, rfl, rfl, mulOk (Nat.lt_trans (fac_lt (by omega)) (Nat.pow_lt_pow_right (by decide) (by decide))) (big_lt w3), ?_⟩
    have := q _ (s1.trans s2)
    rw [show waysN n m = fac (lots n m) * freeN n m from rfl, Int.natCast_mul] at this
    exact this
end
end Kr
namespace Kr
open PySem PySem.Spec PyProof.Rows L2
section
variable {P : Program} {w : World} {K : PySem.W.Frag} {mg : Str → Option Value} {base : Heap}
abbrev n_prod : List Str := ["numbers", "result", "number"]
theorem sc_prod : FnScope n_prod ["numbers"] (defScope sProductOf) := ⟨rfl, rfl, rfl, by decide +kernel, rfl, by decide +kernel, by decide +kernel⟩
theorem o_prod (D0 : Df K mg "product_of" sProductOf ["numbers"]) (B : Bi mg) : Ok P w K mg base 1 "product_of" ["numbers"] spProdN := by
  refine D0.ok fun f fd F => F.ok sc_prod (fun vs H Q E h => ?_) (fun cdv A outer s H vs Q E hr h => ?_)
  · obtain ⟨_, _, rfl, _⟩ := h
    rfl
  · obtain ⟨a, ns, rfl, ha, h1, hl, hlt, q⟩ := h
    have hu : (cxOf CX0 P w K mg base n_prod "product_of" (defScope sProductOf) f cdv A outer s H E).A.units + 64 < cLine := hr.units
    have hu1 := hu_of hr
    refine ⟨_, pss_cons (ps_set (i := 1) sc_prod.nd rfl (.inl rfl) pe_int)
      (pss_cons (ps_for PassesOwn.never rfl (pi_list (pv 0)) (pg_name (i := 2) sc_prod.nd rfl (.inl rfl))
        (pss_one (ps_set (i := 1) sc_prod.nd rfl (.inl rfl) (pe_op op_mulW (pv 1) (pv 2)))))
      (pss_one (ps_ret (pv 1)))), ?_⟩
    have hat : ∀ i x, (nv ns)[i]? = some x → ∃ k : Nat, ns[i]? = some k ∧ x = V.int (k : Int) := fun i x hx => by
      rw [List.getElem?_map] at hx
      cases g : ns[i]? with
      | none => rw [g] at hx; cases hx
      | some k => rw [g] at hx; exact ⟨k, g, (Option.some.inj hx).symm⟩
    refine ⟨.ref a, rfl, a, rfl, ⟨_, SqL.of ha⟩, for_it (walk_list (K := K) (a := a) (xs := nv ns)) (fun i σ G => ∃ y2 : Option V, σ = [some (.ref a), some (.int ((prodL (ns.take i) : Nat) : Int)), y2] ∧ G = H) ⟨none, rfl, rfl⟩ (fun _ _ _ _ ⟨_, _, e⟩ => by rw [e]; exact SqL.of ha) ?_ ?_⟩
    · rintro i x σ _ G hi ⟨y2, rfl, rfl⟩ ⟨rfl, hx⟩
      obtain ⟨k, hk, rfl⟩ := hat i x hx
      have p1 := prodL_take h1 i
      have p2 := prodL_take h1 (i + 1)
      have e : prodL (ns.take (i + 1)) = prodL (ns.take i) * k := by
        rw [List.take_add_one, hk, prodL_app]
        show _ * prodL [k] = _
        rw [prodL_one]
      have hk2 : k ≤ prodL (ns.take (i + 1)) := by
        rw [e]
        exact Nat.le_mul_of_pos_left _ (prodL_pos fun n hn => h1 n (List.mem_of_mem_take hn))
      refine ⟨_, rfl, _, rfl, _, _, rfl, rfl, mulOk (Nat.lt_of_le_of_lt p1 hlt) (Nat.lt_of_le_of_lt (Nat.le_trans hk2 p2) hlt), some (.int (k : Int)), ?_, rfl⟩
      rw [e, Int.natCast_mul]
      rfl
    · rintro σ G ⟨y2, rfl, rfl⟩
      rw [List.length_map, List.take_length]
      exact ⟨_, rfl, q⟩
end
end Kr
namespace Kr
open PySem PySem.Spec PyProof.Rows L2
section
variable {P : Program} {w : World} {K : PySem.W.Frag} {mg : Str → Option Value} {base : Heap}
abbrev n_lFac : List Str := ["n", "found", "own"]
theorem sc_lFac : FnScope n_lFac ["n"] (defScope sLProduct) := ⟨rfl, rfl, rfl, by decide +kernel, rfl, by decide +kernel, by decide +kernel⟩
theorem o_lFac (D0 : Df K mg "_law_product" sLProduct ["n"]) (B : Bi mg) : Ok P w K mg base 1 "_law_product" ["n"] spFacN := by
  refine D0.ok fun f fd F => F.ok sc_lFac (fun vs H Q E h => ?_) (fun cdv A outer s H vs Q E hr h => ?_)
  · obtain ⟨_, rfl, _⟩ := h
    rfl
  · obtain ⟨n, rfl, hn, q⟩ := h
    have hu : (cxOf CX0 P w K mg base n_lFac "_law_product" (defScope sLProduct) f cdv A outer s H E).A.units + 64 < cLine := hr.units
    have hu1 := hu_of hr
    refine ⟨_, pss_cons (ps_set (i := 1) sc_lFac.nd rfl (.inl rfl) pe_int)
      (pss_cons (ps_for PassesOwn.never rfl (pi_range2 (by rfl) B.range (pa_cons pe_int (pa_cons (pe_op op_add (pv 0) pe_int) pa_nil))) (pg_name (i := 2) sc_lFac.nd rfl (.inl rfl))
        (pss_one (ps_set (i := 1) sc_lFac.nd rfl (.inl rfl) (pe_op op_mulW (pv 1) (pv 2)))))
      (pss_one (ps_ret (pv 1)))), ?_⟩
    refine ⟨.int (n : Int), rfl, _, _, rfl, rfl, 2, (n : Int) + 1, rfl, ⟨by decide, by decide, by omega, by omega⟩, for_it (walk_range (lo := 2) (n := ((n : Int) + 1 - 2).toNat)) (fun i σ G => ∃ y2 : Option V, σ = [some (.int (n : Int)), some (.int ((fac (min (i + 1) n) : Nat) : Int)), y2] ∧ G = H) ⟨none, ?_, rfl⟩ (fun _ _ _ _ _ => trivial) ?_ ?_⟩
    · have e : fac (min (0 + 1) n) = 1 := by
        cases n with
        | zero => rfl
        | succ n => rw [Nat.min_eq_left (by omega)]; rfl
      rw [e]
      rfl
    · rintro i x σ _ G hi ⟨y2, rfl, rfl⟩ ⟨rfl, rfl⟩
      have hi2 : i + 2 ≤ n := by omega
      refine ⟨_, rfl, _, rfl, _, _, rfl, rfl, ?_, ?_⟩
      · have := mulOk (a := fac (min (i + 1) n)) (b := i + 2) (Nat.lt_trans (fac_lt (by omega)) (Nat.pow_lt_pow_right (by decide) (by decide))) (Nat.lt_trans (show i + 2 < 2 ^ 9 by omega) (Nat.pow_lt_pow_right (by decide) (by decide)))
        rw [show (2 + ((i : Nat) : Int)) = ((i + 2 : Nat) : Int) by omega]
        exact this
      · refine ⟨some (.int (2 + (i : Nat))), ?_, rfl⟩
        have e : fac (min (i + 1 + 1) n) = fac (min (i + 1) n) * (i + 2) := by
          rw [Nat.min_eq_left (by omega), Nat.min_eq_left (by omega)]
          rfl
        rw [e, Int.natCast_mul, show ((i + 2 : Nat) : Int) = 2 + ((i : Nat) : Int) by omega]
        rfl
    · rintro σ G ⟨y2, rfl, rfl⟩
      have e : fac (min (((n : Int) + 1 - 2).toNat + 1) n) = fac n := by
        by_cases h0 : n = 0
        · subst h0
          rfl
        · rw [show min (((n : Int) + 1 - 2).toNat + 1) n = n by omega]
      rw [e]
      exact ⟨_, rfl, q⟩
end
end Kr
namespace Kr
open PySem PySem.Spec PyProof.Rows L2
section
variable {P : Program} {w : World} {K : PySem.W.Frag} {mg : Str → Option Value} {base : Heap}
abbrev n_lLots : List Str := ["n", "m"]
theorem sc_lLots : FnScope n_lLots ["n", "m"] (defScope sLLots) := ⟨rfl, rfl, rfl, by decide +kernel, rfl, by decide +kernel, by decide +kernel⟩
theorem o_lLots (D0 : Df K mg "_law_lots" sLLots ["n", "m"]) (B : Bi mg) (lp : Ok P w K mg base 1 "_law_product" ["n"] spFacN) : Ok P w K mg base 2 "_law_lots" ["n", "m"] spLotN := by
  refine D0.ok fun f fd F => F.ok sc_lLots (fun vs H Q E h => ?_) (fun cdv A outer s H vs Q E hr h => ?_)
  · obtain ⟨_, _, rfl, _⟩ := h
    rfl
  · obtain ⟨n, m, rfl, hm, hn, q⟩ := h
    have hr_lp := hr.mono (show 1 ≤ 1 by omega)
    have hu : (cxOf CX0 P w K mg base n_lLots "_law_lots" (defScope sLLots) f cdv A outer s H E).A.units + 64 < cLine := hr.units
    have hu1 := hu_of hr
    refine ⟨_, pss_one (ps_ret (pe_op op_fdivW (pe_fn lp hr_lp (by rfl) (pa_cons (pv 0) pa_nil)) (pe_op op_mulW (pe_fn lp hr_lp (by rfl) (pa_cons (pv 1) pa_nil)) (pe_fn lp hr_lp (by rfl) (pa_cons (pe_op op_sub (pv 0) (pv 1)) pa_nil))))), ?_⟩
    refine ⟨.int (n : Int), rfl, n, rfl, by omega, .int (m : Int), rfl, m, rfl, by omega, .int (n : Int), rfl, .int (m : Int), rfl, _, _, rfl, rfl, n - m, ?_, by omega, ?_⟩
    · show [V.int (((n : Nat) : Int) - (m : Int))] = _
      rw [show ((n : Nat) : Int) - (m : Int) = ((n - m : Nat) : Int) by omega]
    have l1 := fac_pos m
    have l2 := fac_pos (n - m)
    have b1 := fac_mono (show m ≤ 10 by omega)
    have b2 := fac_mono (show n - m ≤ 10 by omega)
    have f10 : fac 10 = 3628800 := by decide +kernel
    rw [f10] at b1 b2
    refine ⟨_, _, rfl, rfl, mulOk (Nat.lt_of_le_of_lt b1 (by decide +kernel)) (Nat.lt_of_le_of_lt b2 (by decide +kernel)), _, _, rfl, rfl, ?_, ?_⟩
    · rw [← Int.natCast_mul]
      exact divOk (Nat.mul_pos l1 l2) (Nat.lt_of_le_of_lt (Nat.mul_le_mul b1 b2) (by decide +kernel))
    · rw [← Int.natCast_mul]
      show Q (V.int (((fac n : Nat) : Int) / ((fac m * fac (n - m) : Nat) : Int))) H
      rw [← Int.natCast_ediv]
      exact q
end
end Kr
namespace Kr
open PySem PySem.Spec PyProof.Rows L2
section
variable {P : Program} {w : World} {K : PySem.W.Frag} {mg : Str → Option Value} {base : Heap}
abbrev n_lPow : List Str := ["base", "many", "found", "turn"]
theorem sc_lPow : FnScope n_lPow ["base", "many"] (defScope sLPower) := ⟨rfl, rfl, rfl, by decide +kernel, rfl, by decide +kernel, by decide +kernel⟩
theorem o_lPow (D0 : Df K mg "_law_power" sLPower ["base", "many"]) (B : Bi mg) : Ok P w K mg base 1 "_law_power" ["base", "many"] spPowN := by
  refine D0.ok fun f fd F => F.ok sc_lPow (fun vs H Q E h => ?_) (fun cdv A outer s H vs Q E hr h => ?_)
  · obtain ⟨_, _, rfl, _⟩ := h
    rfl
  · obtain ⟨b, k, rfl, hb, hk, hlt, q⟩ := h
    have hu : (cxOf CX0 P w K mg base n_lPow "_law_power" (defScope sLPower) f cdv A outer s H E).A.units + 64 < cLine := hr.units
    have hu1 := hu_of hr
    refine ⟨_, pss_cons (ps_set (i := 2) sc_lPow.nd rfl (.inl rfl) pe_int)
      (pss_cons (ps_for PassesOwn.never rfl (pi_range1 (by rfl) B.range (pa_cons (pv 1) pa_nil)) (pg_name (i := 3) sc_lPow.nd rfl (.inl rfl))
        (pss_one (ps_set (i := 2) sc_lPow.nd rfl (.inl rfl) (pe_op op_mulW (pv 2) (pv 0)))))
      (pss_one (ps_ret (pv 2)))), ?_⟩
    refine ⟨.int (k : Int), rfl, k, rfl, by omega, by omega, for_it (walk_rg (n := k)) (fun i σ G => ∃ y2 : Option V, σ = [some (.int (b : Int)), some (.int (k : Int)), some (.int ((b ^ i : Nat) : Int)), y2] ∧ G = H) ⟨none, rfl, rfl⟩ (fun _ _ _ _ _ => trivial) ?_ ?_⟩
    · rintro i x σ _ G hi ⟨y2, rfl, rfl⟩ ⟨rfl, rfl⟩
      have h1 : b ^ i ≤ b ^ k := Nat.pow_le_pow_right hb (by omega)
      have h2 : b ≤ b ^ k := by
        have := Nat.pow_le_pow_right (n := b) hb (show 1 ≤ k by omega)
        rwa [Nat.pow_one] at this
      refine ⟨_, rfl, _, rfl, _, _, rfl, rfl, mulOk (Nat.lt_of_le_of_lt h1 hlt) (Nat.lt_of_le_of_lt h2 hlt), some (.int (i : Nat)), ?_, rfl⟩
      rw [Nat.pow_succ, Int.natCast_mul]
      rfl
    · rintro σ G ⟨y2, rfl, rfl⟩
      exact ⟨_, rfl, q⟩
end
end Kr
namespace Kr
open PySem PySem.Spec PyProof.Rows L2
section
variable {P : Program} {w : World} {K : PySem.W.Frag} {mg : Str → Option Value} {base : Heap}
abbrev n_lWays : List Str := ["n", "m", "whole", "pair"]
theorem sc_lWays : FnScope n_lWays ["n", "m", "whole", "pair"] (defScope sLWays) := ⟨rfl, rfl, rfl, by decide +kernel, rfl, by decide +kernel, by decide +kernel⟩
theorem o_lWays (D0 : Df K mg "_law_ways" sLWays ["n", "m", "whole", "pair"]) (B : Bi mg) : Ok P w K mg base 1 "_law_ways" ["n", "m", "whole", "pair"] spWy := by
  refine D0.ok fun f fd F => F.ok sc_lWays (fun vs H Q E h => ?_) (fun cdv A outer s H vs Q E hr h => ?_)
  · obtain ⟨_, _, _, _, rfl, _⟩ := h
    rfl
  · obtain ⟨n, m, v, pr, rfl, hv, n0, n1, hm, h1, h2, q⟩ := h
    have hu : (cxOf CX0 P w K mg base n_lWays "_law_ways" (defScope sLWays) f cdv A outer s H E).A.units + 64 < cLine := hr.units
    have hu1 := hu_of hr
    refine ⟨_, pss_cons (ps_if (pt_cmpR op_eq (pv 1) (pv 0) (nomark _)) (pss_one (ps_ret (pe_ifExp (pt_cmpR (op_eqD hu) (pv 3) (pe_tup (pa_cons pe_int (pa_cons pe_int pa_nil))) (nomark _)) (pv 2) pe_int))) pss_nil)
      (pss_cons (ps_if (pt_cmpR op_eq (pv 1) (pe_op op_sub (pv 0) pe_int) (nomark _)) (pss_one (ps_ret (pe_ifExp (pt_cmpR op_eq (pe_ix ix_tup (pv 3) pe_int (fun _ _ => rfl)) pe_int (nomark _)) (pe_op op_fdivW (pv 2) pe_int) pe_int))) pss_nil)
      (pss_one (ps_ret (pe_op op_fdivW (pv 2) pe_int)))), ?_⟩
    have fd : ∀ b : Nat, b < 8 → 0 < b → CDivW ((waysN n m : Nat) : Int) ((b : Nat) : Int) := fun b hb h0 => divOk h0 (Nat.lt_of_lt_of_le (show b < 2 ^ 3 from hb) (Nat.pow_le_pow_right (by decide) (by decide)))
    refine ⟨.int (m : Int), rfl, .int (n : Int), rfl, rfl, _, rfl, ?_⟩
    by_cases c1 : m = n
    · rw [decide_eq_true (show V.int (m : Int) = V.int (n : Int) by rw [c1])]
      obtain rfl := h1 c1
      refine iteT ⟨v, rfl, by show 2 ≤ sizeLine; decide, fun t nt => ?_⟩
      have st := same_new (o := .tup [.int 0, .int 0]) nt
      have ht : Dq (upd H t (.tup [.int 0, .int 0])) (.ref t) (pairD (false, false)) := pair_at upd_same
      refine ⟨pairD (false, false), pairD (false, false), (hv.up st).dp (pair_flat _), ht.dp (pair_flat _), pair_shaped _, pair_shaped _, _, rfl, ?_⟩
      rw [pairD_inj, decide_eq_true rfl]
      refine iteT ⟨_, rfl, ?_⟩
      have q2 := q _ st
      rw [show fct n m = waysN n m by unfold fct; rw [if_pos c1]] at q2
      exact q2
    rw [decide_eq_false (show ¬ V.int (m : Int) = V.int (n : Int) from fun z => c1 (by have := V.int.inj z; omega))]
    refine iteF ?_
    dsimp only [tNext]
    refine ⟨.int (m : Int), rfl, .int (n : Int), rfl, _, _, rfl, rfl, rfl, _, rfl, ?_⟩
    by_cases c2 : m = n - 1
    · rw [decide_eq_true (show V.int (m : Int) = V.int ((n : Int) - 1) by rw [show (m : Int) = (n : Int) - 1 by omega])]
      have hp := h2 c2
      obtain ⟨b, rfl, hb⟩ := pair_inv hv
      refine iteT ⟨.ref b, rfl, b, _, 1, _, rfl, rfl, SqT.of hb, rfl, rfl, _, rfl, ?_⟩
      rw [hp]
      refine iteT ⟨_, rfl, _, _, rfl, rfl, fd 2 (by decide) (by decide), ?_⟩
      have q2 := q H (Same.refl _)
      rw [show fct n m = waysN n m / 2 by unfold fct; rw [if_neg c1, if_pos c2], Int.natCast_ediv] at q2
      exact q2
    rw [decide_eq_false (show ¬ V.int (m : Int) = V.int ((n : Int) - 1) from fun z => c2 (by have := V.int.inj z; omega))]
    refine iteF ?_
    dsimp only [tNext]
    refine ⟨_, rfl, _, _, rfl, rfl, fd 4 (by decide) (by decide), ?_⟩
    have q2 := q H (Same.refl _)
    rw [show fct n m = waysN n m / 4 by unfold fct; rw [if_neg c1, if_neg c2], Int.natCast_ediv] at q2
    exact q2
end
end Kr
namespace Kr
open PySem PySem.Spec PyProof.Rows L2
theorem sum_cast : ∀ l : List Nat, (l.map fun (x : Nat) => (x : Int)).sum = ((l.sum : Nat) : Int)
  | [] => rfl
  | x :: l => by
    rw [List.map_cons, List.sum_cons, List.sum_cons, sum_cast l]
    omega
theorem comb_val {n k : Nat} (hn : n < 26) (hk : k < 27) {a b : Int} (ha : a = n) (hb : b = k) : PySem.W.mcComb a b = (ch n k : Int) := by
  rw [ha, hb]
  exact ch_tab n hn k hk
def spNum : Sp := fun vs H Q _ => ∃ (n : Nat) (a : Addr) (l : List Nat), vs = [.int (n : Int), .ref a] ∧ H a = some (.tup (lv l)) ∧ Asc 0 n l ∧ n ≤ 24 ∧ ∀ H', Same H H' → Q (.int (num n l : Nat)) H'
def spChoices : Sp := fun vs H Q _ => ∃ a b : Int, vs = [.int a, .int b] ∧ 0 ≤ a ∧ a < 1000 ∧ Q (.int (if 0 ≤ b then PySem.W.mcComb a b else 0)) H
def spKind : Sp := fun vs H Q _ => ∃ n k : Nat, vs = [.int (n : Int), .int (k : Int)] ∧ k + 2 ≤ n ∧ n ≤ 30 ∧ ∀ H' r, Same H H' → Dq H' r (rowD (kindR n k)) → Q r H'
theorem chB_val (a b : Int) : (if 0 ≤ b then PySem.W.mcComb a b else 0) % 2 = bi (chB a b) := by
  unfold chB
  by_cases h : 0 ≤ b
  · rw [if_pos h, if_pos h]
    have : PySem.W.mcComb a b % 2 = 0 ∨ PySem.W.mcComb a b % 2 = 1 := by omega
    rcases this with e | e <;> rw [e] <;> rfl
  · rw [if_neg h, if_neg h]
    rfl
/-! ### numbers of the lots of a size -/
def numsL (n s : Nat) : List Int := (List.range (ch n s)).map fun (j : Nat) => ((below n s + j : Nat) : Int)
def spNumsOf : Sp := fun vs H Q _ => ∃ n s : Nat, vs = [.int (n : Int), .int (s : Int)] ∧ n ≤ 6 ∧ s ≤ n ∧ ∀ H' p, Same H H' → H p = none → H' p = some (.lst ((numsL n s).map V.int)) → Q (.ref p) H'
theorem num_first : ∀ n : Nat, n < 7 → ∀ s : Nat, s < n + 1 → num n (List.range s) = below n s := by decide +kernel
theorem range_asc {n s : Nat} (h : s ≤ n) : Asc 0 n (List.range s) := ⟨List.pairwise_lt_range, fun x hx => by have := List.mem_range.mp hx; omega⟩
theorem below_lt : ∀ n : Nat, n < 7 → ∀ s : Nat, s < n + 1 → below n s + ch n s ≤ 2 ^ n := by decide +kernel
theorem nums_lots : ∀ n : Nat, n < 7 → ∀ s : Nat, s < n + 1 → (lotsL n s).map (num n) = (List.range (ch n s)).map fun j => below n s + j := by decide +kernel
end Kr
namespace Kr
open PySem PySem.Spec PyProof.Rows L2
/-! ### entries as maps -/
/-- an entry of the lot l: places of keys have none, riders go to unlike places -/
structure EntF (n : Nat) (l : List Nat) (e : List Int) : Prop where
  len : e.length = n
  key : ∀ x, x < n → x ∈ l → e.getD x 0 = -1
  rid : ∀ x, x < n → x ∉ l → 0 ≤ e.getD x 0 ∧ e.getD x 0 < n
  inj : ∀ x y, x < n → y < n → x ∉ l → y ∉ l → e.getD x 0 = e.getD y 0 → x = y
theorem EntF.v {n : Nat} {l : List Nat} {e : List Int} (h : EntF n l e) : EntV n l e := by
  refine ⟨h.len, fun i hi => ?_, ?_⟩
  · split
    · rename_i c; exact h.key i hi c
    · rename_i c; exact h.rid i hi c
  · show (e.filter fun x => !decide (x = -1)).Pairwise (· ≠ ·)
    rw [List.pairwise_filter, List.pairwise_iff_getElem]
    intro i j hi hj hij p1 p2 z
    have g : ∀ i, (h : i < e.length) → e[i] = e.getD i 0 := fun i h => by rw [List.getD_eq_getElem?_getD, List.getElem?_eq_getElem h]; rfl
    rw [g i hi] at p1 z
    rw [g j hj] at p2 z
    rw [h.len] at hi hj
    have k1 : i ∉ l := fun c => by rw [h.key i hi c] at p1; exact absurd p1 (by decide)
    have k2 : j ∉ l := fun c => by rw [h.key j hj c] at p2; exact absurd p2 (by decide)
    have := h.inj i j hi hj k1 k2 z
    omega
theorem EntV.f {n : Nat} {l : List Nat} {e : List Int} (h : EntV n l e) : EntF n l e := by
  refine ⟨h.len, fun x hx c => ?_, fun x hx c => ?_, fun x y hx hy cx cy z => ?_⟩
  · have := h.at_ x hx; rwa [if_pos c] at this
  · have := h.at_ x hx; rwa [if_neg c] at this
  · have nd : (e.filter fun x => !decide (x = -1)).Pairwise (· ≠ ·) := h.nd
    rw [List.pairwise_filter, List.pairwise_iff_getElem] at nd
    have g : ∀ i, (h : i < e.length) → e[i] = e.getD i 0 := fun i h => by rw [List.getD_eq_getElem?_getD, List.getElem?_eq_getElem h]; rfl
    have pz : ∀ x, x < n → x ∉ l → (!decide (e.getD x 0 = -1)) = true := fun x hx c => by
      have := h.at_ x hx
      rw [if_neg c] at this
      simp only [Bool.not_eq_true', decide_eq_false_iff_not]
      omega
    have hl := h.len
    rcases Nat.lt_trichotomy x y with c | c | c
    · have := nd x y (by omega) (by omega) c
      rw [g x (by omega), g y (by omega)] at this
      exact absurd z (this (pz x hx cx) (pz y hy cy))
    · exact c
    · have := nd y x (by omega) (by omega) c
      rw [g x (by omega), g y (by omega)] at this
      exact absurd z.symm (this (pz y hy cy) (pz x hx cx))
theorem mem_e {e : List Int} {n : Nat} (h : e.length = n) {z : Int} : z ∈ e ↔ ∃ x, x < n ∧ e.getD x 0 = z := by
  subst h
  constructor
  · intro hz
    obtain ⟨x, hx, ez⟩ := List.getElem_of_mem hz
    exact ⟨x, hx, by rw [List.getD_eq_getElem?_getD, List.getElem?_eq_getElem hx]; exact ez⟩
  · rintro ⟨x, hx, ez⟩
    rw [List.getD_eq_getElem?_getD, List.getElem?_eq_getElem hx] at ez
    exact ez ▸ List.getElem_mem hx
theorem mem_goal {n : Nat} {e : List Int} {y : Nat} : y ∈ goalE n e ↔ y < n ∧ (y : Int) ∉ e := by
  unfold goalE
  rw [List.mem_filter, List.mem_range]
  simp
theorem goal_asc (n : Nat) (e : List Int) : Asc 0 n (goalE n e) := by
  refine ⟨List.Pairwise.filter _ List.pairwise_lt_range, fun x hx => ?_⟩
  have := (mem_goal.mp hx).1
  omega
theorem goal_all {n : Nat} (hn : n ≤ 6) (e : List Int) : goalE n e ∈ allL n := asc_all hn (goal_asc n e) (all_ascL hn)
/-- ascending lots with the same places are one -/
theorem asc_ext {n : Nat} {a b : List Nat} (ha : Asc 0 n a) (hb : Asc 0 n b) (h : ∀ x, x ∈ a ↔ x ∈ b) : a = b := by
  have p : a.Perm b := (List.perm_ext_iff_of_nodup (ha.1.imp fun h => Nat.ne_of_lt h) (hb.1.imp fun h => Nat.ne_of_lt h)).mpr h
  exact p.eq_of_pairwise (fun x y _ _ h1 h2 => absurd h2 (Nat.not_lt_of_lt h1)) ha.1 hb.1
theorem EntF.off {n : Nat} {l : List Nat} {e : List Int} (h : EntF n l e) {x : Nat} (hx : x < n) (c : x ∉ l) : (e.getD x 0).toNat < n ∧ (e.getD x 0).toNat ∉ goalE n e := by
  obtain ⟨h1, h2⟩ := h.rid x hx c
  refine ⟨by omega, fun z => (mem_goal.mp z).2 ((mem_e h.len).mpr ⟨x, hx, by omega⟩)⟩
theorem EntF.from {n : Nat} {l : List Nat} {e : List Int} (h : EntF n l e) {y : Nat} (hy : y < n) (c : y ∉ goalE n e) : ∃ x, x < n ∧ x ∉ l ∧ e.getD x 0 = y := by
  have : (y : Int) ∈ e := Classical.byContradiction fun z => c (mem_goal.mpr ⟨hy, z⟩)
  obtain ⟨x, hx, ex⟩ := (mem_e h.len).mp this
  refine ⟨x, hx, fun k => ?_, ex⟩
  have := h.key x hx k
  omega
theorem EntF.neg {n : Nat} {l : List Nat} {e : List Int} (h : EntF n l e) {x : Nat} (hx : x < n) : e.getD x 0 = -1 ↔ x ∈ l := by
  constructor
  · intro z
    refine Classical.byContradiction fun c => ?_
    have := (h.rid x hx c).1
    omega
  · exact h.key x hx
/-- one entry behind another -/
def cmpE (e u : List Int) : List Int := e.map fun x => if x = -1 then -1 else u.getD x.toNat 0
theorem map_getD_lt {α β : Type} {f : α → β} {L : List α} {i : Nat} {d : α} {d' : β} (h : i < L.length) : (L.map f).getD i d' = f (L.getD i d) := by
  rw [List.getD_eq_getElem?_getD, List.getElem?_map, List.getElem?_eq_getElem h, List.getD_eq_getElem?_getD, List.getElem?_eq_getElem h]
  rfl
theorem cmp_at {e u : List Int} {x : Nat} (h : x < e.length) : (cmpE e u).getD x 0 = if e.getD x 0 = -1 then -1 else u.getD (e.getD x 0).toNat 0 := map_getD_lt h
theorem EntF.cmp {n : Nat} {l : List Nat} {e u : List Int} (h : EntF n l e) (g : EntF n (goalE n e) u) : EntF n l (cmpE e u) ∧ goalE n (cmpE e u) = goalE n u := by
  have hl : (cmpE e u).length = n := by unfold cmpE; rw [List.length_map]; exact h.len
  have at_ : ∀ x, x < n → x ∉ l → (cmpE e u).getD x 0 = u.getD (e.getD x 0).toNat 0 := fun x hx c => by
    rw [cmp_at (by rw [h.len]; exact hx), if_neg (fun z => c ((h.neg hx).mp z))]
  have hf : EntF n l (cmpE e u) := by
    refine ⟨hl, fun x hx c => ?_, fun x hx c => ?_, fun x y hx hy cx cy z => ?_⟩
    · rw [cmp_at (by rw [h.len]; exact hx), if_pos ((h.neg hx).mpr c)]
    · rw [at_ x hx c]
      obtain ⟨p1, p2⟩ := h.off hx c
      exact g.rid _ p1 p2
    · rw [at_ x hx cx, at_ y hy cy] at z
      obtain ⟨p1, p2⟩ := h.off hx cx
      obtain ⟨p3, p4⟩ := h.off hy cy
      have e1 := g.inj _ _ p1 p3 p2 p4 z
      have r1 := h.rid x hx cx
      have r2 := h.rid y hy cy
      exact h.inj x y hx hy cx cy (by omega)
  refine ⟨hf, asc_ext (goal_asc _ _) (goal_asc _ _) fun y => ?_⟩
  rw [mem_goal, mem_goal, mem_e hl, mem_e g.len]
  refine and_congr_right fun hy => not_congr ⟨?_, ?_⟩
  · rintro ⟨x, hx, ex⟩
    by_cases c : x ∈ l
    · rw [hf.key x hx c] at ex
      omega
    · rw [at_ x hx c] at ex
      exact ⟨_, (h.off hx c).1, ex⟩
  · rintro ⟨x, hx, ex⟩
    have c : x ∉ goalE n e := fun c => by
      rw [g.key x hx c] at ex
      omega
    obtain ⟨x', hx', c', ex'⟩ := h.from hx c
    refine ⟨x', hx', ?_⟩
    rw [at_ x' hx' c', ex', Int.toNat_natCast]
    exact ex
theorem list_ext {n : Nat} {a b : List Int} (ha : a.length = n) (hb : b.length = n) (h : ∀ x, x < n → a.getD x 0 = b.getD x 0) : a = b := by
  refine List.ext_getElem (by omega) fun i h1 h2 => ?_
  have := h i (by omega)
  rw [List.getD_eq_getElem?_getD, List.getD_eq_getElem?_getD, List.getElem?_eq_getElem h1, List.getElem?_eq_getElem h2] at this
  exact this
theorem cmp_assoc {n : Nat} {l : List Nat} {e u w : List Int} (h : EntF n l e) (g : EntF n (goalE n e) u) : cmpE (cmpE e u) w = cmpE e (cmpE u w) := by
  have hl : (cmpE e u).length = n := (h.cmp g).1.len
  refine list_ext (n := n) (by unfold cmpE; rw [List.length_map, List.length_map, h.len]) (by unfold cmpE; rw [List.length_map, h.len]) fun x hx => ?_
  rw [cmp_at (by omega), cmp_at (by rw [h.len]; exact hx), cmp_at (by rw [h.len]; exact hx)]
  by_cases c : x ∈ l
  · rw [(h.neg hx).mpr c]
    rfl
  · have ne : ¬ e.getD x 0 = -1 := fun z => c ((h.neg hx).mp z)
    obtain ⟨p1, p2⟩ := h.off hx c
    rw [if_neg ne, if_neg ne, cmp_at (by rw [g.len]; exact p1)]
/-! ### tables as maps -/
def en (n : Nat) (T : List (List Int)) (l : List Nat) : List Int := T.getD (num n l) []
theorem bothE_cmp (n : Nat) (U : List (List Int)) (e : List Int) : bothE n U e = cmpE e (en n U (goalE n e)) := rfl
theorem all_at {n : Nat} (hn : n ≤ 6) {l : List Nat} (h : l ∈ allL n) : (allL n)[num n l]? = some l := by
  obtain ⟨i, hi, e⟩ := List.getElem_of_mem h
  have e1 : (allL n)[i]? = some l := by rw [List.getElem?_eq_getElem hi, e]
  rw [(all_num_at hn e1).1]
  exact e1
theorem en_map {n : Nat} (hn : n ≤ 6) {f : List Nat → List Int} {l : List Nat} (h : l ∈ allL n) : en n ((allL n).map f) l = f l := by
  unfold en
  rw [List.getD_eq_getElem?_getD, List.getElem?_map, all_at hn h]
  rfl
theorem TabOk.len {n : Nat} (hn : n ≤ 6) {T : List (List Int)} (h : TabOk n T) : T.length = 2 ^ n := h.ents.len.trans (all_len n (by omega))
theorem TabOk.get {n : Nat} (hn : n ≤ 6) {T : List (List Int)} (h : TabOk n T) {l : List Nat} (hl : l ∈ allL n) : T[num n l]? = some (en n T l) := by
  have h1 : num n l < T.length := by rw [h.len hn]; exact all_num hn hl
  unfold en
  rw [List.getD_eq_getElem?_getD, List.getElem?_eq_getElem h1]
  rfl
theorem TabOk.ent {n : Nat} (hn : n ≤ 6) {T : List (List Int)} (h : TabOk n T) {l : List Nat} (hl : l ∈ allL n) : EntF n l (en n T l) := (h.ents.at_ _ _ _ (all_at hn hl) (h.get hn hl)).f
theorem TabOk.map {n : Nat} (hn : n ≤ 6) {T : List (List Int)} (h : TabOk n T) : T = (allL n).map (en n T) := by
  refine List.ext_getElem? fun i => ?_
  rw [List.getElem?_map]
  cases e : (allL n)[i]? with
  | none =>
    show T[i]? = none
    rw [List.getElem?_eq_none_iff] at e ⊢
    rw [h.ents.len]
    exact e
  | some l =>
    rw [← (all_num_at hn e).1]
    exact h.get hn (List.mem_of_getElem? e)
theorem TabOk.of_map {n : Nat} (hn : n ≤ 6) {f : List Nat → List Int} (h : ∀ l ∈ allL n, EntF n l (f l)) (g : ((allL n).map fun l => goalE n (f l)).Perm (allL n)) : TabOk n ((allL n).map f) := by
  refine ⟨⟨List.length_map _, fun t l e h1 h2 => ?_⟩, by rw [List.map_map]; exact g⟩
  rw [List.getElem?_map, h1] at h2
  cases Option.some.inj h2
  exact (h l (List.mem_of_getElem? h1)).v
theorem TabOk.goalp {n : Nat} (hn : n ≤ 6) {T : List (List Int)} (h : TabOk n T) : ((allL n).map fun l => goalE n (en n T l)).Perm (allL n) := by
  have := h.goals
  rw [h.map hn, List.map_map] at this
  exact this
theorem both_map {n : Nat} (hn : n ≤ 6) {T U : List (List Int)} (h : TabOk n T) : bothT n T U = (allL n).map fun l => cmpE (en n T l) (en n U (goalE n (en n T l))) := by
  unfold bothT
  conv => lhs; rw [h.map hn]
  rw [List.map_map]
  rfl
theorem en_both {n : Nat} (hn : n ≤ 6) {T U : List (List Int)} (h : TabOk n T) {l : List Nat} (hl : l ∈ allL n) : en n (bothT n T U) l = cmpE (en n T l) (en n U (goalE n (en n T l))) := by
  rw [both_map hn h, en_map hn hl]
theorem TabOk.both {n : Nat} (hn : n ≤ 6) {T U : List (List Int)} (h : TabOk n T) (g : TabOk n U) : TabOk n (bothT n T U) := by
  rw [both_map hn h]
  refine TabOk.of_map hn (fun l hl => ((h.ent hn hl).cmp (g.ent hn (goal_all hn _))).1) ?_
  have e : ((allL n).map fun l => goalE n (cmpE (en n T l) (en n U (goalE n (en n T l))))) = ((allL n).map fun l => goalE n (en n T l)).map fun g => goalE n (en n U g) := by
    rw [List.map_map]
    exact List.map_congr_left fun l hl => ((h.ent hn hl).cmp (g.ent hn (goal_all hn _))).2
  rw [e]
  exact ((h.goalp hn).map _).trans (g.goalp hn)
theorem both_assoc {n : Nat} (hn : n ≤ 6) {T U W : List (List Int)} (h : TabOk n T) (g : TabOk n U) (k : TabOk n W) : bothT n (bothT n T U) W = bothT n T (bothT n U W) := by
  rw [both_map hn (h.both hn g), both_map (U := bothT n U W) hn h]
  refine List.map_congr_left fun l hl => ?_
  have hg := goal_all hn (en n T l)
  rw [en_both hn h hl, en_both hn g hg, ((h.ent hn hl).cmp (g.ent hn hg)).2]
  exact cmp_assoc (h.ent hn hl) (g.ent hn hg)
end Kr
namespace Kr
open PySem PySem.Spec PyProof.Rows L2
theorem ups_len (n : Nat) : (ups n).length = n := by unfold ups; rw [List.length_map, List.length_range]
theorem ups_at {n x : Nat} (h : x < n) : (ups n).getD x 0 = (x : Int) := by
  unfold ups
  rw [List.getD_eq_getElem?_getD, List.getElem?_map, List.getElem?_range h]
  rfl
theorem byE_len (l : List Nat) (w : List Int) : (byE l w).length = w.length := by unfold byE; rw [List.length_map, List.length_range]
theorem byE_at {l : List Nat} {w : List Int} {x : Nat} (h : x < w.length) : (byE l w).getD x 0 = if x ∈ l then -1 else w.getD x 0 := by
  unfold byE
  rw [List.getD_eq_getElem?_getD, List.getElem?_map, List.getElem?_range h]
  rfl
/-! ### ways that are their own contrary -/
structure Way (n : Nat) (w : List Int) (f : Nat → Nat) : Prop where
  len : w.length = n
  at_ : ∀ x, x < n → w.getD x 0 = (f x : Int)
  lt : ∀ x, x < n → f x < n
  inv : ∀ x, x < n → f (f x) = x
theorem way_ups (n : Nat) : Way n (ups n) id := ⟨ups_len n, fun x h => ups_at h, fun _ h => h, fun _ _ => rfl⟩
def sw (a b x : Nat) : Nat := if x = b then a else if x = a then b else x
theorem way_swap {n a b : Nat} (ha : a < n) (hb : b < n) (hab : a ≠ b) : Way n (swapW n a b) (sw a b) := by
  refine ⟨by unfold swapW; rw [List.length_set, List.length_set, ups_len], fun x h => ?_, fun x h => ?_, fun x h => ?_⟩
  · unfold swapW sw
    rw [List.getD_eq_getElem?_getD, List.getElem?_set, List.length_set, ups_len, List.getElem?_set, ups_len]
    by_cases c1 : x = b
    · subst c1
      rw [if_pos rfl, if_pos h, if_pos rfl]
      rfl
    · rw [if_neg (fun z => c1 z.symm), if_neg c1]
      by_cases c2 : x = a
      · subst c2
        rw [if_pos rfl, if_pos h, if_pos rfl]
        rfl
      · rw [if_neg (fun z => c2 z.symm), if_neg c2, ← List.getD_eq_getElem?_getD, ups_at h]
  · unfold sw
    split
    · exact ha
    · split
      · exact hb
      · exact h
  · unfold sw
    by_cases c1 : x = b
    · rw [if_pos c1, if_neg hab, if_pos rfl, c1]
    · rw [if_neg c1]
      by_cases c2 : x = a
      · rw [if_pos c2, if_pos rfl, c2]
      · rw [if_neg c2, if_neg c1, if_neg c2]
theorem Way.ent {n : Nat} {w : List Int} {f : Nat → Nat} (W : Way n w f) (l : List Nat) : EntF n l (byE l w) := by
  have at_ : ∀ x, x < n → x ∉ l → (byE l w).getD x 0 = (f x : Int) := fun x h c => by rw [byE_at (by rw [W.len]; exact h), if_neg c, W.at_ x h]
  refine ⟨(byE_len l w).trans W.len, fun x h c => by rw [byE_at (by rw [W.len]; exact h), if_pos c], fun x h c => ?_, fun x y hx hy cx cy z => ?_⟩
  · rw [at_ x h c]
    have := W.lt x h
    omega
  · rw [at_ x hx cx, at_ y hy cy] at z
    have e : f x = f y := by omega
    rw [← W.inv x hx, e, W.inv y hy]
theorem Way.goal {n : Nat} {w : List Int} {f : Nat → Nat} (W : Way n w f) (l : List Nat) {y : Nat} : y ∈ goalE n (byE l w) ↔ y < n ∧ f y ∈ l := by
  rw [mem_goal, mem_e ((byE_len l w).trans W.len)]
  refine and_congr_right fun hy => ?_
  constructor
  · intro h
    refine Classical.byContradiction fun c => h ⟨f y, W.lt y hy, ?_⟩
    rw [byE_at (by rw [W.len]; exact W.lt y hy), if_neg c, W.at_ _ (W.lt y hy), W.inv y hy]
  · rintro h ⟨x, hx, ex⟩
    rw [byE_at (by rw [W.len]; exact hx)] at ex
    split at ex
    · omega
    · rename_i c
      rw [W.at_ x hx] at ex
      have : f x = y := by omega
      rw [← this, W.inv x hx] at h
      exact c h
theorem goal_ups {n : Nat} {l : List Nat} (h : Asc 0 n l) : goalE n (byE l (ups n)) = l := by
  refine asc_ext (goal_asc _ _) h fun y => ?_
  rw [(way_ups n).goal]
  exact ⟨fun z => z.2, fun z => ⟨by have := (h.2 y z).2; omega, z⟩⟩
theorem cmp_ups {n : Nat} {l : List Nat} {e : List Int} (h : EntF n l e) : cmpE e (byE (goalE n e) (ups n)) = e := by
  refine list_ext (n := n) (by unfold cmpE; rw [List.length_map, h.len]) h.len fun x hx => ?_
  rw [cmp_at (by rw [h.len]; exact hx)]
  by_cases c : x ∈ l
  · rw [(h.neg hx).mpr c]
    rfl
  · obtain ⟨p1, p2⟩ := h.off hx c
    have r := h.rid x hx c
    rw [if_neg (by omega), byE_at (by rw [ups_len]; exact p1), if_neg p2, ups_at p1]
    omega
theorem ups_cmp {n : Nat} {l : List Nat} {e : List Int} (hl : EntF n l e) : cmpE (byE l (ups n)) e = e := by
  refine list_ext (n := n) (by unfold cmpE; rw [List.length_map, byE_len, ups_len]) hl.len fun x hx => ?_
  rw [cmp_at (by rw [byE_len, ups_len]; exact hx), byE_at (by rw [ups_len]; exact hx)]
  by_cases c : x ∈ l
  · rw [if_pos c, if_pos rfl, hl.key x hx c]
  · rw [if_neg c, ups_at hx, if_neg (by omega), Int.toNat_natCast]
/-! ### the calm table -/
theorem still_ok {n : Nat} (hn : n ≤ 6) : TabOk n (stillT n) := by
  refine TabOk.of_map hn (fun l _ => (way_ups n).ent l) ?_
  refine List.Perm.of_eq ?_
  refine (List.map_congr_left fun l hl => ?_).trans (List.map_id _)
  exact goal_ups (all_ascL hn l hl)
theorem en_still {n : Nat} (hn : n ≤ 6) {l : List Nat} (h : l ∈ allL n) : en n (stillT n) l = byE l (ups n) := en_map hn h
theorem both_still {n : Nat} (hn : n ≤ 6) {T : List (List Int)} (h : TabOk n T) : bothT n T (stillT n) = T := by
  rw [both_map hn h]
  conv => rhs; rw [h.map hn]
  refine List.map_congr_left fun l hl => ?_
  rw [en_still hn (goal_all hn _)]
  exact cmp_ups (h.ent hn hl)
theorem still_both {n : Nat} (hn : n ≤ 6) {T : List (List Int)} (h : TabOk n T) : bothT n (stillT n) T = T := by
  rw [both_map hn (still_ok hn)]
  conv => rhs; rw [h.map hn]
  refine List.map_congr_left fun l hl => ?_
  rw [en_still hn hl, goal_ups (all_ascL hn l hl)]
  exact ups_cmp (h.ent hn hl)
/-! ### tables of deeds -/
def isAll (q l : List Nat) : Bool := q.all fun x => decide (x ∈ l)
def dE (n : Nat) (m : Mv) (l : List Nat) : List Int := byE l (if isAll m.1 l = true then swapW n m.2.1 m.2.2 else ups n)
theorem deed_map (n : Nat) (m : Mv) : deedT n m.1 m.2.1 m.2.2 = (allL n).map (dE n m) := rfl
def dF (m : Mv) (l : List Nat) (x : Nat) : Nat := if isAll m.1 l = true then sw m.2.1 m.2.2 x else x
theorem isAll_iff {q l : List Nat} : isAll q l = true ↔ ∀ x ∈ q, x ∈ l := by
  unfold isAll
  rw [List.all_eq_true]
  simp
section
variable {n : Nat} {m : Mv}
theorem Deed.way (d : Deed n m) (l : List Nat) : Way n (if isAll m.1 l = true then swapW n m.2.1 m.2.2 else ups n) (dF m l) := by
  have h1 := d.ab
  have h2 := d.bn
  unfold dF
  by_cases c : isAll m.1 l = true
  · simp only [c, if_true]
    exact way_swap (by omega) h2 (by omega)
  · simp only [c, if_false]
    exact way_ups n
theorem Deed.ent (d : Deed n m) (l : List Nat) : EntF n l (dE n m l) := (d.way l).ent l
theorem Deed.same (d : Deed n m) {l : List Nat} (hl : Asc 0 n l) : isAll m.1 (goalE n (dE n m l)) = isAll m.1 l := by
  have sub : ∀ x ∈ m.1, dF m l x = x := fun x hx => by
    unfold dF sw
    split
    · rw [if_neg (show ¬ x = m.2.2 from fun z => d.nb (z ▸ hx)), if_neg (show ¬ x = m.2.1 from fun z => d.na (z ▸ hx))]
    · rfl
  rw [Bool.eq_iff_iff, isAll_iff, isAll_iff]
  refine forall_congr' fun x => forall_congr' fun hx => ?_
  show x ∈ goalE n (byE l _) ↔ _
  rw [(d.way l).goal, sub x hx]
  have := d.asc.2 x hx
  exact ⟨fun z => z.2, fun z => ⟨by omega, z⟩⟩
theorem Deed.back (d : Deed n m) {l : List Nat} (hl : Asc 0 n l) : goalE n (dE n m (goalE n (dE n m l))) = l ∧ cmpE (dE n m l) (dE n m (goalE n (dE n m l))) = byE l (ups n) := by
  have es := d.same hl
  have ef : dF m (goalE n (dE n m l)) = dF m l := by funext x; unfold dF; rw [es]
  have W := d.way l
  have W2 := d.way (goalE n (dE n m l))
  rw [ef] at W2
  refine ⟨asc_ext (goal_asc _ _) hl fun y => ?_, ?_⟩
  · show y ∈ goalE n (byE _ _) ↔ _
    rw [W2.goal]
    show y < n ∧ dF m l y ∈ goalE n (byE _ _) ↔ _
    rw [W.goal]
    constructor
    · rintro ⟨h1, h2, h3⟩
      rwa [W.inv y h1] at h3
    · intro h
      have h1 : y < n := by have := (hl.2 y h).2; omega
      exact ⟨h1, W.lt y h1, by rw [W.inv y h1]; exact h⟩
  · refine list_ext (n := n) (by unfold cmpE; rw [List.length_map]; exact (d.ent l).len) (by rw [byE_len, ups_len]) fun x hx => ?_
    rw [cmp_at (by rw [(d.ent l).len]; exact hx), byE_at (by rw [ups_len]; exact hx)]
    by_cases c : x ∈ l
    · rw [if_pos c, (d.ent l).key x hx c]
      rfl
    · have e1 : (dE n m l).getD x 0 = (dF m l x : Int) := by
        unfold dE
        rw [byE_at (by rw [W.len]; exact hx), if_neg c, W.at_ x hx]
      obtain ⟨p1, p2⟩ := (d.ent l).off hx c
      rw [e1, Int.toNat_natCast] at p1 p2
      rw [e1, if_neg (by omega), if_neg c, ups_at hx, Int.toNat_natCast]
      show (byE _ _).getD _ 0 = _
      rw [byE_at (by rw [W2.len]; exact p1), if_neg p2, W2.at_ _ p1, W.inv x hx]
theorem perm_inv {α : Type} [DecidableEq α] {L : List α} {g : α → α} (nd : L.Nodup) (cl : ∀ x ∈ L, g x ∈ L) (iv : ∀ x ∈ L, g (g x) = x) : (L.map g).Perm L := by
  have nd2 : (L.map g).Nodup := by
    show (L.map g).Pairwise (· ≠ ·)
    rw [List.pairwise_map]
    refine List.Pairwise.imp_of_mem (fun {a b} ha hb h z => h ?_) nd
    rw [← iv a ha, ← iv b hb, z]
  refine (List.perm_ext_iff_of_nodup nd2 nd).mpr fun a => ⟨fun h => ?_, fun h => ?_⟩
  · obtain ⟨x, hx, rfl⟩ := List.mem_map.mp h
    exact cl x hx
  · exact List.mem_map.mpr ⟨g a, cl a h, iv a h⟩
theorem all_nodup {n : Nat} (hn : n ≤ 6) : (allL n).Nodup := by
  have h : ((allL n).map (num n)).Pairwise (· ≠ ·) := by rw [lots_nums n (by omega)]; exact List.nodup_range
  rw [List.pairwise_map] at h
  exact h.imp fun h z => h (by rw [z])
theorem Deed.ok (d : Deed n m) (hn : n ≤ 6) : TabOk n (deedT n m.1 m.2.1 m.2.2) := by
  rw [deed_map]
  exact TabOk.of_map hn (fun l _ => d.ent l) (perm_inv (g := fun l => goalE n (dE n m l)) (all_nodup hn) (fun l _ => goal_all hn _) fun l hl => (d.back (all_ascL hn l hl)).1)
theorem Deed.twice (d : Deed n m) (hn : n ≤ 6) : bothT n (deedT n m.1 m.2.1 m.2.2) (deedT n m.1 m.2.1 m.2.2) = stillT n := by
  rw [both_map hn (d.ok hn)]
  refine List.map_congr_left fun l hl => ?_
  rw [deed_map, en_map hn hl, en_map hn (goal_all hn _)]
  exact (d.back (all_ascL hn l hl)).2
end
theorem TabOk.gl_inj' {n : Nat} {T : List (List Int)} (hn : n ≤ 6) (h : TabOk n T) {a b : List Nat} (ha : a ∈ allL n) (hb : b ∈ allL n) (e : goalE n (en n T a) = goalE n (en n T b)) : a = b := by
  have nd : ((allL n).map fun l => goalE n (en n T l)).Pairwise (· ≠ ·) := (h.goalp hn).symm.nodup (all_nodup hn)
  rw [List.pairwise_map, List.pairwise_iff_getElem] at nd
  obtain ⟨i, hi, rfl⟩ := List.getElem_of_mem ha
  obtain ⟨j, hj, rfl⟩ := List.getElem_of_mem hb
  rcases Nat.lt_trichotomy i j with c | c | c
  · exact absurd e (nd i j hi hj c)
  · subst c; rfl
  · exact absurd e.symm (nd j i hj hi c)
end Kr
namespace Kr
open PySem PySem.Spec PyProof.Rows L2
/-! ### the law's tables by deeds, deed by deed -/
theorem setGo_keep {x : Nat} : ∀ (k : Nat) (r acc : List Int), (∀ j, j < r.length → r.getD j 0 ≠ (x : Int)) → (setGo k r acc).getD x 0 = acc.getD x 0
  | _, [], _, _ => rfl
  | k, z :: r, acc, h => by
    unfold setGo
    rw [setGo_keep (k + 1) r _ fun j hj => by
      have := h (j + 1) (by rw [List.length_cons]; omega)
      simpa using this]
    have h0 := h 0 (by rw [List.length_cons]; omega)
    have h0 : z ≠ (x : Int) := by simpa using h0
    split
    · rename_i c
      rw [List.getD_eq_getElem?_getD, List.getElem?_set_ne (by omega), ← List.getD_eq_getElem?_getD]
    · rfl
theorem setGo_put {x : Nat} : ∀ (k : Nat) (r acc : List Int) (j : Nat), j < r.length → r.getD j 0 = (x : Int) → (∀ i, i < r.length → r.getD i 0 = (x : Int) → i = j) → x < acc.length → (setGo k r acc).getD x 0 = ((k + j : Nat) : Int)
  | _, [], _, j, h, _, _, _ => by simp at h
  | k, z :: r, acc, 0, h, e, u, hx => by
    unfold setGo
    have e : z = (x : Int) := by simpa using e
    rw [setGo_keep (k + 1) r _ fun i hi ei => by
      have := u (i + 1) (by rw [List.length_cons]; omega) (by simpa using ei)
      omega]
    rw [if_pos (by omega), e, Int.toNat_natCast, List.getD_eq_getElem?_getD, List.getElem?_set_self hx]
    rfl
  | k, z :: r, acc, j + 1, h, e, u, hx => by
    unfold setGo
    rw [setGo_put (k + 1) r _ j (by rw [List.length_cons] at h; omega) (by simpa using e) (fun i hi ei => by
      have := u (i + 1) (by rw [List.length_cons]; omega) (by simpa using ei)
      omega) (by split <;> first | (rw [List.length_set]; exact hx) | exact hx)]
    congr 1
    omega
/-- riders at their places: what lies at each place -/
structure Lies (n : Nat) (l : List Nat) (ls : List Int) : Prop where
  len : ls.length = n
  at_ : ∀ y, y < n → ls.getD y 0 = -1 ∨ ∃ x : Nat, x < n ∧ x ∉ l ∧ ls.getD y 0 = x
  has : ∀ x, x < n → x ∉ l → ∃ y, y < n ∧ ls.getD y 0 = (x : Int)
  one : ∀ y z, y < n → z < n → 0 ≤ ls.getD y 0 → ls.getD y 0 = ls.getD z 0 → y = z
section
variable {n : Nat} {l : List Nat} {ls : List Int}
theorem Lies.put (h : Lies n l ls) {x y : Nat} (hx : x < n) (hy : y < n) (e : ls.getD y 0 = (x : Int)) : (lawE n ls).getD x 0 = (y : Int) := by
  unfold lawE
  rw [setGo_put 0 ls _ y (by rw [h.len]; exact hy) e (fun i hi ei => h.one i y (by rw [← h.len]; exact hi) hy (by omega) (ei.trans e.symm)) (by rw [List.length_replicate]; exact hx), Nat.zero_add]
theorem Lies.keep (h : Lies n l ls) {x : Nat} (hx : x < n) (c : x ∈ l) : (lawE n ls).getD x 0 = -1 := by
  unfold lawE
  rw [setGo_keep 0 ls _ fun j hj ej => ?_]
  · rw [List.getD_eq_getElem?_getD, List.getElem?_replicate, if_pos hx]
    rfl
  · rcases h.at_ j (by rw [← h.len]; exact hj) with z | ⟨x', _, c', z⟩
    · rw [z] at ej; omega
    · rw [z] at ej
      have : x' = x := by omega
      exact c' (this ▸ c)
theorem lawE_len (n : Nat) (ls : List Int) : (lawE n ls).length = n := by unfold lawE; rw [setGo_len, List.length_replicate]
theorem Lies.ent (h : Lies n l ls) : EntF n l (lawE n ls) := by
  refine ⟨lawE_len n ls, fun x hx c => h.keep hx c, fun x hx c => ?_, fun x y hx hy cx cy z => ?_⟩
  · obtain ⟨y, hy, e⟩ := h.has x hx c
    rw [h.put hx hy e]
    omega
  · obtain ⟨u, hu, eu⟩ := h.has x hx cx
    obtain ⟨v, hv, ev⟩ := h.has y hy cy
    rw [h.put hx hu eu, h.put hy hv ev] at z
    have : u = v := by omega
    subst this
    rw [eu] at ev
    omega
theorem Lies.goal (h : Lies n l ls) {y : Nat} (hy : y < n) : y ∈ goalE n (lawE n ls) ↔ ¬ 0 ≤ ls.getD y 0 := by
  rw [mem_goal, mem_e (lawE_len n ls)]
  constructor
  · rintro ⟨_, h2⟩ c
    rcases h.at_ y hy with z | ⟨x, hx, _, z⟩
    · omega
    · exact h2 ⟨x, hx, h.put hx hy z⟩
  · refine fun c => ⟨hy, ?_⟩
    rintro ⟨x, hx, e⟩
    by_cases k : x ∈ l
    · rw [h.keep hx k] at e
      omega
    · obtain ⟨u, hu, eu⟩ := h.has x hx k
      rw [h.put hx hu eu] at e
      have : u = y := by omega
      subst this
      omega
theorem lies_start (n : Nat) (l : List Nat) : Lies n l (stL n l) := by
  have at_ : ∀ x, x < n → (stL n l).getD x 0 = if x ∈ l then -1 else (x : Int) := fun x hx => by
    unfold stL
    rw [List.getD_eq_getElem?_getD, List.getElem?_map, List.getElem?_range hx]
    rfl
  refine ⟨by unfold stL; rw [List.length_map, List.length_range], fun y hy => ?_, fun x hx c => ⟨x, hx, by rw [at_ x hx, if_neg c]⟩, fun y z hy hz p e => ?_⟩
  · rw [at_ y hy]
    by_cases c : y ∈ l
    · rw [if_pos c]; exact .inl rfl
    · rw [if_neg c]; exact .inr ⟨y, hy, c, rfl⟩
  · rw [at_ y hy] at p e
    rw [at_ z hz] at e
    split at e
    · rename_i c
      rw [if_pos c] at p
      omega
    · split at e <;> omega
/-- two places exchanged, or not -/
theorem Lies.moved (h : Lies n l ls) {m : Mv} (d : Deed n m) : Lies n l (mvL ls m) ∧ lawE n (mvL ls m) = cmpE (lawE n ls) (dE n m (goalE n (lawE n ls))) := by
  have hab := d.ab
  have hbn := d.bn
  have hcond : m.1.all (fun x => !decide (0 ≤ ls.getD x 0)) = isAll m.1 (goalE n (lawE n ls)) := by
    rw [Bool.eq_iff_iff, isAll_iff, List.all_eq_true]
    refine forall_congr' fun x => forall_congr' fun hx => ?_
    rw [h.goal (by have := (d.asc.2 x hx).2; omega)]
    simp
  have W := d.way (goalE n (lawE n ls))
  have at_ : ∀ y, y < n → (mvL ls m).getD y 0 = ls.getD (dF m (goalE n (lawE n ls)) y) 0 := fun y hy => by
    unfold mvL dF
    rw [hcond]
    split
    · unfold sw
      rw [List.getD_eq_getElem?_getD, List.getElem?_set, List.length_set, h.len, List.getElem?_set, h.len]
      by_cases c1 : y = m.2.2
      · rw [if_pos c1.symm, if_pos hbn, if_pos c1]
        rfl
      · rw [if_neg (fun z => c1 z.symm), if_neg c1]
        by_cases c2 : y = m.2.1
        · rw [if_pos c2.symm, if_pos (by omega), if_pos c2]
          rfl
        · rw [if_neg (fun z => c2 z.symm), if_neg c2, List.getD_eq_getElem?_getD]
    · rfl
  have hl : (mvL ls m).length = n := by
    unfold mvL
    split
    · rw [List.length_set, List.length_set]; exact h.len
    · exact h.len
  have hL : Lies n l (mvL ls m) := by
    refine ⟨hl, fun y hy => ?_, fun x hx c => ?_, fun y z hy hz p e => ?_⟩
    · rw [at_ y hy]
      exact h.at_ _ (W.lt y hy)
    · obtain ⟨y, hy, e⟩ := h.has x hx c
      exact ⟨_, W.lt y hy, by rw [at_ _ (W.lt y hy), W.inv y hy]; exact e⟩
    · rw [at_ y hy] at p e
      rw [at_ z hz] at e
      have := h.one _ _ (W.lt y hy) (W.lt z hz) p e
      rw [← W.inv y hy, this, W.inv z hz]
  refine ⟨hL, list_ext (n := n) (lawE_len n _) (by unfold cmpE; rw [List.length_map]; exact lawE_len n _) fun x hx => ?_⟩
  rw [cmp_at (by rw [lawE_len]; exact hx)]
  by_cases c : x ∈ l
  · rw [hL.keep hx c, h.keep hx c]
    rfl
  · obtain ⟨y, hy, e⟩ := h.has x hx c
    have e2 := h.put hx hy e
    obtain ⟨p1, p2⟩ := h.ent.off hx c
    rw [e2, Int.toNat_natCast] at p1 p2
    rw [e2, if_neg (by omega), Int.toNat_natCast, hL.put hx (W.lt y hy) (by rw [at_ _ (W.lt y hy), W.inv y hy]; exact e)]
    show _ = (byE _ _).getD _ 0
    rw [byE_at (by rw [W.len]; exact p1), if_neg p2, W.at_ _ p1]
end
theorem lies_all {n : Nat} {l : List Nat} : ∀ (ms : List Mv) (ls : List Int), Lies n l ls → (∀ m ∈ ms, Deed n m) → Lies n l (ms.foldl mvL ls)
  | [], _, h, _ => h
  | m :: ms, ls, h, d => lies_all ms _ (h.moved (d m List.mem_cons_self)).1 fun x hx => d x (List.mem_cons_of_mem _ hx)
theorem made_nil {n : Nat} (hn : n ≤ 6) : madeT n [] = stillT n := by
  refine List.map_congr_left fun l hl => ?_
  show lawE n (stL n l) = _
  have h := lies_start n l
  have at_ : ∀ x, x < n → (stL n l).getD x 0 = if x ∈ l then -1 else (x : Int) := fun x hx => by
    unfold stL
    rw [List.getD_eq_getElem?_getD, List.getElem?_map, List.getElem?_range hx]
    rfl
  refine list_ext (n := n) (lawE_len n _) (by rw [byE_len, ups_len]) fun x hx => ?_
  rw [byE_at (by rw [ups_len]; exact hx)]
  by_cases c : x ∈ l
  · rw [if_pos c, h.keep hx c]
  · rw [if_neg c, ups_at hx, h.put hx hx (by rw [at_ x hx, if_neg c])]
theorem made_ent {n : Nat} {ms : List Mv} (d : ∀ m ∈ ms, Deed n m) (l : List Nat) : EntF n l (madeE n ms l) := (lies_all ms _ (lies_start n l) d).ent
theorem made_snoc {n : Nat} (hn : n ≤ 6) {ms : List Mv} {m : Mv} (d : ∀ x ∈ ms ++ [m], Deed n x) : madeT n (ms ++ [m]) = bothT n (madeT n ms) (deedT n m.1 m.2.1 m.2.2) := by
  unfold madeT bothT
  rw [List.map_map]
  refine List.map_congr_left fun l hl => ?_
  have dm := d m (List.mem_append_right _ List.mem_cons_self)
  have h := (lies_all ms _ (lies_start n l) fun x hx => d x (List.mem_append_left _ hx)).moved dm
  show lawE n ((ms ++ [m]).foldl mvL (stL n l)) = cmpE (madeE n ms l) (en n (deedT n m.1 m.2.1 m.2.2) (goalE n (madeE n ms l)))
  rw [List.foldl_append, deed_map, en_map hn (goal_all hn _)]
  exact h.2
theorem made_ok {n : Nat} (hn : n ≤ 6) {ms : List Mv} (d : ∀ m ∈ ms, Deed n m) : TabOk n (madeT n ms) := by
  have : ∀ k, k ≤ ms.length → TabOk n (madeT n (ms.take k)) := fun k => by
    induction k with
    | zero =>
      intro _
      rw [List.take_zero, made_nil hn]
      exact still_ok hn
    | succ k ih =>
      intro hk
      have e : ms.take (k + 1) = ms.take k ++ [ms[k]] := by rw [List.take_add_one, List.getElem?_eq_getElem (by omega)]; rfl
      have d2 : ∀ x ∈ ms.take k ++ [ms[k]], Deed n x := fun x hx => d x (List.take_subset _ _ (e ▸ hx))
      rw [e, made_snoc hn d2]
      exact (ih (by omega)).both hn ((d2 _ (List.mem_append_right _ List.mem_cons_self)).ok hn)
  have := this ms.length (Nat.le_refl _)
  rwa [List.take_length] at this
theorem made_one {n : Nat} (hn : n ≤ 6) {m : Mv} (d : Deed n m) : madeT n [m] = deedT n m.1 m.2.1 m.2.2 := by
  have := made_snoc (ms := []) (m := m) hn fun x hx => by
    rw [List.nil_append, List.mem_singleton] at hx
    exact hx ▸ d
  rw [List.nil_append, made_nil hn, still_both hn (d.ok hn)] at this
  exact this
end Kr
namespace Kr
open PySem PySem.Spec PyProof.Rows L2
/-! ### signs -/
/-- how many ahead of the j-th are greater -/
def invA (xs : List Int) (j : Nat) : Nat := (xs.take j).countP fun a => decide (xs.getD j 0 < a)
def invS (xs : List Int) (i : Nat) : Nat := ((List.range i).map (invA xs)).sum
def invN (xs : List Int) : Nat := invS xs xs.length
def oddN (k : Nat) : Bool := decide (k % 2 = 1)
def sgI (xs : List Int) : Bool := oddN (invN xs)
theorem invS_succ (xs : List Int) (i : Nat) : invS xs (i + 1) = invS xs i + invA xs i := by
  unfold invS
  rw [List.range_succ, List.map_append, List.sum_append]
  simp
theorem invA_le (xs : List Int) (i : Nat) : invA xs i ≤ i := by
  unfold invA
  refine Nat.le_trans List.countP_le_length ?_
  rw [List.length_take]
  omega
theorem invS_le (xs : List Int) : ∀ i m, i ≤ m → invS xs i ≤ i * m
  | 0, _, _ => by simp [invS]
  | i + 1, m, h => by
    have h1 := invS_le xs i m (by omega)
    have h2 := invA_le xs i
    rw [invS_succ, Nat.add_mul]
    omega
theorem odd_mod (k : Nat) : ((k : Int) % 2) = bi (oddN k) := by
  unfold oddN bi
  rcases Nat.mod_two_eq_zero_or_one k with h | h
  · rw [h]
    simp
    omega
  · rw [h]
    simp
    omega
theorem odd_add (a b : Nat) : oddN (a + b) = (oddN a ^^ oddN b) := by
  unfold oddN
  rcases Nat.mod_two_eq_zero_or_one a with h | h <;> rcases Nat.mod_two_eq_zero_or_one b with k | k <;> simp [Nat.add_mod, h, k]
theorem sum_ones (k : Nat) : (List.replicate k (1 : Int)).sum = (k : Int) := by
  induction k with
  | zero => rfl
  | succ k ih => rw [List.replicate_succ, List.sum_cons, ih]; omega
def spSign : Sp := fun vs H Q _ => ∃ (a : Addr) (xs : List Int), vs = [.ref a] ∧ H a = some (.lst (xs.map V.int)) ∧ xs.length ≤ 100 ∧ ∀ H', Same H H' → Q (.int (bi (sgI xs))) H'
/-- the riders of an entry -/
def ridE (e : List Int) : List Int := e.filter fun x => !decide (x = -1)
/-- the sign of the riders of entries, together -/
def sgR : List (List Int) → Bool
  | [] => false
  | e :: es => (sgI (ridE e) ^^ sgR es)
theorem sgR_sum : ∀ es : List (List Int), ((es.map fun e => bi (sgI (ridE e))).sum) % 2 = bi (sgR es)
  | [] => rfl
  | e :: es => by
    have ih := sgR_sum es
    rw [List.map_cons, List.sum_cons]
    show _ = bi (sgI (ridE e) ^^ sgR es)
    rw [← bi_sum, ← ih]
    omega
def spCarry : Sp := fun vs H Q _ => ∃ (a : Addr) (us : List V) (es : List (List Int)), vs = [.ref a] ∧ H a = some (.lst us) ∧ DqA H us (es.map entD) ∧ es.length ≤ 100 ∧ (∀ e ∈ es, e.length ≤ 100) ∧ ∀ H', Same H H' → Q (.int (bi (sgR es))) H'
/-- the row of a table -/
def sgT (n : Nat) (T : List (List Int)) : Row := (List.range (n + 1)).map fun s => (sgI ((lotsL n s).map fun l => ((num n (goalE n (en n T l)) : Nat) : Int)), sgR ((lotsL n s).map (en n T)))
def spSigns : Sp := fun vs H Q _ => ∃ (n : Nat) (v : V) (T : List (List Int)), vs = [.int (n : Int), v] ∧ n ≤ 6 ∧ Dq H v (tabD T) ∧ TabOk n T ∧ ∀ H' r, Same H H' → Dq H' r (rowD (sgT n T)) → Q r H'
end Kr
namespace Kr
open PySem PySem.Spec PyProof.Rows L2
/-! ### signs as sums over pairs -/
def xorA : List Bool → Bool
  | [] => false
  | b :: r => (b ^^ xorA r)
theorem xorA_perm {a b : List Bool} (p : a.Perm b) : xorA a = xorA b := by
  induction p with
  | nil => rfl
  | cons x _ ih => simp [xorA, ih]
  | swap x y l => simp only [xorA]; cases x <;> cases y <;> simp
  | trans _ _ h1 h2 => exact h1.trans h2
theorem xorA_app : ∀ a b : List Bool, xorA (a ++ b) = (xorA a ^^ xorA b)
  | [], b => by simp [xorA]
  | x :: a, b => by
    rw [List.cons_append]
    simp only [xorA]
    rw [xorA_app a b, Bool.xor_assoc]
theorem xorA_xor {α : Type} (f g : α → Bool) : ∀ l : List α, xorA (l.map fun x => (f x ^^ g x)) = (xorA (l.map f) ^^ xorA (l.map g))
  | [] => rfl
  | x :: l => by
    simp only [List.map_cons, xorA]
    rw [xorA_xor f g l]
    cases f x <;> cases g x <;> simp
def pairN {α : Type} (g : α → α → Bool) : List α → Bool
  | [] => false
  | x :: r => (xorA (r.map (g x)) ^^ pairN g r)
theorem pairN_map {α β : Type} (f : α → β) (g : β → β → Bool) : ∀ l : List α, pairN g (l.map f) = pairN (fun x y => g (f x) (f y)) l
  | [] => rfl
  | x :: l => by
    rw [List.map_cons]
    simp only [pairN]
    rw [pairN_map f g l, List.map_map]
    rfl
theorem pairN_congr {α : Type} {g h : α → α → Bool} : ∀ {l : List α}, l.Pairwise (fun x y => g x y = h x y) → pairN g l = pairN h l
  | [], _ => rfl
  | x :: l, p => by
    rw [List.pairwise_cons] at p
    simp only [pairN]
    rw [pairN_congr p.2, List.map_congr_left p.1]
theorem pairN_xor {α : Type} (g h : α → α → Bool) : ∀ l : List α, pairN (fun x y => (g x y ^^ h x y)) l = (pairN g l ^^ pairN h l)
  | [] => rfl
  | x :: l => by
    simp only [pairN]
    rw [pairN_xor g h l, xorA_xor]
    cases xorA (l.map (g x)) <;> cases xorA (l.map (h x)) <;> cases pairN g l <;> cases pairN h l <;> rfl
theorem pairN_perm {α : Type} {g : α → α → Bool} {a b : List α} (p : a.Perm b) (sy : ∀ x ∈ a, ∀ y ∈ a, g x y = g y x) : pairN g a = pairN g b := by
  induction p with
  | nil => rfl
  | cons x p ih =>
    simp only [pairN]
    rw [ih fun u hu v hv => sy u (List.mem_cons_of_mem _ hu) v (List.mem_cons_of_mem _ hv), xorA_perm (p.map _)]
  | swap x y l =>
    have e := sy x (by simp) y (by simp)
    simp only [pairN, List.map_cons, xorA]
    rw [e]
    cases g y x <;> cases xorA (l.map (g x)) <;> cases xorA (l.map (g y)) <;> cases pairN g l <;> rfl
  | trans p1 p2 h1 h2 => exact (h1 sy).trans (h2 fun u hu v hv => sy u (p1.symm.subset hu) v (p1.symm.subset hv))
theorem odd_count {α : Type} (f : α → Bool) : ∀ l : List α, oddN (l.countP f) = xorA (l.map f)
  | [] => rfl
  | x :: l => by
    rw [List.countP_cons, List.map_cons, odd_add, odd_count f l]
    simp only [xorA]
    cases f x <;> simp [oddN]
theorem inv_cons (x : Int) (r : List Int) : invN (x :: r) = r.countP (fun y => decide (y < x)) + invN r := by
  have key : ∀ i, i ≤ r.length → invS (x :: r) (i + 1) = (r.take i).countP (fun y => decide (y < x)) + invS r i := by
    intro i
    induction i with
    | zero =>
      intro _
      rw [invS_succ]
      simp [invS, invA]
    | succ i ih =>
      intro hi
      rw [invS_succ, ih (by omega), invS_succ, List.take_add_one, getD_get (show i < r.length by omega), List.countP_append]
      have e : invA (x :: r) (i + 1) = (if r.getD i 0 < x then 1 else 0) + invA r i := by
        unfold invA
        rw [List.take_succ_cons, List.countP_cons, show (x :: r).getD (i + 1) 0 = r.getD i 0 from by simp]
        by_cases c : r.getD i 0 < x <;> simp only [c, decide_true, decide_false, if_true, if_false, Bool.false_eq_true] <;> omega
      rw [e]
      have e2 : List.countP (fun y => decide (y < x)) (some (r.getD i 0)).toList = if r.getD i 0 < x then 1 else 0 := by
        generalize r.getD i 0 = z
        by_cases c : z < x <;> simp [c]
      rw [e2]
      omega
  have := key r.length (Nat.le_refl _)
  rw [List.take_length] at this
  exact this
theorem sgI_pair : ∀ xs : List Int, sgI xs = pairN (fun x y => decide (y < x)) xs
  | [] => rfl
  | x :: r => by
    unfold sgI
    rw [inv_cons, odd_add, odd_count]
    simp only [pairN]
    rw [← sgI_pair r]
    rfl
theorem sgI_map {α : Type} (k : α → Int) (l : List α) : sgI (l.map k) = pairN (fun x y => decide (k y < k x)) l := by rw [sgI_pair, pairN_map]
/-- a row in an order, its values led on: both signs together -/
theorem sg_comp {α : Type} {L ts : List α} {k h : α → Int} (p : ts.Perm L) (asc : L.Pairwise fun x y => k x < k y) (hi : L.Pairwise fun x y => h x ≠ h y) : sgI (ts.map h) = (sgI (ts.map k) ^^ sgI (L.map h)) := by
  rw [sgI_map, sgI_map, sgI_map]
  have both : ∀ x ∈ L, ∀ y ∈ L, (x = y ∧ k x = k y) ∨ (k x ≠ k y ∧ h x ≠ h y) := by
    intro x hx y hy
    obtain ⟨i, hi', rfl⟩ := List.getElem_of_mem hx
    obtain ⟨j, hj', rfl⟩ := List.getElem_of_mem hy
    rcases Nat.lt_trichotomy i j with c | c | c
    · have a1 := List.pairwise_iff_getElem.mp asc i j hi' hj' c
      have a2 := List.pairwise_iff_getElem.mp hi i j hi' hj' c
      exact .inr ⟨by omega, a2⟩
    · subst c
      exact .inl ⟨rfl, rfl⟩
    · have a1 := List.pairwise_iff_getElem.mp asc j i hj' hi' c
      have a2 := List.pairwise_iff_getElem.mp hi j i hj' hi' c
      exact .inr ⟨by omega, fun z => a2 z.symm⟩
  let D : α → α → Bool := fun x y => (decide (k x < k y) ^^ decide (h x < h y))
  have sy : ∀ x ∈ ts, ∀ y ∈ ts, D x y = D y x := by
    intro x hx y hy
    show (decide (k x < k y) ^^ decide (h x < h y)) = (decide (k y < k x) ^^ decide (h y < h x))
    rcases both x (p.subset hx) y (p.subset hy) with ⟨rfl, _⟩ | ⟨n1, n2⟩
    · rfl
    · have e1 : decide (k y < k x) = !decide (k x < k y) := by rw [← decide_not, decide_eq_decide]; omega
      have e2 : decide (h y < h x) = !decide (h x < h y) := by rw [← decide_not, decide_eq_decide]; omega
      rw [e1, e2]
      cases decide (k x < k y) <;> cases decide (h x < h y) <;> rfl
  have eL : pairN D L = pairN (fun x y => decide (h y < h x)) L := by
    refine pairN_congr ?_
    refine List.Pairwise.imp_of_mem (fun {x y} hx hy hxy => ?_) (asc.and hi)
    show (decide (k x < k y) ^^ decide (h x < h y)) = decide (h y < h x)
    rw [decide_eq_true hxy.1]
    have e2 : decide (h y < h x) = !decide (h x < h y) := by rw [← decide_not, decide_eq_decide]; have := hxy.2; omega
    rw [e2]
    cases decide (h x < h y) <;> rfl
  have nd : ts.Pairwise fun x y => x ≠ y := p.symm.nodup (asc.imp fun a z => by rw [z] at a; omega)
  have eT : pairN (fun x y => decide (h y < h x)) ts = pairN (fun x y => (decide (k y < k x) ^^ D x y)) ts := by
    refine pairN_congr ?_
    refine List.Pairwise.imp_of_mem (fun {x y} hx hy hxy => ?_) nd
    show decide (h y < h x) = (decide (k y < k x) ^^ (decide (k x < k y) ^^ decide (h x < h y)))
    rcases both x (p.subset hx) y (p.subset hy) with ⟨z, _⟩ | ⟨n1, n2⟩
    · exact absurd z hxy
    · have e1 : decide (k y < k x) = !decide (k x < k y) := by rw [← decide_not, decide_eq_decide]; omega
      have e2 : decide (h y < h x) = !decide (h x < h y) := by rw [← decide_not, decide_eq_decide]; omega
      rw [e1, e2]
      cases decide (k x < k y) <;> cases decide (h x < h y) <;> rfl
  rw [eT, pairN_xor, pairN_perm p sy, eL]
/-- ascending: even -/
theorem sg_asc {xs : List Int} (h : xs.Pairwise (· < ·)) : sgI xs = false := by
  rw [sgI_pair]
  have : ∀ l : List Int, l.Pairwise (· < ·) → pairN (fun x y => decide (y < x)) l = false := by
    intro l
    induction l with
    | nil => intro _; rfl
    | cons x l ih =>
      intro p
      rw [List.pairwise_cons] at p
      simp only [pairN]
      rw [ih p.2]
      have e : ∀ r : List Int, (∀ y ∈ r, x < y) → xorA (r.map fun y => decide (y < x)) = false := by
        intro r
        induction r with
        | nil => intro _; rfl
        | cons y r ih2 =>
          intro q
          have h1 := q y List.mem_cons_self
          rw [List.map_cons]
          simp only [xorA]
          rw [ih2 fun z hz => q z (List.mem_cons_of_mem _ hz), decide_eq_false (by omega)]
          rfl
      rw [e l p.1]
      rfl
  exact this xs h
/-! ### the row of two tables, one behind the other -/
/-- the places without a key -/
def freeL (n : Nat) (l : List Nat) : List Nat := (List.range n).filter fun x => !decide (x ∈ l)
theorem free_asc (n : Nat) (l : List Nat) : (freeL n l).Pairwise (· < ·) := List.Pairwise.filter _ List.pairwise_lt_range
theorem mem_free {n : Nat} {l : List Nat} {x : Nat} : x ∈ freeL n l ↔ x < n ∧ x ∉ l := by
  unfold freeL
  rw [List.mem_filter, List.mem_range]
  simp
theorem EntF.rid_eq {n : Nat} {l : List Nat} {e : List Int} (h : EntF n l e) : ridE e = (freeL n l).map fun x => e.getD x 0 := by
  have e1 : e = (List.range n).map fun x => e.getD x 0 := by
    refine list_ext h.len (by rw [List.length_map, List.length_range]) fun x hx => ?_
    rw [List.getD_eq_getElem?_getD, List.getD_eq_getElem?_getD, List.getElem?_map, List.getElem?_range hx]
    show e[x]?.getD 0 = e.getD x 0
    rw [List.getD_eq_getElem?_getD]
  unfold ridE freeL
  conv => lhs; rw [e1]
  rw [List.filter_map]
  congr 1
  refine List.filter_congr fun x hx => ?_
  have hx := List.mem_range.mp hx
  show (!decide (e.getD x 0 = -1)) = _
  rw [decide_eq_decide.mpr (h.neg hx)]
theorem EntF.rid_perm {n : Nat} {l : List Nat} {e : List Int} (h : EntF n l e) : ((freeL n l).map fun x => (e.getD x 0).toNat).Perm (freeL n (goalE n e)) := by
  refine (List.perm_ext_iff_of_nodup ?_ ((free_asc _ _).imp fun z => Nat.ne_of_lt z)).mpr fun y => ?_
  · show List.Pairwise _ _
    rw [List.pairwise_map]
    refine List.Pairwise.imp_of_mem (fun {a b} ha hb hab z => ?_) ((free_asc n l).imp fun z => Nat.ne_of_lt z)
    obtain ⟨a1, a2⟩ := mem_free.mp ha
    obtain ⟨b1, b2⟩ := mem_free.mp hb
    have r1 := h.rid a a1 a2
    have r2 := h.rid b b1 b2
    exact hab (h.inj a b a1 b1 a2 b2 (by omega))
  · rw [mem_free, List.mem_map]
    constructor
    · rintro ⟨x, hx, rfl⟩
      obtain ⟨x1, x2⟩ := mem_free.mp hx
      exact h.off x1 x2
    · rintro ⟨y1, y2⟩
      obtain ⟨x, x1, x2, ex⟩ := h.from y1 y2
      exact ⟨x, mem_free.mpr ⟨x1, x2⟩, by omega⟩
theorem sg_cmp {n : Nat} {l : List Nat} {e u : List Int} (h : EntF n l e) (g : EntF n (goalE n e) u) : sgI (ridE (cmpE e u)) = (sgI (ridE e) ^^ sgI (ridE u)) := by
  rw [(h.cmp g).1.rid_eq, h.rid_eq, g.rid_eq]
  have e1 : ((freeL n l).map fun x => (cmpE e u).getD x 0) = ((freeL n l).map fun x => (e.getD x 0).toNat).map fun y => u.getD y 0 := by
    rw [List.map_map]
    refine List.map_congr_left fun x hx => ?_
    obtain ⟨x1, x2⟩ := mem_free.mp hx
    rw [cmp_at (by rw [h.len]; exact x1), if_neg (fun z => x2 ((h.neg x1).mp z))]
    rfl
  have e2 : ((freeL n l).map fun x => e.getD x 0) = ((freeL n l).map fun x => (e.getD x 0).toNat).map fun (y : Nat) => (y : Int) := by
    rw [List.map_map]
    refine List.map_congr_left fun x hx => ?_
    obtain ⟨x1, x2⟩ := mem_free.mp hx
    have r := h.rid x x1 x2
    show _ = (((e.getD x 0).toNat : Nat) : Int)
    omega
  rw [e1, e2]
  refine sg_comp (k := fun (y : Nat) => (y : Int)) h.rid_perm ((free_asc _ _).imp fun z => by omega) ?_
  refine List.Pairwise.imp_of_mem (fun {a b} ha hb hab z => ?_) ((free_asc n (goalE n e)).imp fun z => Nat.ne_of_lt z)
  obtain ⟨a1, a2⟩ := mem_free.mp ha
  obtain ⟨b1, b2⟩ := mem_free.mp hb
  exact hab (g.inj a b a1 b1 a2 b2 z)
theorem sgR_xor : ∀ es : List (List Int), sgR es = xorA (es.map fun e => sgI (ridE e))
  | [] => rfl
  | e :: es => by
    rw [List.map_cons]
    simp only [sgR, xorA]
    rw [sgR_xor es]
theorem goal_len {n : Nat} {l : List Nat} {e : List Int} (hl : Asc 0 n l) (h : EntF n l e) : (goalE n e).length = l.length := by
  have p := h.rid_perm.length_eq
  rw [List.length_map] at p
  have c : ∀ g : List Nat, Asc 0 n g → (freeL n g).length + g.length = n := fun g hg => by
    have e1 : (List.range n).filter (fun x => decide (x ∈ g)) = g := by
      refine asc_ext (n := n) ⟨List.Pairwise.filter _ List.pairwise_lt_range, fun x hx => ?_⟩ hg fun x => ?_
      · have := List.mem_range.mp (List.mem_filter.mp hx).1
        omega
      · rw [List.mem_filter, List.mem_range]
        simp only [decide_eq_true_eq]
        exact ⟨fun z => z.2, fun z => ⟨by have := (hg.2 x z).2; omega, z⟩⟩
    have e2 := List.length_eq_countP_add_countP (fun x => decide (x ∈ g)) (l := List.range n)
    rw [List.length_range, List.countP_eq_length_filter, e1, List.countP_eq_length_filter] at e2
    unfold freeL
    have e3 : (List.range n).filter (fun x => !decide (x ∈ g)) = (List.range n).filter (fun a => decide ¬decide (a ∈ g) = true) := List.filter_congr fun x _ => by simp
    rw [e3]
    omega
  have h1 := c l hl
  have h2 := c _ (goal_asc n e)
  omega
/-- the lots of a size are led to lots of that size -/
theorem lots_size : ∀ n : Nat, n < 7 → ∀ s : Nat, s < n + 1 → ∀ l ∈ allL n, l.length = s → l ∈ lotsL n s := by decide +kernel
theorem lots_nd : ∀ n : Nat, n < 7 → ∀ s : Nat, s < n + 1 → (lotsL n s).Pairwise fun a b => num n a < num n b := fun n hn s hs => by
  have h := nums_lots n hn s hs
  have p : ((lotsL n s).map (num n)).Pairwise (· < ·) := by
    rw [h, List.pairwise_map]
    exact List.pairwise_lt_range.imp fun z => by omega
  rwa [List.pairwise_map] at p
theorem TabOk.size_perm {n : Nat} (hn : n ≤ 6) {T : List (List Int)} (h : TabOk n T) {s : Nat} (hs : s ≤ n) : ((lotsL n s).map fun l => goalE n (en n T l)).Perm (lotsL n s) := by
  have nd0 : (lotsL n s).Pairwise (· ≠ ·) := (lots_nd n (by omega) s (by omega)).imp fun z e => by rw [e] at z; omega
  have mem : ∀ l ∈ lotsL n s, l ∈ allL n := own_all n (by omega) s (by omega)
  have nd : ((lotsL n s).map fun l => goalE n (en n T l)).Nodup := by
    show List.Pairwise _ _
    rw [List.pairwise_map]
    exact List.Pairwise.imp_of_mem (fun {a b} ha hb hab z => hab (h.gl_inj' hn (mem a ha) (mem b hb) z)) nd0
  refine (List.perm_ext_iff_of_nodup nd nd0).mpr fun g => ⟨fun hg => ?_, fun hg => ?_⟩
  · obtain ⟨l, hl, rfl⟩ := List.mem_map.mp hg
    refine lots_size n (by omega) s (by omega) _ (goal_all hn _) ?_
    rw [goal_len (all_ascL hn l (mem l hl)) (h.ent hn (mem l hl))]
    exact (lots_in n s l hl).1
  · have hm : g ∈ (allL n).map fun l => goalE n (en n T l) := (h.goalp hn).symm.subset (mem g hg)
    obtain ⟨l, hl, e⟩ := List.mem_map.mp hm
    refine List.mem_map.mpr ⟨l, lots_size n (by omega) s (by omega) l hl ?_, e⟩
    have := goal_len (all_ascL hn l hl) (h.ent hn hl)
    rw [e, (lots_in n s g hg).1] at this
    exact this.symm
theorem num_inj {n : Nat} (hn : n ≤ 6) {a b : List Nat} (ha : a ∈ allL n) (hb : b ∈ allL n) (e : num n a = num n b) : a = b := by
  have h1 := all_at hn ha
  rw [e, all_at hn hb] at h1
  exact (Option.some.inj h1).symm
/-- the row of two tables, one behind the other -/
theorem sgT_both {n : Nat} (hn : n ≤ 6) {T U : List (List Int)} (h : TabOk n T) (g : TabOk n U) : sgT n (bothT n T U) = addR (sgT n T) (sgT n U) := by
  unfold sgT addR
  rw [List.zipWith_map, List.zipWith_self]
  refine List.map_congr_left fun s hs => ?_
  have hs := List.mem_range.mp hs
  have mem : ∀ l ∈ lotsL n s, l ∈ allL n := own_all n (by omega) s (by omega)
  have P := h.size_perm hn (s := s) (by omega)
  have eg : ∀ l ∈ lotsL n s, en n (bothT n T U) l = cmpE (en n T l) (en n U (goalE n (en n T l))) := fun l hl => en_both hn h (mem l hl)
  have ent : ∀ l ∈ lotsL n s, EntF n l (en n T l) ∧ EntF n (goalE n (en n T l)) (en n U (goalE n (en n T l))) := fun l hl => ⟨h.ent hn (mem l hl), g.ent hn (goal_all hn _)⟩
  refine Prod.ext ?_ ?_
  · show sgI ((lotsL n s).map fun l => ((num n (goalE n (en n (bothT n T U) l)) : Nat) : Int)) = (_ ^^ _)
    have e1 : ((lotsL n s).map fun l => ((num n (goalE n (en n (bothT n T U) l)) : Nat) : Int)) = ((lotsL n s).map fun l => goalE n (en n T l)).map fun l => ((num n (goalE n (en n U l)) : Nat) : Int) := by
      rw [List.map_map]
      refine List.map_congr_left fun l hl => ?_
      rw [eg l hl, ((ent l hl).1.cmp (ent l hl).2).2]
      rfl
    have e2 : ((lotsL n s).map fun l => ((num n (goalE n (en n T l)) : Nat) : Int)) = ((lotsL n s).map fun l => goalE n (en n T l)).map fun l => ((num n l : Nat) : Int) := by rw [List.map_map]; rfl
    rw [e1, sg_comp (k := fun l => ((num n l : Nat) : Int)) P ((lots_nd n (by omega) s (by omega)).imp fun z => by omega) ?_, e2]
    have nd0 : (lotsL n s).Pairwise (· ≠ ·) := (lots_nd n (by omega) s (by omega)).imp fun z e => by rw [e] at z; omega
    refine List.Pairwise.imp_of_mem (fun {a b} ha hb hab z => hab ?_) nd0
    have e3 : num n (goalE n (en n U a)) = num n (goalE n (en n U b)) := by omega
    exact g.gl_inj' hn (mem a ha) (mem b hb) (num_inj hn (goal_all hn _) (goal_all hn _) e3)
  · show sgR ((lotsL n s).map (en n (bothT n T U))) = (_ ^^ _)
    rw [sgR_xor, sgR_xor, sgR_xor, List.map_map, List.map_map, List.map_map]
    have e1 : ((lotsL n s).map ((fun e => sgI (ridE e)) ∘ en n (bothT n T U))) = (lotsL n s).map fun l => (sgI (ridE (en n T l)) ^^ sgI (ridE (en n U (goalE n (en n T l))))) := by
      refine List.map_congr_left fun l hl => ?_
      show sgI (ridE (en n (bothT n T U) l)) = _
      rw [eg l hl]
      exact sg_cmp (ent l hl).1 (ent l hl).2
    rw [e1, xorA_xor]
    have e2 : ((lotsL n s).map fun l => sgI (ridE (en n U (goalE n (en n T l))))) = ((lotsL n s).map fun l => goalE n (en n T l)).map fun g => sgI (ridE (en n U g)) := by rw [List.map_map]; rfl
    rw [e2, xorA_perm (P.map _)]
    rfl
end Kr
namespace Kr
open PySem PySem.Spec PyProof.Rows L2
/-! ### the rows of deeds -/
def codeL (n : Nat) (l : List Nat) : Nat := l.foldl (fun c x => c + (2 ^ n - 2 ^ (n - 1 - x))) 0
def cinv : List Nat → Bool
  | [] => false
  | x :: r => ((r.countP fun y => Nat.blt y x) % 2 == 1) ^^ cinv r
def memB (x : Nat) : List Nat → Bool
  | [] => false
  | y :: r => Nat.beq x y || memB x r
def swB (a b x : Nat) : Nat := bif Nat.beq x b then a else bif Nat.beq x a then b else x
def gl (n : Nat) (q : List Nat) (a b : Nat) (l : List Nat) : List Nat := bif q.all (fun x => memB x l) then (List.range n).filter (fun y => memB (swB a b y) l) else l
def leadS (n : Nat) (q : List Nat) (a b : Nat) (s : Nat) : Bool := cinv ((lotsL n s).map fun l => codeL n (gl n q a b l))
def rdS (n : Nat) (q : List Nat) (a b : Nat) (s : Nat) : Bool := xorA ((lotsL n s).map fun l => bif q.all (fun x => memB x l) then cinv (((List.range n).filter fun x => !memB x l).map (swB a b)) else false)
def chkAB (n : Nat) : Bool := (allL n).all fun q => (List.range n).all fun b => (List.range b).all fun a => memB a q || memB b q || (List.range (n + 1)).all fun s => leadS n q a b s == chB ((n : Int) - 2 - q.length) (((s : Nat) : Int) - 1 - q.length) && rdS n q a b s == chB ((n : Int) - 2 - q.length) (((s : Nat) : Int) - q.length)
theorem chk_few : ∀ n : Nat, n < 6 → chkAB n = true := by decide +kernel
theorem chk_6 : chkAB 6 = true := by decide +kernel
theorem chk_all {n : Nat} (hn : n ≤ 6) : chkAB n = true := by
  rcases Nat.lt_or_ge n 6 with c | c
  · exact chk_few n c
  · have : n = 6 := by omega
    subst this
    exact chk_6
theorem memB_eq (x : Nat) : ∀ l : List Nat, memB x l = decide (x ∈ l)
  | [] => rfl
  | y :: l => by
    unfold memB
    rw [memB_eq x l, Bool.eq_iff_iff]
    simp
theorem beq_dec (x y : Nat) : Nat.beq x y = decide (x = y) := by rw [Bool.eq_iff_iff, Nat.beq_eq, decide_eq_true_iff]
theorem swB_eq (a b x : Nat) : swB a b x = sw a b x := by
  unfold swB sw
  rw [beq_dec, beq_dec]
  by_cases h1 : x = b
  · simp [h1]
  · by_cases h2 : x = a
    · simp [h1, h2]
    · simp [h1, h2]
theorem cinv_pair : ∀ l : List Nat, cinv l = pairN (fun x y => Nat.blt y x) l
  | [] => rfl
  | x :: l => by
    unfold cinv
    rw [cinv_pair l]
    simp only [pairN]
    rw [← odd_count]
    congr 1
theorem blt_eq (x y : Nat) : Nat.blt x y = decide ((x : Int) < y) := by
  rw [Bool.eq_iff_iff, Nat.blt_eq, decide_eq_true_iff]
  omega
theorem code_asc : ∀ n : Nat, n < 7 → ∀ s : Nat, s < n + 1 → (lotsL n s).Pairwise fun a b => codeL n a < codeL n b := by decide +kernel
/-- two ascending keys order alike -/
theorem keys_alike {α : Type} {L : List α} {k h : α → Nat} (a1 : L.Pairwise fun x y => k x < k y) (a2 : L.Pairwise fun x y => h x < h y) {x y : α} (hx : x ∈ L) (hy : y ∈ L) : (k x < k y ↔ h x < h y) := by
  obtain ⟨i, hi, rfl⟩ := List.getElem_of_mem hx
  obtain ⟨j, hj, rfl⟩ := List.getElem_of_mem hy
  rcases Nat.lt_trichotomy i j with c | c | c
  · exact ⟨fun _ => List.pairwise_iff_getElem.mp a2 i j hi hj c, fun _ => List.pairwise_iff_getElem.mp a1 i j hi hj c⟩
  · subst c
    exact ⟨fun z => absurd z (Nat.lt_irrefl _), fun z => absurd z (Nat.lt_irrefl _)⟩
  · have b1 := List.pairwise_iff_getElem.mp a1 j i hj hi c
    have b2 := List.pairwise_iff_getElem.mp a2 j i hj hi c
    omega
theorem sg_code {n : Nat} (hn : n ≤ 6) {s : Nat} (hs : s ≤ n) {ts : List (List Nat)} (h : ∀ l ∈ ts, l ∈ lotsL n s) : sgI (ts.map fun l => ((num n l : Nat) : Int)) = cinv (ts.map (codeL n)) := by
  rw [sgI_map, cinv_pair, pairN_map]
  refine pairN_congr ?_
  have all : ∀ x ∈ ts, ∀ y ∈ ts, decide (((num n y : Nat) : Int) < ((num n x : Nat) : Int)) = Nat.blt (codeL n y) (codeL n x) := fun x hx y hy => by
    rw [blt_eq, decide_eq_decide]
    have := keys_alike (lots_nd n (by omega) s (by omega)) (code_asc n (by omega) s (by omega)) (h y hy) (h x hx)
    omega
  exact List.pairwise_iff_forall_sublist.mpr fun {x y} hxy => all x (hxy.subset (by simp)) y (hxy.subset (by simp))
theorem deed_gl {n : Nat} {m : Mv} (d : Deed n m) {l : List Nat} (hl : Asc 0 n l) : goalE n (dE n m l) = gl n m.1 m.2.1 m.2.2 l := by
  have ea : (m.1.all fun x => memB x l) = isAll m.1 l := by
    unfold isAll
    congr 1
    funext x
    exact memB_eq x l
  unfold gl
  rw [ea]
  have W := d.way l
  cases hc : isAll m.1 l with
  | false =>
    refine asc_ext (goal_asc _ _) hl fun y => ?_
    show y ∈ goalE n (byE l _) ↔ _
    rw [W.goal]
    have e : dF m l y = y := by unfold dF; rw [hc]; rfl
    rw [e]
    exact ⟨fun z => z.2, fun z => ⟨by have := (hl.2 y z).2; omega, z⟩⟩
  | true =>
    show _ = (List.range n).filter _
    refine asc_ext (goal_asc _ _) ⟨List.Pairwise.filter _ List.pairwise_lt_range, fun x hx => ?_⟩ fun y => ?_
    · have := List.mem_range.mp (List.mem_filter.mp hx).1
      omega
    · show y ∈ goalE n (byE l _) ↔ _
      rw [W.goal, List.mem_filter, List.mem_range, memB_eq, swB_eq]
      have e : dF m l y = sw m.2.1 m.2.2 y := by unfold dF; rw [hc]; rfl
      rw [e]
      simp
theorem deed_rid {n : Nat} {m : Mv} (d : Deed n m) (l : List Nat) : sgI (ridE (dE n m l)) = (bif m.1.all (fun x => memB x l) then cinv (((List.range n).filter fun x => !memB x l).map (swB m.2.1 m.2.2)) else false) := by
  have ea : (m.1.all fun x => memB x l) = isAll m.1 l := by
    unfold isAll
    congr 1
    funext x
    exact memB_eq x l
  rw [ea, (d.ent l).rid_eq]
  have W := d.way l
  have at_ : ∀ x ∈ freeL n l, (dE n m l).getD x 0 = (dF m l x : Int) := fun x hx => by
    obtain ⟨x1, x2⟩ := mem_free.mp hx
    unfold dE
    rw [byE_at (by rw [W.len]; exact x1), if_neg x2, W.at_ x x1]
  rw [List.map_congr_left at_]
  cases hc : isAll m.1 l with
  | false =>
    have e : ((freeL n l).map fun x => (dF m l x : Int)) = (freeL n l).map fun (x : Nat) => (x : Int) := List.map_congr_left fun x _ => by unfold dF; rw [hc]; rfl
    rw [e]
    refine sg_asc ?_
    rw [List.pairwise_map]
    exact (free_asc n l).imp fun z => by omega
  | true =>
    show _ = cinv _
    have ef : ((List.range n).filter fun x => !memB x l) = freeL n l := List.filter_congr fun x _ => by rw [memB_eq]
    rw [ef, cinv_pair, pairN_map, sgI_map]
    have e : ∀ x, dF m l x = swB m.2.1 m.2.2 x := fun x => by unfold dF; rw [hc, swB_eq]; rfl
    refine congrArg (fun g => pairN g (freeL n l)) ?_
    funext x y
    rw [blt_eq, e, e]
/-- the row of a deed -/
theorem sgT_deed {n : Nat} (hn : n ≤ 6) {m : Mv} (d : Deed n m) : sgT n (deedT n m.1 m.2.1 m.2.2) = kindR n m.1.length := by
  have c := chk_all hn
  unfold chkAB at c
  rw [List.all_eq_true] at c
  have c1 := c m.1 (asc_all hn d.asc (all_ascL hn))
  rw [List.all_eq_true] at c1
  have c2 := c1 m.2.2 (List.mem_range.mpr d.bn)
  rw [List.all_eq_true] at c2
  have c3 := c2 m.2.1 (List.mem_range.mpr d.ab)
  rw [memB_eq, memB_eq, decide_eq_false d.na, decide_eq_false d.nb, Bool.false_or, Bool.false_or, List.all_eq_true] at c3
  unfold sgT kindR
  refine List.map_congr_left fun s hs => ?_
  have c4 := c3 s hs
  have hs := List.mem_range.mp hs
  have mem : ∀ l ∈ lotsL n s, l ∈ allL n := own_all n (by omega) s (by omega)
  rw [Bool.and_eq_true, beq_iff_eq, beq_iff_eq] at c4
  refine Prod.ext ?_ ?_
  · show sgI _ = chB _ _
    rw [← c4.1]
    have e1 : ((lotsL n s).map fun l => ((num n (goalE n (en n (deedT n m.1 m.2.1 m.2.2) l)) : Nat) : Int)) = ((lotsL n s).map fun l => goalE n (dE n m l)).map fun l => ((num n l : Nat) : Int) := by
      rw [List.map_map]
      refine List.map_congr_left fun l hl => ?_
      rw [deed_map, en_map hn (mem l hl)]
      rfl
    rw [e1, sg_code (s := s) hn (by omega) fun g hg => ?_]
    · unfold leadS
      rw [List.map_map]
      congr 1
      refine List.map_congr_left fun l hl => ?_
      show codeL n (goalE n (dE n m l)) = _
      rw [deed_gl d (all_ascL hn l (mem l hl))]
    · obtain ⟨l, hl, rfl⟩ := List.mem_map.mp hg
      refine lots_size n (by omega) s (by omega) _ (goal_all hn _) ?_
      rw [goal_len (all_ascL hn l (mem l hl)) (d.ent l)]
      exact (lots_in n s l hl).1
  · show sgR _ = chB _ _
    rw [← c4.2, sgR_xor, List.map_map]
    unfold rdS
    congr 1
    refine List.map_congr_left fun l hl => ?_
    show sgI (ridE (en n (deedT n m.1 m.2.1 m.2.2) l)) = _
    rw [deed_map, en_map hn (mem l hl)]
    exact deed_rid d l
theorem sgT_len (n : Nat) (T : List (List Int)) : (sgT n T).length = n + 1 := by unfold sgT; rw [List.length_map, List.length_range]
theorem addR_twice : ∀ a : Row, addR a a = List.replicate a.length (false, false)
  | [] => rfl
  | p :: a => by
    have ih := addR_twice a
    unfold addR at ih ⊢
    rw [List.zipWith_cons_cons, ih, List.length_cons, List.replicate_succ]
    simp
theorem addR_comm (a b : Row) : addR a b = addR b a := by
  unfold addR
  rw [List.zipWith_comm]
  congr 1
  funext p q
  rw [Bool.xor_comm, Bool.xor_comm p.2]
theorem addR_assoc : ∀ a b c : Row, addR (addR a b) c = addR a (addR b c)
  | [], _, _ => by simp [addR]
  | _ :: _, [], _ => by simp [addR]
  | _ :: _, _ :: _, [] => by simp [addR]
  | p :: a, q :: b, r :: c => by
    have ih := addR_assoc a b c
    unfold addR at ih ⊢
    simp only [List.zipWith_cons_cons]
    rw [ih, Bool.xor_assoc, Bool.xor_assoc]
theorem sgT_still {n : Nat} (hn : n ≤ 6) : sgT n (stillT n) = zeroR n := by
  have h := sgT_both hn (still_ok hn) (still_ok hn)
  rw [both_still hn (still_ok hn), addR_twice, sgT_len] at h
  exact h
end Kr
namespace Kr
open PySem PySem.Spec PyProof.Rows L2
def atR (r : Row) (i : Nat) : Bool × Bool := r.getD i (false, false)
theorem atR_some {r : Row} {i : Nat} {p : Bool × Bool} (h : r[i]? = some p) : atR r i = p := by
  unfold atR
  rw [List.getD_eq_getElem?_getD, h]
  rfl
def addP (p q : Bool × Bool) : Bool × Bool := (p.1 ^^ q.1, p.2 ^^ q.2)
theorem range_addR {a b : Row} {n : Nat} (ha : a.length = n) (hb : b.length = n) : (List.range n).map (fun i => pairD (addP (atR a i) (atR b i))) = (addR a b).map pairD := by
  apply List.ext_getElem?
  intro i
  rw [List.getElem?_map, List.getElem?_map, addR, List.getElem?_zipWith]
  by_cases hi : i < n
  · have h1 : i < a.length := by omega
    have h2 : i < b.length := by omega
    rw [List.getElem?_range hi, List.getElem?_eq_getElem h1, List.getElem?_eq_getElem h2]
    simp only [Option.map_some]
    rw [atR_some (List.getElem?_eq_getElem h1), atR_some (List.getElem?_eq_getElem h2)]
    rfl
  · have h3 : (List.range n)[i]? = none := List.getElem?_eq_none_iff.mpr (by rw [List.length_range]; omega)
    have h1 : a[i]? = none := List.getElem?_eq_none_iff.mpr (by omega)
    rw [h3, h1]
    rfl
def spSums : Sp := fun vs H Q _ => ∃ (n : Nat) (a : Addr) (us : List V) (rs : List Row), vs = [.int (n : Int), .ref a] ∧ n ≤ 30 ∧ H a = some (.lst us) ∧ DqA H us (rs.map rowD) ∧ (∀ r ∈ rs, r.length = n + 1) ∧ ∀ H' v, Same H H' → Dq H' v (rowD (rs.foldl addR (zeroR n))) → Q v H'
theorem rep_one2 {x : V} (k : Nat) : (List.replicate k [x]).flatten = List.replicate k x := by
  induction k with
  | zero => rfl
  | succ k ih => rw [List.replicate_succ, List.flatten_cons, ih]; rfl
theorem rows_flat (rs : List Row) : flatTA (rs.map rowD) = true := flatTA_of fun d hd => by
  obtain ⟨r, _, rfl⟩ := List.mem_map.mp hd
  exact row_flat r
theorem fold_len {n : Nat} : ∀ (rs : List Row) (a : Row), a.length = n → (∀ r ∈ rs, r.length = n) → (rs.foldl addR a).length = n
  | [], a, h, _ => h
  | r :: rs, a, h, g => fold_len rs (addR a r) (by rw [addR_len (by rw [h, g r List.mem_cons_self]), g r List.mem_cons_self]) fun x hx => g x (List.mem_cons_of_mem _ hx)
theorem zero_dq {H : Hp} {t : Addr} (h : H t = some (.tup [.int 0, .int 0])) : ∀ k : Nat, DqA H (List.replicate k (V.ref t)) ((List.replicate k (false, false)).map pairD)
  | 0 => .nil
  | k + 1 => by
    rw [List.replicate_succ, List.replicate_succ, List.map_cons]
    exact .cons (pair_at (p := (false, false)) h) (zero_dq h k)
/-- kinds_in, step by step -/
def kinGo (n : Nat) : List Nat → List Int → Row → List Int × Row
  | [], acc, l => (acc, l)
  | k :: ks, acc, l => if (atR l k).2 = true then kinGo n ks (acc ++ [(k : Int)]) (addR l (kindR n k)) else kinGo n ks acc l
def kinD (n : Nat) (r : Row) : PyData := if (kinGo n (List.range (n - 1)) [] r).2 = zeroR n then .tuple ((kinGo n (List.range (n - 1)) [] r).1.map .int) else .none
def witGo (n : Nat) : List Nat → List Int → Row → Option (List Int × Row)
  | [], acc, l => some (acc, l)
  | k :: ks, acc, l => if atR l k = (false, true) then witGo n ks (acc ++ [(k : Int)]) (addR l (kindR n k)) else if atR l k = (false, false) then witGo n ks acc l else none
def witD (n : Nat) (r : Row) : PyData := match witGo n (List.range (n - 1)) [] r with
  | some (acc, l) => if l = zeroR n then .tuple (acc.map .int) else .none
  | none => .none
/-- new data of a number and a row -/
def spRowF (F : Nat → Row → PyData) : Sp := fun vs H Q _ => ∃ (n : Nat) (v : V) (r : Row), vs = [.int (n : Int), v] ∧ 2 ≤ n ∧ n ≤ 30 ∧ r.length = n + 1 ∧ Dq H v (rowD r) ∧ ∀ H' u, Same H H' → Dq H' u (F n r) → Q u H'
theorem atR_get {r : Row} {i : Nat} (h : i < r.length) : r[i]? = some (atR r i) := by
  rw [List.getElem?_eq_getElem h, atR_some (List.getElem?_eq_getElem h)]
theorem biV_one (b : Bool) : decide (V.int (bi b) = V.int 1) = b := by cases b <;> decide
theorem drop_range {n k : Nat} (h : k < n) : (List.range n).drop k = k :: (List.range n).drop (k + 1) := by
  rw [List.drop_eq_getElem_cons (by rw [List.length_range]; exact h), List.getElem_range]
def spLSum : Sp := fun vs H Q _ => ∃ (v u : V) (a b : Row) (n : Nat), vs = [v, u] ∧ a.length = n ∧ b.length = n ∧ n ≤ 1000 ∧ Dq H v (rowD a) ∧ Dq H u (rowD b) ∧ ∀ H' x, Same H H' → Dq H' x (rowD (addR a b)) → Q x H'
/-- whether the figures of b, by twos, stand below those of a -/
def luc : Nat → Nat → Nat → Bool
  | 0, _, _ => true
  | f + 1, a, b => if 0 < b then (if a % 2 < b % 2 then false else luc f (a / 2) (b / 2)) else true
theorem luc_ch : ∀ a : Nat, a < 30 → ∀ b : Nat, b < a + 1 → luc 6 a b = chB (a : Int) (b : Int) := by decide +kernel
theorem luc_zero (f a : Nat) : luc f a 0 = true := by cases f <;> simp [luc]
theorem chB_above {a b : Int} (h : a < b) (h0 : 0 ≤ a) : chB a b = false := by
  unfold chB
  rw [if_pos (by omega), PySem.W.mcComb_above h]
  rfl
theorem chB_neg {a b : Int} (h : b < 0) : chB a b = false := by
  unfold chB
  rw [if_neg (by omega)]
def spLc : Sp := fun vs H Q _ => ∃ a b : Int, vs = [.int a, .int b] ∧ 0 ≤ a ∧ a < 30 ∧ Q (.int (bi (chB a b))) H
theorem zero_iff {r : Row} {n : Nat} (h : r.length = n + 1) : r = zeroR n ↔ ∀ p ∈ r, p = (false, false) := by
  unfold zeroR
  rw [List.eq_replicate_iff]
  exact ⟨fun z => z.2, fun z => ⟨h, z⟩⟩
theorem atR_out {r : Row} {i : Nat} (h : r.length ≤ i) : atR r i = (false, false) := by
  unfold atR
  rw [List.getD_eq_getElem?_getD, List.getElem?_eq_none_iff.mpr h]
  rfl
theorem atR_add {a b : Row} {n : Nat} (ha : a.length = n) (hb : b.length = n) (i : Nat) : atR (addR a b) i = addP (atR a i) (atR b i) := by
  by_cases hi : i < n
  · refine atR_some ?_
    unfold addR
    rw [List.getElem?_zipWith, atR_get (r := a) (by omega), atR_get (r := b) (by omega)]
    rfl
  · rw [atR_out (by rw [addR_len (by omega)]; omega), atR_out (by omega), atR_out (by omega)]
    rfl
theorem row_ext {a b : Row} {n : Nat} (ha : a.length = n) (hb : b.length = n) (h : ∀ i, i < n → atR a i = atR b i) : a = b := by
  apply List.ext_getElem?
  intro i
  by_cases hi : i < n
  · rw [atR_get (by omega), atR_get (by omega), h i hi]
  · rw [List.getElem?_eq_none_iff.mpr (by omega), List.getElem?_eq_none_iff.mpr (by omega)]
theorem addP_ac (p q r : Bool × Bool) : addP (addP p q) r = addP (addP p r) q := by
  obtain ⟨a, b⟩ := p
  obtain ⟨c, d⟩ := q
  obtain ⟨e, f⟩ := r
  cases a <;> cases b <;> cases c <;> cases d <;> cases e <;> cases f <;> rfl
theorem addP_self (p q : Bool × Bool) : addP (addP p q) q = p := by
  obtain ⟨a, b⟩ := p
  obtain ⟨c, d⟩ := q
  cases a <;> cases b <;> cases c <;> cases d <;> rfl
theorem addP_0 (p : Bool × Bool) : addP p (false, false) = p := by
  obtain ⟨a, b⟩ := p
  cases a <;> cases b <;> rfl
theorem addP_0l (p : Bool × Bool) : addP (false, false) p = p := by
  obtain ⟨a, b⟩ := p
  cases a <;> cases b <;> rfl
theorem len2 {a b : Row} {n : Nat} (ha : a.length = n) (hb : b.length = n) : (addR a b).length = n := by rw [addR_len (by omega), hb]
theorem addR_ac {a b c : Row} {n : Nat} (ha : a.length = n) (hb : b.length = n) (hc : c.length = n) : addR (addR a b) c = addR (addR a c) b :=
  row_ext (len2 (len2 ha hb) hc) (len2 (len2 ha hc) hb) fun i _ => by
    rw [atR_add (len2 ha hb) hc, atR_add ha hb, atR_add (len2 ha hc) hb, atR_add ha hc, addP_ac]
theorem addR_self {a b : Row} {n : Nat} (ha : a.length = n) (hb : b.length = n) : addR (addR a b) b = a :=
  row_ext (len2 (len2 ha hb) hb) ha fun i _ => by rw [atR_add (len2 ha hb) hb, atR_add ha hb, addP_self]
theorem addR_z {a : Row} {n : Nat} (ha : a.length = n + 1) : addR (zeroR n) a = a := addR_zero (n + 1) a ha
theorem atR_zero (n i : Nat) : atR (zeroR n) i = (false, false) := by
  by_cases hi : i < n + 1
  · refine atR_some ?_
    unfold zeroR
    rw [List.getElem?_replicate, if_pos hi]
  · exact atR_out (by rw [zeroR_len]; omega)
theorem atR_kind {n k i : Nat} (hi : i < n + 1) : atR (kindR n k) i = (chB ((n : Int) - 2 - k) ((i : Int) - 1 - k), chB ((n : Int) - 2 - k) ((i : Int) - k)) := by
  refine atR_some ?_
  unfold kindR
  rw [List.getElem?_map, List.getElem?_range hi]
  rfl
theorem kind_low {n k i : Nat} (hk : i < k) : atR (kindR n k) i = (false, false) := by
  by_cases hi : i < n + 1
  · rw [atR_kind hi, chB_neg (by omega), chB_neg (by omega)]
  · exact atR_out (by rw [kindR_len]; omega)
theorem kind_own {n k : Nat} (hk : k + 2 ≤ n) : atR (kindR n k) k = (false, true) := by
  rw [atR_kind (by omega), chB_neg (by omega)]
  have h0 : (k : Int) - k = 0 := by omega
  rw [h0]
  unfold chB
  rw [if_pos (Int.le_refl _)]
  have := (PySem.W.mc_comb_known (a := (n : Int) - 2 - k) (b := 0) (by omega) (Int.le_refl _)).2.2.2.1 rfl
  rw [this]
  rfl
theorem kinGo_app (n : Nat) : ∀ (a b : List Nat) (acc : List Int) (l : Row), kinGo n (a ++ b) acc l = kinGo n b (kinGo n a acc l).1 (kinGo n a acc l).2
  | [], _, _, _ => rfl
  | k :: a, b, acc, l => by
    simp only [List.cons_append, kinGo]
    by_cases h : (atR l k).2 = true
    · rw [if_pos h, if_pos h, kinGo_app n a b]
    · rw [if_neg h, if_neg h, kinGo_app n a b]
theorem kinGo_len (n : Nat) : ∀ (ks : List Nat) (acc : List Int) (l : Row), l.length = n + 1 → (kinGo n ks acc l).2.length = n + 1
  | [], _, _, h => h
  | k :: ks, acc, l, h => by
    simp only [kinGo]
    by_cases c : (atR l k).2 = true
    · rw [if_pos c]
      exact kinGo_len n ks _ _ (len2 h (kindR_len n k))
    · rw [if_neg c]
      exact kinGo_len n ks _ _ h
/-- a row that is nought at these places goes along -/
theorem kinGo_add (n : Nat) {z : Row} (hz : z.length = n + 1) : ∀ (ks : List Nat) (acc : List Int) (l : Row), l.length = n + 1 → (∀ k ∈ ks, (atR z k).2 = false) → kinGo n ks acc (addR l z) = ((kinGo n ks acc l).1, addR (kinGo n ks acc l).2 z)
  | [], _, _, _, _ => rfl
  | k :: ks, acc, l, hl, h => by
    have h1 : (atR (addR l z) k).2 = (atR l k).2 := by
      rw [atR_add hl hz]
      simp [addP, h k List.mem_cons_self]
    have h2 : ∀ j ∈ ks, (atR z j).2 = false := fun j hj => h j (List.mem_cons_of_mem _ hj)
    simp only [kinGo, h1]
    by_cases c : (atR l k).2 = true
    · rw [if_pos c, if_pos c, addR_ac hl hz (kindR_len n k)]
      exact kinGo_add n hz ks _ _ (len2 hl (kindR_len n k)) h2
    · rw [if_neg c, if_neg c]
      exact kinGo_add n hz ks _ _ hl h2
/-- the places ahead stay -/
theorem kinGo_col (n i : Nat) : ∀ (ks : List Nat) (acc : List Int) (l : Row), l.length = n + 1 → (∀ k ∈ ks, i < k) → atR (kinGo n ks acc l).2 i = atR l i
  | [], _, _, _, _ => rfl
  | k :: ks, acc, l, hl, h => by
    have h2 : ∀ j ∈ ks, i < j := fun j hj => h j (List.mem_cons_of_mem _ hj)
    simp only [kinGo]
    by_cases c : (atR l k).2 = true
    · rw [if_pos c, kinGo_col n i ks _ _ (len2 hl (kindR_len n k)) h2, atR_add hl (kindR_len n k), kind_low (h k List.mem_cons_self), addP_0]
    · rw [if_neg c, kinGo_col n i ks _ _ hl h2]
theorem wit_kin (n : Nat) : ∀ (ks : List Nat) (acc : List Int) (l : Row), l.length = n + 1 → ks.Pairwise (· < ·) → (∀ k ∈ ks, k + 2 ≤ n) →
    witGo n ks acc l = some (kinGo n ks acc l) ∨ (witGo n ks acc l = none ∧ (kinGo n ks acc l).2 ≠ zeroR n)
  | [], _, _, _, _, _ => .inl rfl
  | k :: ks, acc, l, hl, hp, h => by
    obtain ⟨hp1, hp2⟩ := List.pairwise_cons.mp hp
    have h2 : ∀ j ∈ ks, j + 2 ≤ n := fun j hj => h j (List.mem_cons_of_mem _ hj)
    have hk := h k List.mem_cons_self
    have bad : ∀ (acc : List Int) (l' : Row), l'.length = n + 1 → (atR l' k).1 = true → (kinGo n ks acc l').2 ≠ zeroR n := fun acc l' hl' c z => by
      have := kinGo_col n k ks acc l' hl' hp1
      rw [z, atR_zero] at this
      rw [← this] at c
      cases c
    simp only [witGo, kinGo]
    generalize hp0 : atR l k = p
    obtain ⟨a, b⟩ := p
    cases a with
    | false =>
      cases b with
      | false =>
        rw [if_neg (by decide), if_pos rfl, if_neg (by decide)]
        exact wit_kin n ks acc l hl hp2 h2
      | true =>
        rw [if_pos rfl, if_pos rfl]
        exact wit_kin n ks _ _ (len2 hl (kindR_len n k)) hp2 h2
    | true =>
      rw [if_neg (by cases b <;> decide), if_neg (by cases b <;> decide)]
      refine .inr ⟨rfl, ?_⟩
      cases b with
      | false =>
        rw [if_neg (by decide)]
        exact bad acc l hl (by rw [hp0])
      | true =>
        rw [if_pos rfl]
        refine bad _ _ (len2 hl (kindR_len n k)) ?_
        rw [atR_add hl (kindR_len n k), hp0, kind_own hk]
        rfl
theorem range_pw (m : Nat) : (List.range m).Pairwise (· < ·) := List.pairwise_lt_range
theorem wit_eq {n : Nat} {r : Row} (hl : r.length = n + 1) (hn : 2 ≤ n) : witD n r = kinD n r := by
  unfold witD kinD
  rcases wit_kin n (List.range (n - 1)) [] r hl (range_pw _) (fun k hk => by have := List.mem_range.mp hk; omega) with e | ⟨e, hz⟩
  · rw [e]
  · rw [e, if_neg hz]
def bySt (n : Nat) : Nat → List (Row × List Int)
  | 0 => [(zeroR n, [])]
  | k + 1 => bySt n k ++ (bySt n k).map fun e => (addR e.1 (kindR n k), e.2 ++ [(k : Int)])
theorem by_len (n : Nat) : ∀ k, ∀ e ∈ bySt n k, e.1.length = n + 1
  | 0, e, h => by
    rw [List.mem_singleton.mp h]
    exact zeroR_len n
  | k + 1, e, h => by
    rcases List.mem_append.mp h with h | h
    · exact by_len n k e h
    · obtain ⟨f, hf, rfl⟩ := List.mem_map.mp h
      exact len2 (by_len n k f hf) (kindR_len n k)
theorem by_size (n : Nat) : ∀ k, (bySt n k).length = 2 ^ k
  | 0 => rfl
  | k + 1 => by
    show (bySt n k ++ _).length = _
    rw [List.length_append, List.length_map, by_size n k, Nat.pow_succ]
    omega
theorem low_of (n : Nat) {k : Nat} : ∀ j ∈ List.range k, (atR (kindR n k) j).2 = false := fun j hj => by
  rw [kind_low (List.mem_range.mp hj)]
theorem by_dec (n : Nat) : ∀ k, k + 1 ≤ n → ∀ e ∈ bySt n k, kinGo n (List.range k) [] e.1 = (e.2, zeroR n)
  | 0, _, e, h => by
    rw [List.mem_singleton.mp h]
    rfl
  | k + 1, hk, e, h => by
    rw [List.range_succ, kinGo_app]
    rcases List.mem_append.mp h with h | h
    · rw [by_dec n k (by omega) e h]
      simp only [kinGo, atR_zero]
      rfl
    · obtain ⟨f, hf, rfl⟩ := List.mem_map.mp h
      rw [kinGo_add n (kindR_len n k) _ _ _ (by_len n k f hf) (low_of n), by_dec n k (by omega) f hf]
      simp only [kinGo]
      rw [addR_z (kindR_len n k), kind_own (by omega), if_pos rfl]
      have e0 : addR (kindR n k) (kindR n k) = zeroR n := by
        have := addR_self (zeroR_len n) (kindR_len n k)
        rw [addR_z (kindR_len n k)] at this
        exact this
      rw [e0]
theorem by_all (n : Nat) : ∀ k, k + 1 ≤ n → ∀ (r : Row) (S : List Int), r.length = n + 1 → kinGo n (List.range k) [] r = (S, zeroR n) → (r, S) ∈ bySt n k
  | 0, _, r, S, hl, h => by
    have h2 : ([], r) = (S, zeroR n) := h
    cases h2
    exact List.mem_singleton.mpr rfl
  | k + 1, hk, r, S, hl, h => by
    rw [List.range_succ, kinGo_app] at h
    generalize hg : kinGo n (List.range k) [] r = g at h
    obtain ⟨S1, l1⟩ := g
    have hl1 : l1.length = n + 1 := by
      have := kinGo_len n (List.range k) [] r hl
      rw [hg] at this
      exact this
    simp only [kinGo] at h
    by_cases c : (atR l1 k).2 = true
    · rw [if_pos c] at h
      cases h2 : addR l1 (kindR n k) with
      | nil => have := len2 hl1 (kindR_len n k); rw [h2] at this; cases this
      | cons x y =>
        have e1 : S1 ++ [(k : Int)] = S := congrArg Prod.fst h
        have e2 : addR l1 (kindR n k) = zeroR n := congrArg Prod.snd h
        have e3 : l1 = kindR n k := by
          have := addR_self hl1 (kindR_len n k)
          rw [e2, addR_z (kindR_len n k)] at this
          exact this.symm
        refine List.mem_append_right _ (List.mem_map.mpr ⟨(addR r (kindR n k), S1), by_all n k (by omega) _ _ (len2 hl (kindR_len n k)) ?_, ?_⟩)
        · rw [kinGo_add n (kindR_len n k) _ _ _ hl (low_of n), hg]
          simp only
          rw [e2]
        · simp only
          rw [addR_self hl (kindR_len n k), e1]
    · rw [if_neg c] at h
      cases h
      exact List.mem_append_left _ (by_all n k (by omega) r _ hl hg)
theorem by_nodup (n : Nat) : ∀ k, k + 1 ≤ n → ((bySt n k).map (·.1)).Nodup
  | 0, _ => by simp [bySt]
  | k + 1, hk => by
    show ((bySt n k ++ _).map (·.1)).Nodup
    rw [List.map_append, List.map_map]
    have ih := by_nodup n k (by omega)
    refine List.nodup_append.mpr ⟨ih, ?_, ?_⟩
    · have e : ((fun x : Row × List Int => x.1) ∘ fun e : Row × List Int => (addR e.1 (kindR n k), e.2 ++ [(k : Int)])) = fun e => addR e.1 (kindR n k) := rfl
      rw [e]
      have h2 := List.pairwise_map.mp ih
      refine List.pairwise_map.mpr (List.Pairwise.imp_of_mem (R := fun a b => a.1 ≠ b.1) (fun {a b} ha hb hab z => hab ?_) h2)
      have := addR_self (by_len n k a ha) (kindR_len n k)
      rw [show addR a.1 (kindR n k) = addR b.1 (kindR n k) from z, addR_self (by_len n k b hb) (kindR_len n k)] at this
      exact this.symm
    · intro a ha b hb z
      obtain ⟨e, he, rfl⟩ := List.mem_map.mp ha
      obtain ⟨f, hf, rfl⟩ := List.mem_map.mp hb
      have h1 := by_dec n k (by omega) e he
      have h2 := kinGo_add n (kindR_len n k) (List.range k) [] f.1 (by_len n k f hf) (low_of n)
      rw [by_dec n k (by omega) f hf] at h2
      have z' : e.1 = addR f.1 (kindR n k) := z
      rw [z', h2] at h1
      have h3 : addR (zeroR n) (kindR n k) = zeroR n := congrArg Prod.snd h1
      rw [addR_z (kindR_len n k)] at h3
      have h4 := kind_own (n := n) (k := k) (by omega)
      rw [h3, atR_zero] at h4
      cases h4
def byD (n : Nat) (r : Row) : PyData := match (bySt n (n - 1)).find? fun e => decide (e.1 = r) with
  | some e => .tuple (e.2.map .int)
  | none => .none
theorem by_eq {n : Nat} {r : Row} (hl : r.length = n + 1) (hn : 2 ≤ n) : byD n r = kinD n r := by
  unfold byD kinD
  cases hf : (bySt n (n - 1)).find? fun e => decide (e.1 = r) with
  | some e =>
    have h1 := List.mem_of_find?_eq_some hf
    have h2 : e.1 = r := of_decide_eq_true (by have := List.find?_some hf; exact this)
    have h3 := by_dec n (n - 1) (by omega) e h1
    rw [h2] at h3
    rw [h3, if_pos rfl]
  | none =>
    rw [if_neg]
    intro z
    have h1 := by_all n (n - 1) (by omega) r _ hl (show kinGo n (List.range (n - 1)) [] r = ((kinGo n (List.range (n - 1)) [] r).1, zeroR n) by rw [← z])
    have h2 := List.find?_eq_none.mp hf _ h1
    exact h2 (decide_eq_true rfl)
/-- what a part of the kinds makes is found again -/
def sumK (n : Nat) (ks : List Nat) : Row := ks.foldl (fun r k => addR r (kindR n k)) (zeroR n)
theorem by_sub (n : Nat) : ∀ (m : Nat) (ks : List Nat), ks.Sublist (List.range m) → (sumK n ks, ks.map fun (k : Nat) => (k : Int)) ∈ bySt n m
  | 0, ks, h => by
    have : ks = [] := by simpa using h
    subst this
    exact List.mem_singleton.mpr rfl
  | m + 1, ks, h => by
    rw [List.range_succ] at h
    obtain ⟨a, b, rfl, ha, hb⟩ := List.sublist_append_iff.mp h
    have ih := by_sub n m a ha
    cases hb with
    | cons _ hb =>
      have : b = [] := by simpa using hb
      subst this
      rw [List.append_nil]
      exact List.mem_append_left _ ih
    | cons_cons _ hb =>
      rename_i b
      have : b = [] := by simpa using hb
      subst this
      refine List.mem_append_right _ (List.mem_map.mpr ⟨_, ih, ?_⟩)
      simp only [sumK, List.foldl_append, List.foldl_cons, List.foldl_nil, List.map_append, List.map_cons, List.map_nil]
theorem kin_sum {n : Nat} {ks : List Nat} (hn : 2 ≤ n) (h : ks.Sublist (List.range (n - 1))) : kinD n (sumK n ks) = .tuple (ks.map fun (k : Nat) => .int (k : Int)) := by
  have h1 := by_dec n (n - 1) (by omega) _ (by_sub n _ ks h)
  unfold kinD
  rw [h1, if_pos rfl, List.map_map]
  rfl
theorem sumK_len (n : Nat) (ks : List Nat) : (sumK n ks).length = n + 1 := by
  unfold sumK
  have : ∀ (ks : List Nat) (r : Row), r.length = n + 1 → (ks.foldl (fun r k => addR r (kindR n k)) r).length = n + 1 := by
    intro ks
    induction ks with
    | nil => exact fun r h => h
    | cons k ks ih => exact fun r h => ih _ (len2 h (kindR_len n k))
  exact this ks _ (zeroR_len n)
end Kr
namespace Kr
open PySem PySem.Spec PyProof.Rows L2
/-! ### zip of a list and a tuple -/
section
variable {prog : Program} {w : World} {A : Around} {E : Value → Shared → Prop} {s : Shared}
abbrev Rest (h h' : Heap) (z TO i1 i2 : Addr) : Prop := ∀ c o, c ≠ z → c ≠ TO → c ≠ i1 → c ≠ i2 → h.get? c = some o → h'.get? c = some o
theorem zlt_item {z TI TO i1 i2 l1 l2 : Addr} {k : Nat} {xs ys : Array Value} {x y a b : Value} {W : Value → Shared → Prop} (D : ZipApart z TI TO i1 i2 l1 l2) (gz : IsZip s.heap z TI TO .none) (gI : IsPair s.heap TI (.ref i1) (.ref i2)) (gO : IsPair s.heap TO a b)
    (f1 : s.heap.IsListIter i1 l1 k) (f2 : s.heap.IsTupleIter i2 l2 k) (c1 : s.heap.IsList l1 xs) (c2 : s.heap.IsTuple l2 ys) (ex : xs[k]? = some x) (ey : ys[k]? = some y)
    (fin : ∀ h', IsZip h' z TI TO (rawInt s.heap.objs.size) → IsPair h' TO x y → h'.IsListIter i1 l1 (k + 1) → h'.IsTupleIter i2 l2 (k + 1) → IsPair h' s.heap.objs.size x y → h'.objs.size = s.heap.objs.size + 1 → Rest s.heap h' z TO i1 i2 → W (.ref s.heap.objs.size) { s with heap := h' }) :
    wpAny (model prog w) A (Builtin.«zip.__next__» ⟨[.ref z], []⟩) (fun f s' => ∃ v, f = .done (.ret v) ∧ W v s') E s := by
  show wpAny _ _ (field (.ref z) 2 >>= _) _ _ _; refine wpAny_bind (wpAny_field gz rfl (x := .bool false) rfl ?_)
  show wpAny _ _ (field (.ref z) 3 >>= _) _ _ _; refine wpAny_bind (wpAny_field gz rfl (x := .ref TI) rfl (wpAny_bind (wpAny_seqItems gI rfl ?_)))
  show wpAny _ _ (Builtin.SmallTypes.ownedTupleIsFree (.ref z) >>= _) _ _ _; refine wpAny_bind ?_; unfold Builtin.SmallTypes.ownedTupleIsFree
  refine wpAny_bind (wpAny_field gz rfl (x := .none) rfl (wpAny_pure ?_)); simp only [if_true]
  refine wpAny_bind (wpAny_rule (wpAny_bind (wpAny_field gz rfl (x := .ref TO) rfl (wpAny_bind (wpAny_setField_rec gz (by simp) fun ha ga ea => ?_)))))
  replace ga : IsZip ha z TI TO .ellipsis := ga
  refine wpAny_bind ?_; simp only [List.zipIdx_cons, List.zipIdx_nil, List.forIn_cons, List.forIn_nil]
  refine wpAny_bind (wpAny_bind (wpAny_onRaise ?_)); show wpAny _ _ (Builtin.SmallTypes.nextOf (.ref i1) >>= _) _ _ _
  refine wpAny_bind (wpAny_nextOf_list_item (f1.extBut ea.extBut D.i1z) (c1.extBut ea.extBut D.l1z) ex fun hb fb eb => wpAny_pure ?_)
  have gb : IsPair hb TO a b := eb.extBut _ _ D.TOi1 (ea.extBut _ _ D.TOz gO)
  refine wpAny_bind (wpAny_seqItems gb rfl (wpAny_bind (wpAny_updateSeq_pair gb fun hc gc ec => wpAny_bind (wpAny_letGo (wpAny_pure ?_)))))
  replace gc : IsPair hc TO x b := gc
  refine wpAny_bind (wpAny_bind (wpAny_onRaise ?_)); show wpAny _ _ (Builtin.SmallTypes.nextOf (.ref i2) >>= _) _ _ _
  refine wpAny_bind (RZ.nextOf_tuple_item (((f2.extBut ea.extBut D.i2z).extBut eb.extBut D.i12.symm).extBut ec.extBut D.TOi2.symm) (((c2.extBut ea.extBut D.l2z).extBut eb.extBut D.l2i1).extBut ec.extBut D.l2TO) ey fun hd fd ed => wpAny_pure ?_)
  have gd : IsPair hd TO x b := ed.extBut _ _ D.TOi2 gc
  refine wpAny_bind (wpAny_seqItems gd rfl (wpAny_bind (wpAny_updateSeq_pair gd fun he ge ee => wpAny_bind (wpAny_letGo (wpAny_pure (wpAny_pure ?_))))))
  replace ge : IsPair he TO x y := ge
  refine wpAny_bind (wpAny_seqItems ge rfl (wpAny_bind (wpAny_newTuple ?_)))
  have size0 : he.objs.size = s.heap.objs.size := by rw [ee.1, ed.1, ec.1, eb.1, ea.1]
  have gz5 : IsZip he z TI TO .ellipsis := ee.extBut _ _ D.TOz.symm (ed.extBut _ _ D.i2z.symm (ec.extBut _ _ D.TOz.symm (eb.extBut _ _ D.i1z.symm ga)))
  have rest5 : Rest s.heap he z TO i1 i2 := fun c o n1 n2 n3 n4 q => ee.extBut _ _ n2 (ed.extBut _ _ n4 (ec.extBut _ _ n2 (eb.extBut _ _ n3 (ea.extBut _ _ n1 q))))
  have fa5 : he.IsListIter i1 l1 (k + 1) := ((fb.extBut ec.extBut D.TOi1.symm).extBut ed.extBut D.i12).extBut ee.extBut D.TOi1.symm
  have fb5 : he.IsTupleIter i2 l2 (k + 1) := fd.extBut ee.extBut D.TOi2.symm
  have ltz : z < he.objs.size := Heap.lt_size gz5
  show wpAny _ _ (Builtin.SmallTypes.ownedTupleHandOut (.ref z) (.ref he.objs.size) >>= _) _ _ _; refine wpAny_bind ?_; unfold Builtin.SmallTypes.ownedTupleHandOut
  have gz6 : IsZip (he.push { cls := .type "tuple", data := .seq #[x, y] }) z TI TO .ellipsis := Heap.get?_push_of_some _ gz5
  refine wpAny_bind (wpAny_setField_rec gz6 (by simp) fun hf gf ef => ?_)
  replace gf : IsZip hf z TI TO (rawInt he.objs.size) := gf
  refine wpAny_setField_rec gf (by simp) fun hg gg eg => ?_
  replace gg : IsZip hg z TI TO (rawInt he.objs.size) := gg
  have lift : ∀ c o, c ≠ z → he.get? c = some o → hg.get? c = some o := fun c o n q => eg.extBut _ _ n (ef.extBut _ _ n (Heap.get?_push_of_some _ q))
  have gT : IsPair hg he.objs.size x y := eg.extBut _ _ (Nat.ne_of_gt ltz) (ef.extBut _ _ (Nat.ne_of_gt ltz) (Heap.get?_push_size _ rfl))
  have sz8 : hg.objs.size = he.objs.size + 1 := by rw [eg.1, ef.1, Heap.size_push]
  rw [size0] at gg gT sz8
  refine wpAny_pure ⟨_, rfl, ?_⟩; show W (.ref he.objs.size) _; rw [size0]
  exact fin hg gg (lift _ _ D.TOz ge) (fa5.at fun o q => lift _ o D.i1z q) (fb5.at fun o q => lift _ o D.i2z q) gT sz8 fun c o n1 n2 n3 n4 q => lift c o n1 (rest5 c o n1 n2 n3 n4 q)
theorem zlt_end {z TI TO i1 i2 l1 l2 : Addr} {k : Nat} {xs ys : Array Value} {a b : Value} {W : Fin → Shared → Prop} (hh : A.handled = none) (D : ZipApart z TI TO i1 i2 l1 l2) (gz : IsZip s.heap z TI TO .none) (gI : IsPair s.heap TI (.ref i1) (.ref i2)) (gO : IsPair s.heap TO a b)
    (f1 : s.heap.IsListIter i1 l1 k) (f2 : s.heap.IsTupleIter i2 l2 k) (c1 : s.heap.IsList l1 xs) (c2 : s.heap.IsTuple l2 ys) (stop : xs[k]? = none ∨ ys[k]? = none)
    (out : ∀ h' e, Rest s.heap h' z TO i1 i2 → (∃ o, h'.get? e = some o ∧ o.cls = .type "StopIteration") → E (.ref e) { s with heap := h' }) : wpAny (model prog w) A (Builtin.«zip.__next__» ⟨[.ref z], []⟩) W E s := by
  show wpAny _ _ (field (.ref z) 2 >>= _) _ _ _; refine wpAny_bind (wpAny_field gz rfl (x := .bool false) rfl ?_)
  show wpAny _ _ (field (.ref z) 3 >>= _) _ _ _; refine wpAny_bind (wpAny_field gz rfl (x := .ref TI) rfl (wpAny_bind (wpAny_seqItems gI rfl ?_)))
  show wpAny _ _ (Builtin.SmallTypes.ownedTupleIsFree (.ref z) >>= _) _ _ _; refine wpAny_bind ?_; unfold Builtin.SmallTypes.ownedTupleIsFree
  refine wpAny_bind (wpAny_field gz rfl (x := .none) rfl (wpAny_pure ?_)); simp only [if_true]
  refine wpAny_bind (wpAny_rule (wpAny_bind (wpAny_field gz rfl (x := .ref TO) rfl (wpAny_bind (wpAny_setField_rec gz (by simp) fun ha ga ea => ?_)))))
  replace ga : IsZip ha z TI TO .ellipsis := ga
  refine wpAny_bind ?_; simp only [List.zipIdx_cons, List.zipIdx_nil, List.forIn_cons, List.forIn_nil]
  refine wpAny_bind (wpAny_bind (wpAny_onRaise ?_)); show wpAny _ _ (Builtin.SmallTypes.nextOf (.ref i1) >>= _) _ _ _
  cases ex : xs[k]? with
  | none =>
    refine wpAny_bind (wpAny_nextOf_list_end hh (f1.extBut ea.extBut D.i1z) (c1.extBut ea.extBut D.l1z) ex fun hb e eb stp => ?_)
    obtain ⟨oe, goe, ce⟩ := stp
    have gb : IsZip hb z TI TO .ellipsis := eb _ _ D.i1z.symm ga
    have nez : e ≠ z := fun q => by subst q; rw [gb] at goe; cases goe; simp at ce
    exact wpAny_setField_rec gb (by simp) fun hc _ ec => out hc e (fun c o n1 _ n3 _ q => ec.extBut _ _ n1 (eb _ _ n3 (ea.extBut _ _ n1 q))) ⟨oe, ec.extBut _ _ nez goe, ce⟩
  | some x =>
    have ey : ys[k]? = none := by rcases stop with q | q; rw [ex] at q; cases q; exact q
    refine wpAny_bind (wpAny_nextOf_list_item (f1.extBut ea.extBut D.i1z) (c1.extBut ea.extBut D.l1z) ex fun hb fb eb => wpAny_pure ?_)
    have gb : IsPair hb TO a b := eb.extBut _ _ D.TOi1 (ea.extBut _ _ D.TOz gO)
    refine wpAny_bind (wpAny_seqItems gb rfl (wpAny_bind (wpAny_updateSeq_pair gb fun hc gc ec => wpAny_bind (wpAny_letGo (wpAny_pure ?_)))))
    refine wpAny_bind (wpAny_bind (wpAny_onRaise ?_)); show wpAny _ _ (Builtin.SmallTypes.nextOf (.ref i2) >>= _) _ _ _
    refine wpAny_bind (RZ.nextOf_tuple_end hh (((f2.extBut ea.extBut D.i2z).extBut eb.extBut D.i12.symm).extBut ec.extBut D.TOi2.symm) (((c2.extBut ea.extBut D.l2z).extBut eb.extBut D.l2i1).extBut ec.extBut D.l2TO) ey fun hd e ed stp => ?_)
    obtain ⟨oe, goe, ce⟩ := stp
    have gd : IsZip hd z TI TO .ellipsis := ed _ _ D.i2z.symm (ec.extBut _ _ D.TOz.symm (eb.extBut _ _ D.i1z.symm ga))
    have nez : e ≠ z := fun q => by subst q; rw [gd] at goe; cases goe; simp at ce
    exact wpAny_setField_rec gd (by simp) fun he _ ee => out he e (fun c o n1 n2 n3 n4 q => ee.extBut _ _ n1 (ed _ _ n4 (ec.extBut _ _ n2 (eb.extBut _ _ n3 (ea.extBut _ _ n1 q))))) ⟨oe, ee.extBut _ _ nez goe, ce⟩
/-- the zip object -/
abbrev q1 (h : Heap) (l1 : Addr) : Heap := h.push { cls := .type "list_iterator", data := .fields #[.ref l1, .int 0 0] }
abbrev q2 (h : Heap) (l1 l2 : Addr) : Heap := (q1 h l1).push { cls := .type "tuple_iterator", data := .fields #[.ref l2, .int 0 0] }
abbrev q3 (h : Heap) (l1 l2 : Addr) : Heap := (q2 h l1 l2).push { cls := .type "tuple", data := .seq #[.ref h.objs.size, .ref (q1 h l1).objs.size] }
abbrev q4 (h : Heap) (l1 l2 : Addr) : Heap := (q3 h l1 l2).push { cls := .type "tuple", data := .seq #[.none, .none] }
abbrev q5 (h : Heap) (l1 l2 : Addr) : Heap := (q4 h l1 l2).push { cls := .type "zip", data := .fields #[.none, .bool false, .bool false, .ref (q2 h l1 l2).objs.size, .ref (q3 h l1 l2).objs.size] }
theorem meets_zlt (l1 l2 : Addr) (xs ys : Array Value) : Meets (Builtin.«zip.__new__» ⟨[.type "zip", .ref l1, .ref l2], []⟩) (fun _ R s => s.heap.IsList l1 xs ∧ s.heap.IsTuple l2 ys ∧ R (.ok (.ret (.ref (q4 s.heap l1 l2).objs.size))) { s with heap := q5 s.heap l1 l2 }) :=
  .of_wp fun prog w A R s h => by
    obtain ⟨hp, g, d, tk, os⟩ := s; obtain ⟨c1, c2, h⟩ := h
    have hsub := sub_zip
    have L1 : Heap.IsList (Shared.heap ⟨hp, g, d, tk, os⟩) l1 xs := c1
    have L2 : Heap.IsTuple (Shared.heap ⟨hp.push { cls := .type "list_iterator", data := .fields #[.ref l1, .int 0 0] }, g, d, tk, os⟩) l2 ys := Heap.IsTuple.push c2 _
    wp_walk using wpAny_pyIter_list L1, wpAny_pyIter_tuple L2
    exact ⟨_, rfl, h⟩
theorem call_zlt {l1 l2 : Addr} {xs ys : Array Value} {W : Value → Shared → Prop} (c1 : s.heap.IsList l1 xs) (c2 : s.heap.IsTuple l2 ys)
    (h : ∀ h', IsZip h' (s.heap.objs.size + 4) (s.heap.objs.size + 2) (s.heap.objs.size + 3) .none → IsPair h' (s.heap.objs.size + 2) (.ref s.heap.objs.size) (.ref (s.heap.objs.size + 1)) → IsPair h' (s.heap.objs.size + 3) .none .none → h'.IsListIter s.heap.objs.size l1 0 → h'.IsTupleIter (s.heap.objs.size + 1) l2 0 →
      (∀ c o, s.heap.get? c = some o → h'.get? c = some o) → W (.ref (s.heap.objs.size + 4)) { s with heap := h' }) : wpAny (model prog w) A (call (.type "zip") [.ref l1, .ref l2]) W E s := by
  refine callType_new F.called_zip (by decide) (F.typeCall_zip_2 _ _) (F.newCall_zip_2 _ _) (fun ob => F.args_object_init_3 ob _ _) F.entry_zip_new (meets_zlt l1 l2 xs ys) ⟨c1, c2, ?_⟩
  have n1 : (q1 s.heap l1).objs.size = s.heap.objs.size + 1 := Heap.size_push ..
  have n2 : (q2 s.heap l1 l2).objs.size = s.heap.objs.size + 2 := by rw [Heap.size_push, n1]
  have n3 : (q3 s.heap l1 l2).objs.size = s.heap.objs.size + 3 := by rw [Heap.size_push, n2]
  have n4 : (q4 s.heap l1 l2).objs.size = s.heap.objs.size + 4 := by rw [Heap.size_push, n3]
  have p5 : (q5 s.heap l1 l2).get? (q4 s.heap l1 l2).objs.size = some _ := Heap.get?_push_size _ rfl
  have p4 : (q5 s.heap l1 l2).get? (q3 s.heap l1 l2).objs.size = some _ := Heap.get?_push_of_some _ (Heap.get?_push_size _ rfl)
  have p3 : (q5 s.heap l1 l2).get? (q2 s.heap l1 l2).objs.size = some _ := Heap.get?_push_of_some _ (Heap.get?_push_of_some _ (Heap.get?_push_size _ rfl))
  have p2 : (q5 s.heap l1 l2).get? (q1 s.heap l1).objs.size = some _ := Heap.get?_push_of_some _ (Heap.get?_push_of_some _ (Heap.get?_push_of_some _ (Heap.get?_push_size _ rfl)))
  have p1 : (q5 s.heap l1 l2).get? s.heap.objs.size = some _ := Heap.get?_push_of_some _ (Heap.get?_push_of_some _ (Heap.get?_push_of_some _ (Heap.get?_push_of_some _ (Heap.get?_push_size _ rfl))))
  show _ ∧ _; rw [n2, n3, n4] at p5; rw [n1, n2] at p3; rw [n3] at p4; rw [n1] at p2; rw [n4]
  exact ⟨⟨_, p5, rfl⟩, h _ p5 p3 p4 ⟨_, p1, rfl, rfl⟩ ⟨_, p2, rfl, rfl⟩ fun c o x => Heap.get?_push_of_some _ (Heap.get?_push_of_some _ (Heap.get?_push_of_some _ (Heap.get?_push_of_some _ (Heap.get?_push_of_some _ x))))⟩
end
/-- the walk of it: a new pair each turn -/
def ItzM (K : PySem.W.Frag) (a b : Addr) : It :=
  ⟨fun i H => ∃ (xs ys : List V) (x y : V), SqL K H a xs ∧ SqT K H b ys ∧ xs[i]? = some x ∧ ys[i]? = some y,
    fun i H v H' => ∃ T x y, v = .ref T ∧ H T = none ∧ H' = upd H T (.tup [x, y]) ∧ (∀ xs, SqL K H a xs → xs[i]? = some x) ∧ ∀ ys, SqT K H b ys → ys[i]? = some y,
    fun i H => ∃ xs ys : List V, SqL K H a xs ∧ SqT K H b ys ∧ (xs.length ≤ i ∨ ys.length ≤ i)⟩
theorem turn_zlt {P : Program} {w : World} {K : PySem.W.Frag} {elts : List Expr} {kk : Nat} {tpos : Pos} {a b z TI TO i1 i2 : Addr} (D : ZipApart z TI TO i1 i2 a b) :
    Turn P w K (.Tuple elts kk tpos) (ItzM K a b) [z, TI, TO, i1, i2] z (fun i h => IsZip h z TI TO .none ∧ IsPair h TI (.ref i1) (.ref i2) ∧ (∃ x y, IsPair h TO x y) ∧ h.IsListIter i1 a i ∧ h.IsTupleIter i2 b i) where
  mem := by simp
  obj := fun i h st c hc => by
    obtain ⟨gz, gI, ⟨x, y, gO⟩, ⟨o1, e1, _, d1⟩, ⟨o2, e2, _, d2⟩⟩ := st
    have cases5 : c = z ∨ c = TI ∨ c = TO ∨ c = i1 ∨ c = i2 := by simpa using hc
    exact cases5.elim (fun e => e ▸ ⟨_, gz, fun v q => nomatch q⟩) fun r => r.elim (fun e => e ▸ ⟨_, gI, fun v q => nomatch q⟩) fun r => r.elim (fun e => e ▸ ⟨_, gO, fun v q => nomatch q⟩) fun r => r.elim (fun e => e ▸ ⟨o1, e1, fun v q => by rw [d1] at q; cases q⟩) fun e => e ▸ ⟨o2, e2, fun v q => by rw [d2] at q; cases q⟩
  keep := fun i h h' ⟨gz, gI, ⟨x, y, gO⟩, f1, f2⟩ k => ⟨k z (by simp) _ gz, k TI (by simp) _ gI, ⟨x, y, k TO (by simp) _ gO⟩, f1.at fun o q => k i1 (by simp) o q, f2.at fun o q => k i2 (by simp) o q⟩
  item := by
    intro X eP ew eK calm i pins s σ H E I fp st hg
    subst eP ew eK
    obtain ⟨gz, gI, ⟨x0, y0, gO⟩, f1, f2⟩ := st
    obtain ⟨xs, ys, x, y, qx, qy, ex, ey⟩ := hg
    obtain ⟨its, rv, p, _⟩ := I.list qx
    obtain ⟨its2, rv2, p2, _⟩ := I.tuple qy
    obtain ⟨u, hu, ru⟩ := rv.get ex
    obtain ⟨u2, hu2, ru2⟩ := rv2.get ey
    have zl : z < s.heap.objs.size := Heap.lt_size gz
    have hT : s.TypeIs (.ref z) "zip" := ⟨_, gz, rfl⟩
    unfold pyNext
    refine wpAny_bind (wpAny_attempt (wpAny_callSpecial?_slot (name := Str.ofString "__next__") hT F.slot_zip_next (wpAny_call_entry F.slot_zip_next hT F.entry_zip_next (zlt_item D gz gI gO f1 f2 p.isList p2 (x := u) (y := u2) (by simpa using hu) (by simpa using hu2) fun h' z' o' w1 w2 gT gs rst => wpAny_pure ?_) (F.args_zip_next_1 _))))
    refine ⟨_, rfl, wpAny_letOwnedTupleGo_zip (s := { s with heap := h' }) z' fun h'' z'' sb => ?_⟩
    have gT2 : h''.get? s.heap.objs.size = some { cls := .type "tuple", data := .seq #[u, u2] } := (sb.2 _ (Nat.ne_of_gt zl)).trans gT
    have rst2 : ∀ c o, c ∉ [z, TI, TO, i1, i2] → s.heap.get? c = some o → h''.get? c = some o := fun c o nb q => by
      simp only [List.mem_cons, List.not_mem_nil, or_false, not_or] at nb
      exact (sb.2 c nb.1).trans (rst c o nb.1 nb.2.2.1 nb.2.2.2.1 nb.2.2.2.2 q)
    have I1 : Inv X pins σ (upd H s.heap.objs.size (.tup [x, y])) { s with heap := h'' } :=
      I.turnedNew (t' := s.toks) (ch := [z, TI, TO, i1, i2]) rst2 fp (Nat.le_refl _) ⟨by show 2 ≤ sizeLine; decide, [u, u2], .cons ru (.cons ru2 .nil), ⟨_, gT2, rfl, _, rfl⟩⟩
    refine ⟨.ref s.heap.objs.size, _, I1, rfl, ⟨_, x, y, rfl, I.hok.fresh (Nat.le_refl _), rfl, fun l hl => by rw [I.list_inj hl qx]; exact ex, fun l hl => by rw [I.tuple_inj hl qy]; exact ey⟩, ⟨z'', (sb.2 _ D.TIz).trans (rst _ _ D.TIz D.TITO D.TIi1 D.TIi2 gI), ⟨u, u2, (sb.2 _ D.TOz).trans o'⟩, w1.at fun o q => (sb.2 _ D.i1z).trans q, w2.at fun o q => (sb.2 _ D.i2z).trans q⟩, fun c hcm => ?_⟩
    have lt : c < s.heap.objs.size := by
      have cases5 : c = z ∨ c = TI ∨ c = TO ∨ c = i1 ∨ c = i2 := by simpa using hcm
      obtain ⟨_, e1, _⟩ := f1
      obtain ⟨_, e2, _⟩ := f2
      exact cases5.elim (fun e => e ▸ zl) fun r => r.elim (fun e => e ▸ Heap.lt_size gI) fun r => r.elim (fun e => e ▸ Heap.lt_size gO) fun r => r.elim (fun e => e ▸ Heap.lt_size e1) fun e => e ▸ Heap.lt_size e2
    rw [upd_ne (Nat.ne_of_lt lt)]
    exact (fp c hcm).1
  done := by
    intro X eP ew eK calm i pins s σ H E I fp st hg
    subst eP ew eK
    obtain ⟨gz, gI, ⟨x0, y0, gO⟩, f1, f2⟩ := st
    obtain ⟨xs, ys, qx, qy, stop⟩ := hg
    obtain ⟨its, rv, p, _⟩ := I.list qx
    obtain ⟨its2, rv2, p2, _⟩ := I.tuple qy
    have l1 := rv.length
    have l2 := rv2.length
    have he : its.toArray[i]? = none ∨ its2.toArray[i]? = none := stop.elim (fun q => .inl (by simp; omega)) fun q => .inr (by simp; omega)
    have hT : s.TypeIs (.ref z) "zip" := ⟨_, gz, rfl⟩
    unfold pyNext
    refine wpAny_bind (wpAny_attempt (wpAny_callSpecial?_slot (name := Str.ofString "__next__") hT F.slot_zip_next (wpAny_call_entry F.slot_zip_next hT F.entry_zip_next (zlt_end (I.ok.hd calm) D gz gI gO f1 f2 p.isList p2 he fun h' e rst stp => ?_) (F.args_zip_next_1 _))))
    obtain ⟨o, ho, hc⟩ := stp
    refine wpAny_bind (wpAny_isInstance (T := "StopIteration") (b := true) ⟨o, ho, hc⟩ isSubtype_stop (wpAny_pure ⟨rfl, I.turnedL (t' := s.toks) (ch := [z, TI, TO, i1, i2]) (fun c o nb q => ?_) fp⟩))
    simp only [List.mem_cons, List.not_mem_nil, or_false, not_or] at nb
    exact rst c o nb.1 nb.2.2.1 nb.2.2.2.1 nb.2.2.2.2 q
  self := fun A i s Q E st h => wpAny_pyIter_zip st.1 h
def iZipM (K : PySem.W.Frag) (ta : TA) : TI := fun σ H R => ta σ H fun vs H1 => ∃ a b xs ys, vs = [.ref a, .ref b] ∧ SqL K H1 a xs ∧ SqT K H1 b ys ∧ R (ItzM K a b) H1
theorem pi_zipM {X : Cx} {e e2 : Expr} {ta : TA} {p pos tpos : Pos} {elts : List Expr} {kk : Nat} (hg : Gl X "zip") (hm : X.mg "zip" = none) (ha : PA X [e, e2] ta)
    (hs : starEach [e, e2] X.env = (false, eval e X.env) :: starEach [e2] X.env := by rfl) (hpl : (backTo pos (starEach [e2] X.env)).any (·.1) = false := by rfl) : PI X (.Tuple elts kk tpos) (.Call (.Name "zip" p) [e, e2] [] pos) (iZipM X.K ta) := by
  refine ⟨fun pn sh st hp R Iv hh => Call_ (ld_blt Iv hg hm PyProof.Rows.boot_zip (PyProof.Rows.callWith_type1 (thn (ha.run pos pn sh st hp _ Iv hh) fun us s1 ⟨vs, H1, I1, r1, q1⟩ => ?_) hs hpl))⟩
  obtain ⟨a, b, xs, ys, rfl, qx, qy, q⟩ := q1
  cases r1 with
  | cons r rr =>
    cases rr with
    | cons r' rr =>
      cases rr; cases r; cases r'
      obtain ⟨its, rv, p1, _⟩ := I1.list qx
      obtain ⟨its2, rv2, p2, _⟩ := I1.tuple qy
      obtain ⟨o2, ho2, _⟩ := id p2
      refine call_zlt p1.isList p2 fun h' gz gI gO f1 f2 hk => wpAny_pyIter_zip gz ?_
      have I2 : Inv X pn st H1 { s1 with heap := h' } := I1.kept (t' := s1.toks) hk
      refine ⟨s1.heap.objs.size + 4, [s1.heap.objs.size + 4, s1.heap.objs.size + 2, s1.heap.objs.size + 3, s1.heap.objs.size, s1.heap.objs.size + 1], _, _, H1, rfl, I2, turn_zlt (PySem.W.ktu_apart s1.heap.objs.size a b p1.lt (Heap.lt_size ho2)), ⟨gz, gI, ⟨_, _, gO⟩, f1, f2⟩, fun c hcm => ?_, q⟩
      have le : s1.heap.objs.size ≤ c := by
        have cases5 : c = s1.heap.objs.size + 4 ∨ c = s1.heap.objs.size + 2 ∨ c = s1.heap.objs.size + 3 ∨ c = s1.heap.objs.size ∨ c = s1.heap.objs.size + 1 := by simpa using hcm
        rcases cases5 with q | q | q | q | q <;> rw [q] <;> first | exact Nat.le_add_right _ _ | exact Nat.le_refl _
      exact I1.fpOk le (I1.hok.fresh le)
theorem walk_zlt {K : PySem.W.Frag} {a b : Addr} {xs ys : List V} {n : Nat} (hn : n = min xs.length ys.length) : Walk (ItzM K a b) n (fun H => SqL K H a xs ∧ SqT K H b ys) (YPair (fun i => xs[i]?) (fun i => ys[i]?)) := by
  subst hn
  refine ⟨fun i _ hi q => ?_, fun _ ⟨g1, g2⟩ => ⟨xs, ys, g1, g2, (by omega)⟩, fun i H v H' _ ⟨g1, g2⟩ ⟨T, x, z, t1, t2, t3, t4, t5⟩ => ⟨T, x, z, t1, t2, t3, t4 _ g1, t5 _ g2⟩⟩
  obtain ⟨m1, m2⟩ := Nat.lt_min.mp hi
  exact ⟨xs, ys, xs[i], ys[i], q.1, q.2, List.getElem?_eq_getElem m1, List.getElem?_eq_getElem m2⟩
end Kr
namespace Kr
open PySem PySem.Spec PyProof.Rows L2
section
variable {P : Program} {w : World} {K : PySem.W.Frag} {mg : Str → Option Value} {base : Heap}
theorem scLS : FnScope ["one", "two", "a", "b"] ["one", "two"] (defScope sLSum) := ⟨rfl, rfl, rfl, by decide +kernel, rfl, by decide +kernel, by decide +kernel⟩
theorem o_lSum (D : Df K mg "_law_sum" sLSum ["one", "two"]) (B : Bi mg) : Ok P w K mg base 1 "_law_sum" ["one", "two"] spLSum := by
  refine D.ok fun f fd F => F.ok scLS (fun vs H Q E h => ?_) (fun cdv A outer s H vs Q E hr h => ?_)
  · obtain ⟨v, u, a, b, n, rfl, _⟩ := h
    rfl
  · obtain ⟨v, u, a, b, n, rfl, la, lb, hn, hv, hu, q⟩ := h
    refine ⟨_, pss_one (ps_ret (pe_callTy call_tuple_of (by rfl) B.tuple (by decide +kernel) (pa_cons
      (pe_lc (own := [("a", 2), ("b", 3)]) (g := gTup K 2 (gCons (gName 2) (gCons (gName 3) gNil))) (tt := tYes) rfl scLS.nd (RZ.pi_zipA (by rfl) B.zip (pa_cons (pv 0) (pa_cons (pv 1) pa_nil))) (blkOk_by (own := [("a", 2), ("b", 3)]) (N := ["one", "two", "a", "b"]) (sc := defScope sLSum) (by decide +kernel))
        (fun _ _ _ _ _ => pg_tup rfl (pgs_cons (pg_name (i := 2) scLS.nd rfl (.inl rfl)) (pgs_cons (pg_name (i := 3) scLS.nd rfl (.inl rfl)) pgs_nil))) (fun _ _ _ _ _ => pts_nil)
        (fun _ _ _ _ _ => pe_tup (pa_cons (pe_op op_mod (pe_callTy call_int1 (by rfl) B.int (by decide +kernel) (pa_cons (pe_op op_add (pe_ix (r := rIxT K) ix_tup (pv 2) pe_int (fun _ _ => rfl)) (pe_ix (r := rIxT K) ix_tup (pv 3) pe_int (fun _ _ => rfl))) pa_nil)) pe_int)
          (pa_cons (pe_op op_mod (pe_callTy call_int1 (by rfl) B.int (by decide +kernel) (pa_cons (pe_op op_add (pe_ix (r := rIxT K) ix_tup (pv 2) pe_int (fun _ _ => rfl)) (pe_ix (r := rIxT K) ix_tup (pv 3) pe_int (fun _ _ => rfl))) pa_nil)) pe_int) pa_nil)))) pa_nil))), ?_⟩
    obtain ⟨av, xs, rfl, ha, qa⟩ := row_inv hv
    obtain ⟨bv, ys, rfl, hb, qb⟩ := row_inv hu
    have lx := pairs_len qa
    have ly := pairs_len qb
    refine ⟨.ref av, rfl, .ref bv, rfl, av, bv, xs, ys, rfl, .inr ⟨SqT.of ha, SqT.of hb, fun D nD => ?_⟩⟩
    refine lc_itF (walk_zipT (n := n) (xs := xs) (ys := ys) (by omega)) (fun i => pairD (addP (atR a i) (atR b i))) nD (by omega) (fun _ _ => pair_flat _) (fun H3 s3 => ⟨SqT.of (s3 _ _ ha), SqT.of (s3 _ _ hb)⟩) (fun j x H3 H3' C Cn hj s3 y c => ?_) (fun H3 acc s3 hD qd => ?_)
    · obtain ⟨T, y1, y2, rfl, nT, rfl, g1, g2⟩ := y
      obtain ⟨p1, e1, b1, rfl, k1⟩ := pairs_get (qa.up s3) g1
      obtain ⟨p2, e2, b2, rfl, k2⟩ := pairs_get (qb.up s3) g2
      have sT : Same H3 (upd H3 T (.tup [.ref b1, .ref b2])) := same_new nT
      have hp := c
      rw [atR_some e1, atR_some e2] at hp
      refine ⟨T, [.ref b1, .ref b2], rfl, SqT.of upd_same, rfl, .ref b1, [.ref b2], rfl, .ref b2, [], rfl, rfl, rfl, ?_⟩
      dsimp only [tYes]
      rw [if_pos rfl]
      refine ⟨.ref b1, rfl, b1, _, 0, .int (bi p1.1), rfl, rfl, SqT.of (sT _ _ k1), rfl, .ref b2, rfl, b2, _, 0, .int (bi p2.1), rfl, rfl, SqT.of (sT _ _ k2), rfl, _, _, rfl, rfl, .inl ⟨_, rfl, _, _, rfl, rfl, (by show (0 : Int) < 2; decide), ?_⟩⟩
      refine ⟨.ref b1, rfl, b1, _, 1, .int (bi p1.2), rfl, rfl, SqT.of (sT _ _ k1), rfl, .ref b2, rfl, b2, _, 1, .int (bi p2.2), rfl, rfl, SqT.of (sT _ _ k2), rfl, _, _, rfl, rfl, .inl ⟨_, rfl, _, _, rfl, rfl, (by show (0 : Int) < 2; decide), by show 2 ≤ sizeLine; decide, fun t nt => ?_⟩⟩
      dsimp only
      rw [bi_sum, bi_sum]
      exact hp _ _ (sT.trans (same_new nt)) (pair_at (p := addP p1 p2) upd_same)
    · rw [range_addR la lb] at qd
      exact ⟨D, _, rfl, .inl ⟨SqL.of hD, fun t nt => q _ _ (s3.trans (same_new nt)) (.tup upd_same (qd.up (same_new nt)))⟩⟩
end
end Kr
namespace Kr
open PySem PySem.Spec PyProof.Rows L2
section
variable {P : Program} {w : World} {K : PySem.W.Frag} {mg : Str → Option Value} {base : Heap}
theorem scLC : FnScope ["a", "b"] ["a", "b"] (defScope sLChoose) := ⟨rfl, rfl, rfl, by decide +kernel, rfl, by decide +kernel, by decide +kernel⟩
theorem o_lChoose (D : Df K mg "_law_choose" sLChoose ["a", "b"]) (B : Bi mg) : Ok P w K mg base 1 "_law_choose" ["a", "b"] spLc := by
  refine D.ok fun f fd F => F.ok scLC (fun vs H Q E h => ?_) (fun cdv A outer s H vs Q E hr h => ?_)
  · obtain ⟨a, b, rfl, _⟩ := h
    rfl
  · obtain ⟨a, b, rfl, h0, h1, q⟩ := h
    refine ⟨_, pss_cons (ps_if (PW.pt (pw_or (pt_cmpR op_lt (pv 1) pe_int (nomark _)) (pw_or1 (pt_cmpR op_gt (pv 1) (pv 0) (nomark _))))) (pss_one (ps_ret pe_int)) pss_nil)
      (pss_cons (ps_while PassesOwn.never (pt_cmpR op_gt (pv 1) pe_int (nomark _))
        (pss_cons (ps_if (pt_cmpR op_gt (pe_op op_mod (pe_callTy call_int1 (by rfl) B.int (by decide +kernel) (pa_cons (pv 1) pa_nil)) pe_int) (pe_op op_mod (pe_callTy call_int1 (by rfl) B.int (by decide +kernel) (pa_cons (pv 0) pa_nil)) pe_int) (nomark _)) (pss_one (ps_ret pe_int)) pss_nil)
        (pss_one (ps_par (i := 0) (j := 1) rfl scLC.nd rfl rfl (by decide) rfl rfl (pa_cons (pe_op op_fdiv (pv 0) pe_int) (pa_cons (pe_op op_fdiv (pv 1) pe_int) pa_nil)) (by rfl)))))
      (pss_one (ps_ret pe_int))), ?_⟩
    refine ⟨.int b, rfl, _, _, rfl, rfl, _, rfl, ite2 (fun hb => ?_) (fun hb => ?_)⟩
    · rw [chB_neg (of_decide_eq_true hb)] at q
      exact q
    have hb0 : 0 ≤ b := Int.not_lt.mp fun z => hb (decide_eq_true z)
    refine ⟨.int b, rfl, .int a, rfl, _, _, rfl, rfl, _, rfl, ite2 (fun hba => ?_) (fun hba => ?_)⟩
    · rw [chB_above (of_decide_eq_true hba) h0] at q
      exact q
    have hb1 : b ≤ a := Int.not_lt.mp fun z => hba (decide_eq_true z)
    obtain ⟨a0, rfl⟩ : ∃ m : Nat, a = m := ⟨a.toNat, by omega⟩
    obtain ⟨b0, rfl⟩ : ∃ m : Nat, b = m := ⟨b.toNat, by omega⟩
    rw [← luc_ch a0 (by omega) b0 (by omega)] at q
    refine while_by (fun σ H2 => ∃ f a b : Nat, σ = [some (.int (a : Int)), some (.int (b : Int))] ∧ H2 = H ∧ b < 2 ^ f ∧ luc f a b = luc 6 a0 b0) (fun σ H2 => match σ with | [_, some (.int b)] => b.toNat | _ => 0) ⟨6, a0, b0, rfl, rfl, by show b0 < 64; omega, rfl⟩ ?_ ?_
    · rintro σ H2 ⟨fu, a, b, rfl, rfl, hf, e⟩
      refine ⟨.int b, rfl, _, _, rfl, rfl, _, rfl, ite2 (fun h2 => ?_) (fun h2 => ?_)⟩
      · have hb2 : 0 < b := by have : (0 : Int) < b := of_decide_eq_true h2; omega
        obtain ⟨f', rfl⟩ : ∃ f', fu = f' + 1 := by
          cases fu with
          | zero => omega
          | succ f' => exact ⟨f', rfl⟩
        rw [luc, if_pos hb2] at e
        refine ⟨.int b, rfl, .inl ⟨_, rfl, _, _, rfl, rfl, (by show (0 : Int) < 2; decide), .int a, rfl, .inl ⟨_, rfl, _, _, rfl, rfl, (by show (0 : Int) < 2; decide), _, _, rfl, rfl, _, rfl, ite2 (fun h3 => ?_) (fun h3 => ?_)⟩⟩⟩
        · have h4 : ((a : Int) % 2) < ((b : Int) % 2) := of_decide_eq_true h3
          rw [if_pos (by omega)] at e
          rw [← e] at q
          exact q
        · have h4 : ¬ ((a : Int) % 2) < ((b : Int) % 2) := fun z => h3 (decide_eq_true z)
          rw [if_neg (by omega)] at e
          refine ⟨.int a, rfl, _, _, rfl, rfl, ⟨by decide, by decide⟩, .int b, rfl, _, _, rfl, rfl, ⟨by decide, by decide⟩, _, _, rfl, ?_⟩
          refine ⟨⟨f', a / 2, b / 2, ?_, rfl, by rw [Nat.pow_succ] at hf; omega, e⟩, ?_⟩
          · show [some (V.int ((a : Int) / 2)), some (V.int ((b : Int) / 2))] = _
            simp
          · show ((b : Int) / 2).toNat < (b : Int).toNat
            omega
      · have hb2 : b = 0 := by have : ¬ (0 : Int) < b := fun z => h2 (decide_eq_true z); omega
        subst hb2
        rw [luc_zero] at e
        rw [← e] at q
        exact q
    · rintro σ H2 Q1 Q2 hq ⟨x, hx, i, j, e1, e2, k, e3, e4⟩
      exact ⟨x, hx, i, j, e1, e2, k, e3, hq _ _ e4⟩
theorem scLK : FnScope ["n", "k", "m"] ["n", "k"] (defScope sLKind) := ⟨rfl, rfl, rfl, by decide +kernel, rfl, by decide +kernel, by decide +kernel⟩
theorem o_lKind (D : Df K mg "_law_kind" sLKind ["n", "k"]) (B : Bi mg) (oc : Ok P w K mg base 1 "_law_choose" ["a", "b"] spLc) : Ok P w K mg base 2 "_law_kind" ["n", "k"] spKind := by
  refine D.ok fun f fd F => F.ok scLK (fun vs H Q E h => ?_) (fun cdv A outer s H vs Q E hr h => ?_)
  · obtain ⟨n, k, rfl, _⟩ := h
    rfl
  · obtain ⟨n, k, rfl, hk, hn, q⟩ := h
    refine ⟨_, pss_one (ps_ret (pe_callTy call_tuple_of (by rfl) B.tuple (by decide +kernel) (pa_cons
        (pe_lc (own := [("m", 2)]) (g := gName 2) (tt := tYes) rfl scLK.nd (pi_range1 (by rfl) B.range (pa_cons (pe_op op_add (pv 0) pe_int) pa_nil)) (blkOk_by (own := [("m", 2)]) (N := ["n", "k", "m"]) (sc := defScope sLKind) (by decide +kernel))
          (fun _ _ _ _ _ => pg_name (i := 2) scLK.nd rfl (.inl rfl)) (fun _ _ _ _ _ => pts_nil)
          (fun _ _ _ _ _ => pe_tup (pa_cons (pe_fn oc hr (by rfl) (pa_cons (pe_op op_sub (pe_op op_sub (pv 0) pe_int) (pv 1)) (pa_cons (pe_op op_sub (pe_op op_sub (pv 2) pe_int) (pv 1)) pa_nil)))
            (pa_cons (pe_fn oc hr (by rfl) (pa_cons (pe_op op_sub (pe_op op_sub (pv 0) pe_int) (pv 1)) (pa_cons (pe_op op_sub (pv 2) (pv 1)) pa_nil))) pa_nil)))) pa_nil))), ?_⟩
    refine ⟨.int n, rfl, _, _, rfl, rfl, (n : Int) + 1, rfl, by omega, by omega, fun D nD => ?_⟩
    refine lc_itF walk_rg (fun m => pairD (chB ((n : Int) - 2 - k) ((m : Int) - 1 - k), chB ((n : Int) - 2 - k) ((m : Int) - k))) nD (by show ((n : Int) + 1).toNat ≤ 100000; omega) (fun m _ => pair_flat _) (fun _ _ => trivial) (fun m x H2 H2' C Cn hm s y c => ?_) (fun H2 acc s hD qa => ?_)
    · obtain ⟨rfl, rfl⟩ := y
      refine ⟨rfl, ?_⟩
      dsimp only [tYes]
      rw [if_pos rfl]
      refine ⟨.int n, rfl, _, _, rfl, rfl, .int k, rfl, _, _, rfl, rfl, .int m, rfl, _, _, rfl, rfl, .int k, rfl, _, _, rfl, rfl, _, _, rfl, by omega, by omega, ?_⟩
      refine ⟨.int n, rfl, _, _, rfl, rfl, .int k, rfl, _, _, rfl, rfl, .int m, rfl, .int k, rfl, _, _, rfl, rfl, _, _, rfl, by omega, by omega, ?_⟩
      exact ⟨by show 2 ≤ sizeLine; decide, fun t nt => c _ _ (same_new nt) (pair_at upd_same)⟩
    · refine ⟨D, _, rfl, .inl ⟨SqL.of hD, fun t nt => q _ _ (s.trans (same_new nt)) (.tup upd_same ?_)⟩⟩
      have e : (kindR n k).map pairD = (List.range ((n : Int) + 1).toNat).map fun (m : Nat) => pairD (chB ((n : Int) - 2 - k) ((m : Int) - 1 - k), chB ((n : Int) - 2 - k) ((m : Int) - k)) := by
        unfold kindR
        rw [List.map_map]
        have : ((n : Int) + 1).toNat = n + 1 := by omega
        rw [this]
        rfl
      rw [e]
      exact qa.up (same_new nt)
end
end Kr
namespace Kr
open PySem PySem.Spec PyProof.Rows L2
def good (n : Nat) (R : Row) : Prop := R.length = n + 1 ∧ atR R n = (false, false) ∧ (atR R (n - 1)).2 = false
theorem good_zero (n : Nat) : good n (zeroR n) := ⟨zeroR_len n, atR_zero n n, by rw [atR_zero]⟩
theorem good_kind {n k : Nat} (h : k + 2 ≤ n) : good n (kindR n k) := by
  refine ⟨kindR_len n k, ?_, ?_⟩
  · rw [atR_kind (by omega), chB_above (by omega) (by omega), chB_above (by omega) (by omega)]
  · rw [atR_kind (by omega)]
    exact chB_above (by omega) (by omega)
theorem good_add {n : Nat} {R S : Row} (h : good n R) (g : good n S) : good n (addR R S) := by
  obtain ⟨h1, h2, h3⟩ := h
  obtain ⟨g1, g2, g3⟩ := g
  refine ⟨by rw [addR_len (by omega)]; exact g1, ?_, ?_⟩
  · rw [atR_add h1 g1, h2, g2]
    rfl
  · rw [atR_add h1 g1]
    show ((atR R (n - 1)).2 ^^ (atR S (n - 1)).2) = false
    rw [h3, g3]
    rfl
theorem rep_one {α : Type} (x : α) : ∀ c : Nat, (List.replicate c [x]).flatten = List.replicate c x
  | 0 => rfl
  | c + 1 => by
    rw [List.replicate_succ, List.flatten_cons, rep_one x c, List.replicate_succ]
    rfl
theorem range_getD {α β : Type} (d : α) (f : α → β) (rs : List α) : (List.range rs.length).map (fun t => f (rs.getD t d)) = rs.map f := by
  refine List.ext_getElem (by simp) fun i h1 h2 => ?_
  have h3 : i < rs.length := by simpa using h1
  simp [h3]
theorem fct_pos : ∀ n < 11, ∀ m < 11, 3 ≤ n → m ≤ n → 1 ≤ m → 1 ≤ fct n m := by decide +kernel
theorem fct_le (n m : Nat) : fct n m ≤ waysN n m := by
  unfold fct
  split
  · exact Nat.le_refl _
  · split
    · exact Nat.div_le_self _ _
    · exact Nat.div_le_self _ _
theorem oneRow_lt {n j : Nat} (h1 : n < 11) (h2 : 3 ≤ n) (h3 : 1 ≤ j) (h4 : j + 2 ≤ n) : oneRow n j < 10 ^ 4300 := by
  have e := sums_keyed (o := 0) h1 h2 h3 h4
  have l := keyed_lt (o := 0) h1 h2 h3 h4
  have f := fac_pos n
  have a1 : keyed n j 0 ≤ keyed n j 0 * fac n := Nat.le_mul_of_pos_right _ f
  have a2 : oneRow n j ≤ 2 ^ (0 + 1) * oneRow n j := Nat.le_mul_of_pos_left _ (by decide)
  rw [e] at a2
  exact Nat.lt_of_le_of_lt (Nat.le_trans a2 a1) l
theorem putK_len {κ : Type} [DecidableEq κ] (kvs : List (κ × V)) (k : κ) (v : V) : (putK kvs k v).length ≤ kvs.length + 1 := by
  unfold putK
  split
  · rw [List.length_map]
    omega
  · rw [List.length_append]
    exact Nat.le_refl _
theorem dqa_row {H : Hp} {xs : List V} {rs : List Row} {t : Nat} {x : V} (q : DqA H xs (rs.map rowD)) (e : xs[t]? = some x) : ∃ R, rs[t]? = some R ∧ Dq H x (rowD R) := by
  obtain ⟨d, e1, hd⟩ := q.get e
  rw [List.getElem?_map] at e1
  cases g : rs[t]? with
  | none => rw [g] at e1; cases e1
  | some R =>
    rw [g] at e1
    obtain rfl : rowD R = d := Option.some.inj e1
    exact ⟨R, rfl, hd⟩
end Kr
namespace Kr
open PySem PySem.Spec PyProof.Rows L2
section
variable {P : Program} {w : World} {K : PySem.W.Frag} {mg : Str → Option Value} {base : Heap}
abbrev n_lSums : List Str := ["n", "kinds", "least", "found", "rows", "k", "row", "first", "wholes", "m", "many"]
theorem sc_lSums : FnScope n_lSums ["n", "kinds"] (defScope sLSums) := ⟨rfl, rfl, rfl, by decide +kernel, rfl, by decide +kernel, by decide +kernel⟩
theorem o_lSums (D0 : Df K mg "_law_sums" sLSums ["n", "kinds"]) (B : Bi mg) (ls : Ok P w K mg base 1 "_law_sum" ["one", "two"] spLSum) (lk : Ok P w K mg base 2 "_law_kind" ["n", "k"] spKind) (lp : Ok P w K mg base 1 "_law_product" ["n"] spFacN) (lo : Ok P w K mg base 2 "_law_lots" ["n", "m"] spLotN) (pw : Ok P w K mg base 1 "_law_power" ["base", "many"] spPowN) (wy : Ok P w K mg base 1 "_law_ways" ["n", "m", "whole", "pair"] spWy) : Ok P w K mg base 3 "_law_sums" ["n", "kinds"] spSumsN := by
  refine D0.ok fun f fd F => F.ok sc_lSums (fun vs H Q E h => ?_) (fun cdv A outer s H vs Q E hr h => ?_)
  · obtain ⟨_, _, _, _, rfl, _⟩ := h
    rfl
  · obtain ⟨n, a, j, r, rfl, ha, n0, n1, hk, hj, q⟩ := h
    have hr_ls := hr.mono (show 1 ≤ 2 by omega)
    have hr_lk := hr.mono (show 2 ≤ 2 by omega)
    have hr_lp := hr.mono (show 1 ≤ 2 by omega)
    have hr_lo := hr.mono (show 2 ≤ 2 by omega)
    have hr_pw := hr.mono (show 1 ≤ 2 by omega)
    have hr_wy := hr.mono (show 1 ≤ 2 by omega)
    have hu : (cxOf CX0 P w K mg base n_lSums "_law_sums" (defScope sLSums) f cdv A outer s H E).A.units + 64 < cLine := hr.units
    have hu1 := hu_of hr
    refine ⟨_, pss_cons (ps_par (i := 2) (j := 3) rfl sc_lSums.nd rfl rfl (by decide) rfl rfl (pa_cons (pe_ix ix_tup (pv 1) pe_int (fun _ _ => rfl)) (pa_cons pe_int pa_nil)) (by rfl))
      (pss_cons (ps_set (i := 4) sc_lSums.nd rfl (.inl rfl) (pe_lst (pa_cons (pe_op op_repT (pe_tup (pa_cons (pe_tup (pa_cons pe_int (pa_cons pe_int pa_nil))) pa_nil)) (pe_op op_add (pv 0) pe_int)) pa_nil)))
      (pss_cons (ps_for PassesOwn.never rfl (pi_tup (pv 1)) (pg_name (i := 5) sc_lSums.nd rfl (.inr rfl))
        (pss_one (ps_set (i := 4) sc_lSums.nd rfl (.inl rfl) (pe_op op_cat (pv 4) (pe_lc (own := [("row", 6)]) (g := gName 6) (tt := tYes) rfl sc_lSums.nd (pi_list (pv 4)) (blkOk_by (own := [("row", 6)]) (N := n_lSums) (sc := defScope sLSums) (by decide +kernel)) (fun _ _ _ _ _ => pg_name (i := 6) sc_lSums.nd rfl (.inl rfl)) (fun _ _ _ _ _ => pts_nil) (fun _ _ _ _ _ => (pe_fn ls hr_ls (by rfl) (pa_cons (pv 6) (pa_cons (pe_fn lk hr_lk (by rfl) (pa_cons (pv 0) (pa_cons (pv 5) pa_nil))) pa_nil)))))))))
      (pss_cons (ps_par (i := 7) (j := 8) rfl sc_lSums.nd rfl rfl (by decide) rfl rfl (pa_cons (pe_op op_fdivW (pe_fn pw hr_pw (by rfl) (pa_cons (pe_fn lp hr_lp (by rfl) (pa_cons (pe_op op_sub (pv 0) (pv 2)) pa_nil)) (pa_cons (pe_fn lo hr_lo (by rfl) (pa_cons (pv 0) (pa_cons (pv 2) pa_nil))) pa_nil))) pe_int) (pa_cons pe_dnewK pa_nil)) (by rfl))
      (pss_cons (ps_for PassesOwn.never rfl (pi_range2 (by rfl) B.range (pa_cons (pe_op op_add (pv 2) pe_int) (pa_cons (pe_op op_add (pv 0) pe_int) pa_nil))) (pg_name (i := 9) sc_lSums.nd rfl (.inl rfl))
        (pss_one (ps_dput hu1 (pv 8) (pv 9) (pe_op op_mulW (pe_fn lp hr_lp (by rfl) (pa_cons (pe_fn lo hr_lo (by rfl) (pa_cons (pv 0) (pa_cons (pv 9) pa_nil))) pa_nil)) (pe_fn pw hr_pw (by rfl) (pa_cons (pe_fn lp hr_lp (by rfl) (pa_cons (pe_op op_sub (pv 0) (pv 9)) pa_nil)) (pa_cons (pe_fn lo hr_lo (by rfl) (pa_cons (pv 0) (pa_cons (pv 9) pa_nil))) pa_nil)))) rfl)))
      (pss_cons (ps_for PassesOwn.never rfl (pi_list (pv 4)) (pg_name (i := 6) sc_lSums.nd rfl (.inl rfl))
        (pss_cons (ps_set (i := 10) sc_lSums.nd rfl (.inl rfl) (pv 7))
        (pss_cons (ps_for PassesOwn.never rfl (pi_range2 (by rfl) B.range (pa_cons (pe_op op_add (pv 2) pe_int) (pa_cons (pe_op op_add (pv 0) pe_int) pa_nil))) (pg_name (i := 9) sc_lSums.nd rfl (.inl rfl))
          (pss_one (ps_set (i := 10) sc_lSums.nd rfl (.inl rfl) (pe_op op_mulW (pv 10) (pe_fn wy hr_wy (by rfl) (pa_cons (pv 0) (pa_cons (pv 9) (pa_cons (pe_dget hu1 (pv 8) (pv 9) (fun _ _ => rfl)) (pa_cons (pe_ix ix_tup (pv 6) (pv 9) (fun _ _ => rfl)) pa_nil)))))))))
        (pss_one (ps_set (i := 3) sc_lSums.nd rfl (.inl rfl) (pe_op op_add (pv 3) (pv 10)))))))
      (pss_one (ps_ret (pv 3)))))))), ?_⟩
    have hlen := hk.len (by omega)
    have hjn := hk.up j List.mem_cons_self
    have hix : atI (nv (j :: r)) 0 = some (.int (j : Int)) := atI_nat (j := 0) (xs := nv (j :: r)) (v := .int (j : Int)) rfl
    have nl : (nv (j :: r)).length = r.length + 1 := by rw [List.length_map, List.length_cons]
    refine ⟨.ref a, rfl, a, _, 0, .int (j : Int), rfl, rfl, SqT.of ha, hix, _, _, rfl, by show 2 ≤ sizeLine; decide, fun t nt => ⟨by show 1 ≤ sizeLine; decide, fun t1 nt1 => ?_⟩⟩
    refine ⟨.int (n : Int), rfl, _, _, rfl, rfl, t1, (n : Int) + 1, _, rfl, rfl, SqT.of upd_same, by simp, by omega, by omega, by show 1 ≤ 1000; decide, fun p np => ⟨by show 1 ≤ sizeLine; decide, fun L nL => ?_⟩⟩
    have s1 := same_new (o := .tup [.int 0, .int 0]) nt
    have s2 := same_new (o := .tup [.ref t]) nt1
    have s3 := same_new (o := .tup (List.replicate ((n : Int) + 1).toNat [V.ref t]).flatten) np
    have s4 := same_new (o := .lst [V.ref p]) nL
    have kt := s4 _ _ (s3 _ _ (s2 _ _ (upd_same (H := H) (a := t) (o := .tup [.int 0, .int 0]))))
    have kp := s4 _ _ (upd_same (H := upd (upd H t (.tup [.int 0, .int 0])) t1 (.tup [.ref t])) (a := p) (o := .tup (List.replicate ((n : Int) + 1).toNat [V.ref t]).flatten))
    have kL := upd_same (H := upd (upd (upd H t (.tup [.int 0, .int 0])) t1 (.tup [.ref t])) p (.tup (List.replicate ((n : Int) + 1).toNat [V.ref t]).flatten)) (a := L) (o := .lst [V.ref p])
    have sa := s1.trans (s2.trans (s3.trans s4))
    generalize upd (upd (upd (upd H t (.tup [.int 0, .int 0])) t1 (.tup [.ref t])) p (.tup (List.replicate ((n : Int) + 1).toNat [V.ref t]).flatten)) L (.lst [V.ref p]) = G0 at kt kp kL sa
    rw [rep_one, show ((n : Int) + 1).toNat = n + 1 by omega] at kp
    have q0 : DqA G0 [.ref p] ([zeroR n].map rowD) := .cons (.tup kp (zero_dq kt (n + 1))) .nil
    refine ⟨.ref a, rfl, a, rfl, ⟨_, SqT.of (sa _ _ ha)⟩, for_it (walk_tup (K := K) (a := a) (xs := nv (j :: r))) (fun i σ G => ∃ (L : Addr) (xs : List V) (rs : List Row) (y5 : Option V), σ = [some (.int (n : Int)), some (.ref a), some (.int (j : Int)), some (.int 0), some (.ref L), y5, none, none, none, none, none] ∧ Same H G ∧ G L = some (.lst xs) ∧ DqA G xs (rs.map rowD) ∧ rs.length = 2 ^ i ∧ ∀ R ∈ rs, good n R)
      ⟨L, [.ref p], [zeroR n], none, rfl, sa, kL, q0, rfl, fun R hR => by obtain rfl := List.mem_singleton.mp hR; exact good_zero n⟩ (fun _ _ _ _ ⟨_, _, _, _, _, sm, _⟩ => SqT.of (sm _ _ ha)) ?_ ?_⟩
    · rintro i x σ _ G hi ⟨L, xs, rs, y5, rfl, sm, hL, qx, hl, hg⟩ ⟨rfl, hx⟩
      obtain ⟨k, hkk, rfl⟩ := nv_at hx
      have hk2 : k + 2 ≤ n := hk.up k (List.mem_of_getElem? hkk)
      have hi2 : i < 10 := by rw [nl] at hi; rw [List.length_cons] at hlen; omega
      have xl : xs.length = rs.length := by rw [qx.len, List.length_map]
      have hl2 : rs.length ≤ 1024 := by
        rw [hl]
        exact Nat.pow_le_pow_right (n := 2) (by decide) (show i ≤ 10 by omega)
      refine ⟨.ref L, rfl, .ref L, rfl, L, rfl, ⟨_, SqL.of hL⟩, fun D nD => ?_⟩
      refine lc_itF (walk_list (K := K) (a := L) (xs := xs)) (fun t => rowD (addR (rs.getD t []) (kindR n k))) nD (by omega) (fun _ _ => row_flat _) (fun H3 s3 => SqL.of (s3 _ _ hL)) (fun t x H3 H3' C Cn ht s3 y c => ?_) (fun H3 acc s3 hD qd => ?_)
      · obtain ⟨rfl, hx2⟩ := y
        obtain ⟨R, e2, hd⟩ := dqa_row (qx.up s3) hx2
        have eg : rs.getD t [] = R := by rw [List.getD_eq_getElem?_getD, e2]; rfl
        obtain ⟨g1, _, _⟩ := hg R (List.mem_of_getElem? e2)
        refine ⟨rfl, ?_⟩
        dsimp only [tYes]
        rw [if_pos rfl]
        refine ⟨x, rfl, .int (n : Int), rfl, .int (k : Int), rfl, n, k, rfl, hk2, by omega, fun H5 kv s5 hkv => ?_⟩
        refine ⟨x, kv, R, kindR n k, n + 1, rfl, g1, kindR_len n k, by omega, hd.up s5, hkv, fun H6 v6 s6 hv6 => ?_⟩
        exact c _ _ (s5.trans s6) (by rw [eg]; exact hv6)
      · rw [xl] at qd
        rw [range_getD [] (fun R => rowD (addR R (kindR n k))) rs] at qd
        have al : acc.length = rs.length := by rw [qd.len, List.length_map]
        refine ⟨L, D, xs, acc, rfl, rfl, s3 _ _ hL, hD, sz (by omega), fun p np => ?_⟩
        have sp := same_new (o := .lst (xs ++ acc)) np
        refine ⟨p, xs ++ acc, rs ++ rs.map (fun R => addR R (kindR n k)), some (.int (k : Int)), rfl, sm.trans (s3.trans sp), upd_same, ?_, ?_, fun R hR => ?_⟩
        · rw [List.map_append, List.map_map]
          exact (qx.up (s3.trans sp)).app (qd.up sp)
        · rw [List.length_append, List.length_map, hl, Nat.pow_succ]
          omega
        · rcases List.mem_append.mp hR with hR | hR
          · exact hg R hR
          · obtain ⟨R', hR', rfl⟩ := List.mem_map.mp hR
            exact good_add (hg R' hR') (good_kind hk2)
    rintro σ G ⟨L, xs, rs, y5, rfl, sm, hL, qx, hl, hg⟩
    have xl : xs.length = rs.length := by rw [qx.len, List.length_map]
    rw [nl] at hl
    obtain ⟨l1, l2⟩ := lots_le n (by omega) j (by omega) (by omega)
    obtain ⟨_, _, w3⟩ := ways_lt n (by omega) j (by omega) (by omega)
    refine ⟨.int (n : Int), rfl, .int (j : Int), rfl, _, _, rfl, rfl, n - j, ?_, by omega, .int (n : Int), rfl, .int (j : Int), rfl, n, j, rfl, by omega, n1, fac (n - j), lots n j, rfl, fac_pos _, by omega, big_lt w3, _, _, rfl, rfl, divOk (b := 2) (by decide) (Nat.lt_of_lt_of_le (by decide : 2 < 2 ^ 3) (Nat.pow_le_pow_right (by decide) (by decide))), fun d nd => ⟨_, _, rfl, ?_⟩⟩
    · show [V.int ((n : Int) - (j : Int))] = _
      rw [show (n : Int) - (j : Int) = ((n - j : Nat) : Int) by omega]
    have hF : ((fac (n - j) ^ lots n j : Nat) : Int) / 2 = ((freeN n j / 2 : Nat) : Int) := by
      rw [Int.natCast_ediv]
      rfl
    have er : ((n : Int) + 1 - ((j : Int) + 1)).toNat = n - j := by omega
    refine ⟨.int (j : Int), rfl, _, _, rfl, rfl, .int (n : Int), rfl, _, _, rfl, rfl, (j : Int) + 1, (n : Int) + 1, rfl, ⟨by omega, by omega, by omega, by omega⟩, for_it (walk_range (lo := (j : Int) + 1) (n := ((n : Int) + 1 - ((j : Int) + 1)).toNat)) (fun i σ G2 => ∃ (y9 : Option V) (kvs : List (Key × V)), σ = [some (.int (n : Int)), some (.ref a), some (.int (j : Int)), some (.int 0), some (.ref L), y5, none, some (.int ((freeN n j / 2 : Nat) : Int)), some (.ref d), y9, none] ∧ G2 d = some (.dK kvs) ∧ kvs.length ≤ i ∧ (∀ t, t < i → valV kvs (.inl ((j : Int) + 1 + (t : Nat))) = some (.int ((waysN n (j + 1 + t) : Nat) : Int))) ∧ ∀ b o, G b = some o → G2 b = some o)
      ⟨none, [], ?_, upd_same, Nat.le_refl _, fun t ht => absurd ht (Nat.not_lt_zero t), same_new nd⟩ (fun _ _ _ _ _ => trivial) ?_ ?_⟩
    · rw [← hF]
      rfl
    · rintro i x σ _ G2 hi ⟨y9, kvs, rfl, hd, hkl, hkv, sg⟩ ⟨rfl, rfl⟩
      have hi2 : i < n - j := by omega
      obtain ⟨_, w2, w4⟩ := ways_lt n (by omega) (j + 1 + i) (by omega) (by omega)
      obtain ⟨m1, m2⟩ := lots_le n (by omega) (j + 1 + i) (by omega) (by omega)
      have fl : fac (lots n (j + 1 + i)) < 2 ^ 200000 := Nat.lt_trans (fac_lt (by omega)) (Nat.pow_lt_pow_right (by decide) (by decide))
      have e2 : [V.int (n : Int), V.int ((j : Int) + 1 + ((i : Nat) : Int))] = [V.int (n : Int), V.int ((j + 1 + i : Nat) : Int)] := by
        rw [show (j : Int) + 1 + ((i : Nat) : Int) = ((j + 1 + i : Nat) : Int) by omega]
      refine ⟨.int (n : Int), rfl, .int ((j : Int) + 1 + (i : Nat)), rfl, n, j + 1 + i, e2, by omega, n1, lots n (j + 1 + i), rfl, by omega, .int (n : Int), rfl, .int ((j : Int) + 1 + (i : Nat)), rfl, _, _, rfl, rfl, n - (j + 1 + i), ?_, by omega, .int (n : Int), rfl, .int ((j : Int) + 1 + (i : Nat)), rfl, n, j + 1 + i, e2, by omega, n1, fac (n - (j + 1 + i)), lots n (j + 1 + i), rfl, fac_pos _, by omega, big_lt w4, _, _, rfl, rfl, mulOk fl (big_lt w4), .ref d, rfl, .int ((j : Int) + 1 + (i : Nat)), rfl, d, _, rfl, DPut.k (k := .inl ((j : Int) + 1 + (i : Nat))) hd (szl (by omega)), some (.int ((j : Int) + 1 + (i : Nat))), _, rfl, upd_same, Nat.le_trans (putK_len _ _ _) (by omega), fun t ht => ?_, fun b o hb => ?_⟩
      · show [V.int ((n : Int) - ((j : Int) + 1 + ((i : Nat) : Int)))] = _
        rw [show (n : Int) - ((j : Int) + 1 + ((i : Nat) : Int)) = ((n - (j + 1 + i) : Nat) : Int) by omega]
      · rw [valV_put]
        by_cases c : t = i
        · subst c
          rw [if_pos rfl, show waysN n (j + 1 + t) = fac (lots n (j + 1 + t)) * fac (n - (j + 1 + t)) ^ lots n (j + 1 + t) from rfl, Int.natCast_mul (fac (lots n (j + 1 + t)))]
        · rw [if_neg (fun z => c (by have := Sum.inl.inj z; omega))]
          exact hkv t (by omega)
      · rw [upd_ne (ne_of_none hb nd)]
        exact sg _ _ hb
    rintro σ G3 ⟨y9, kvs, rfl, hd, hkl, hkv, sg⟩
    rw [er] at hkv
    have hw : ∀ i, i < n - j → 1 ≤ fct n (j + 1 + i) := fun i hi => fct_pos n (by omega) (j + 1 + i) (by omega) n0 (by omega) (by omega)
    have h1l := oneRow_lt (n := n) (j := j) (by omega) n0 hj hjn
    refine ⟨.ref L, rfl, L, rfl, ⟨_, SqL.of (sg _ _ hL)⟩, for_it (walk_list (K := K) (a := L) (xs := xs)) (fun i σ G4 => ∃ y6 y9 y10 : Option V, σ = [some (.int (n : Int)), some (.ref a), some (.int (j : Int)), some (.int ((i * oneRow n j : Nat) : Int)), some (.ref L), y5, y6, some (.int ((freeN n j / 2 : Nat) : Int)), some (.ref d), y9, y10] ∧ Same G3 G4)
      ⟨none, y9, none, ?_, Same.refl _⟩ (fun _ _ _ _ ⟨_, _, _, _, s⟩ => SqL.of (s _ _ (sg _ _ hL))) ?_ ?_⟩
    · rw [Nat.zero_mul]
      rfl
    · rintro i x σ _ G4 hi ⟨y6, y9, y10, rfl, s34⟩ ⟨rfl, hx⟩
      obtain ⟨R, e2, hR⟩ := dqa_row ((qx.up sg).up s34) hx
      obtain ⟨g1, g2, g3⟩ := hg R (List.mem_of_getElem? e2)
      refine ⟨_, rfl, ?_⟩
      dsimp only [tNext]
      refine ⟨.int (j : Int), rfl, _, _, rfl, rfl, .int (n : Int), rfl, _, _, rfl, rfl, (j : Int) + 1, (n : Int) + 1, rfl, ⟨by omega, by omega, by omega, by omega⟩, for_it (walk_range (lo := (j : Int) + 1) (n := ((n : Int) + 1 - ((j : Int) + 1)).toNat)) (fun t σ G5 => ∃ y9 : Option V, σ = [some (.int (n : Int)), some (.ref a), some (.int (j : Int)), some (.int ((i * oneRow n j : Nat) : Int)), some (.ref L), y5, some x, some (.int ((freeN n j / 2 : Nat) : Int)), some (.ref d), y9, some (.int ((freeN n j / 2 * prodN (fct n) (j + 1) t : Nat) : Int))] ∧ Same G4 G5)
        ⟨y9, ?_, Same.refl _⟩ (fun _ _ _ _ _ => trivial) ?_ ?_⟩
      · show _ = [some (V.int (n : Int)), some (.ref a), some (.int (j : Int)), some (.int ((i * oneRow n j : Nat) : Int)), some (.ref L), y5, some x, some (.int ((freeN n j / 2 : Nat) : Int)), some (.ref d), y9, some (.int ((freeN n j / 2 * 1 : Nat) : Int))]
        rw [Nat.mul_one]
        rfl
      · rintro t z σ _ G5 ht ⟨y9, rfl, s45⟩ ⟨rfl, rfl⟩
        have ht2 : t < n - j := by omega
        have hd5 := s45 _ _ (s34 _ _ hd)
        obtain ⟨rx, ps, rfl, hrx, qp⟩ := row_inv (hR.up s45)
        have pl := pairs_len qp
        have hm : j + 1 + t < ps.length := by omega
        have hge := List.getElem?_eq_getElem hm
        obtain ⟨pr, hp, b, hb, kb⟩ := pairs_get qp hge
        have hat := atR_some hp
        have gt : DGet G5 d (.int ((j : Int) + 1 + (t : Nat))) (some (.int ((waysN n (j + 1 + t) : Nat) : Int))) := by
          have := DGet.k (k := .inl ((j : Int) + 1 + (t : Nat))) hd5
          rw [hkv t ht2] at this
          exact this
        have ec : ((j : Int) + 1 + ((t : Nat) : Int)) = ((j + 1 + t : Nat) : Int) := by omega
        obtain ⟨_, w2, _⟩ := ways_lt n (by omega) (j + 1 + t) (by omega) (by omega)
        have hle := prodN_le (f := fct n) (a := j + 1) (k := n - j) hw (i := t) (by omega)
        have b1 : freeN n j / 2 * prodN (fct n) (j + 1) t < 10 ^ 4300 := Nat.lt_of_le_of_lt (Nat.mul_le_mul_left _ hle) h1l
        refine ⟨_, rfl, .int (n : Int), rfl, .int ((j : Int) + 1 + (t : Nat)), rfl, .ref d, rfl, .int ((j : Int) + 1 + (t : Nat)), rfl, d, _, rfl, gt, .ref rx, rfl, .int ((j : Int) + 1 + (t : Nat)), rfl, rx, ps, _, ps[j + 1 + t], rfl, rfl, SqT.of hrx, by rw [ec]; exact atI_nat hge, n, j + 1 + t, ps[j + 1 + t], pr, ?_, ?_, n0, n1, by omega, fun e => ?_, fun e => ?_, fun G6 s56 => ⟨_, _, rfl, rfl, mulOk (big_lt b1) (big_lt (Nat.lt_of_le_of_lt (fct_le _ _) w2)), some (.int ((j : Int) + 1 + (t : Nat))), ?_, s45.trans s56⟩⟩
        · show [V.int (n : Int), V.int ((j : Int) + 1 + ((t : Nat) : Int)), _, _] = _
          rw [ec]
        · rw [hb]
          exact pair_at kb
        · rw [← hat, e, g2]
        · rw [← hat, e, g3]
        · rw [prodN_succ, ← Nat.mul_assoc, Int.natCast_mul _ (fct n (j + 1 + t))]
          rfl
      · rintro σ G5 ⟨y9, rfl, s45⟩
        rw [er]
        refine ⟨_, rfl, _, rfl, _, _, rfl, rfl, some x, y9, some (.int ((oneRow n j : Nat) : Int)), ?_, s34.trans s45⟩
        rw [Nat.succ_mul, Int.natCast_add]
        rfl
    rintro σ G4 ⟨y6, y9, y10, rfl, s34⟩
    rw [xl, hl]
    exact ⟨_, rfl, q _ (sm.trans (Same.trans sg s34))⟩
end
end Kr
namespace Kr
open PySem PySem.Spec PyProof.Rows L2
section
variable {P : Program} {w : World} {K : PySem.W.Frag} {mg : Str → Option Value} {base : Heap}
abbrev n_lPlain : List Str := ["n", "kinds", "own", "k", "found", "m", "lots"]
theorem sc_lPlain : FnScope n_lPlain ["n", "kinds"] (defScope sLPlain) := ⟨rfl, rfl, rfl, by decide +kernel, rfl, by decide +kernel, by decide +kernel⟩
theorem o_lPlain (D0 : Df K mg "_law_plain" sLPlain ["n", "kinds"]) (B : Bi mg) (lp : Ok P w K mg base 1 "_law_product" ["n"] spFacN) (lo : Ok P w K mg base 2 "_law_lots" ["n", "m"] spLotN) (pw : Ok P w K mg base 1 "_law_power" ["base", "many"] spPowN) : Ok P w K mg base 3 "_law_plain" ["n", "kinds"] spTc := by
  refine D0.ok fun f fd F => F.ok sc_lPlain (fun vs H Q E h => ?_) (fun cdv A outer s H vs Q E hr h => ?_)
  · obtain ⟨_, _, _, rfl, _⟩ := h
    rfl
  · obtain ⟨n, a, ks, rfl, ha, n0, n1, hk, q⟩ := h
    have hr_lp := hr.mono (show 1 ≤ 2 by omega)
    have hr_lo := hr.mono (show 2 ≤ 2 by omega)
    have hr_pw := hr.mono (show 1 ≤ 2 by omega)
    have hu : (cxOf CX0 P w K mg base n_lPlain "_law_plain" (defScope sLPlain) f cdv A outer s H E).A.units + 64 < cLine := hr.units
    have hu1 := hu_of hr
    refine ⟨_, pss_cons (ps_setLc (i := 2) (own := [("k", 3)]) (g := gName 3) rfl sc_lPlain.nd rfl rfl (sw_true rfl rfl rfl (by decide +kernel)) (pi_tup (pv 1)) (blkOk_by (own := [("k", 3)]) (N := n_lPlain) (sc := defScope sLPlain) (by decide +kernel)) (fun _ _ _ _ _ => pg_name (i := 3) sc_lPlain.nd rfl (.inl rfl)) (fun _ _ _ _ _ => pts_one (pt_cmpR op_gt (pv 3) pe_int (nomark _))) (fun _ _ _ _ _ => (pv 3)))
      (pss_cons (ps_set (i := 4) sc_lPlain.nd rfl (.inl rfl) (pe_ifExp (pt_cmpR (r := rIn K false) op_in_seq pe_int (pv 1) rfl) (pe_fn lp hr_lp (by rfl) (pa_cons (pv 0) pa_nil)) pe_int))
      (pss_cons (ps_if (pt_cmpR (op_eqN hu) (pv 2) (pe_lst pa_nil) (nomark _)) (pss_one (ps_ret (pv 4))) pss_nil)
      (pss_cons (ps_set (i := 4) sc_lPlain.nd rfl (.inl rfl) (pe_op op_fdivW (pe_op op_mulW (pe_op op_mulW (pv 4) (pe_fn pw hr_pw (by rfl) (pa_cons (pe_fn lp hr_lp (by rfl) (pa_cons (pe_op op_sub (pv 0) (pe_ix ix_list (pv 2) pe_int (fun _ _ => rfl))) pa_nil)) (pa_cons (pe_fn lo hr_lo (by rfl) (pa_cons (pv 0) (pa_cons (pe_ix ix_list (pv 2) pe_int (fun _ _ => rfl)) pa_nil))) pa_nil)))) (pe_fn lp hr_lp (by rfl) (pa_cons (pv 0) pa_nil))) pe_int))
      (pss_cons (ps_for PassesOwn.never rfl (pi_range2 (by rfl) B.range (pa_cons (pe_op op_add (pe_ix ix_list (pv 2) pe_int (fun _ _ => rfl)) pe_int) (pa_cons (pe_op op_sub (pv 0) pe_int) pa_nil))) (pg_name (i := 5) sc_lPlain.nd rfl (.inl rfl))
        (pss_cons (ps_set (i := 6) sc_lPlain.nd rfl (.inl rfl) (pe_fn lo hr_lo (by rfl) (pa_cons (pv 0) (pa_cons (pv 5) pa_nil))))
        (pss_one (ps_set (i := 4) sc_lPlain.nd rfl (.inl rfl) (pe_op op_mulW (pv 4) (pe_op op_fdivW (pe_op op_mulW (pe_fn lp hr_lp (by rfl) (pa_cons (pv 6) pa_nil)) (pe_fn pw hr_pw (by rfl) (pa_cons (pe_fn lp hr_lp (by rfl) (pa_cons (pe_op op_sub (pv 0) (pv 5)) pa_nil)) (pa_cons (pv 6) pa_nil)))) pe_int))))))
      (pss_one (ps_ret (pe_op op_mulW (pv 4) (pe_op op_shl pe_int (pe_op op_sub (pe_callB call_len_seq (by rfl) B.len boot_len (pa_cons (pv 2) pa_nil)) pe_int))))))))), ?_⟩
    have hlen := hk.len (by omega)
    have hf400 : fac n < 10 ^ 4300 := Nat.lt_trans (fac_lt (by omega)) (by decide +kernel)
    have bigM : ∀ {x y : Nat}, x < 2 ^ 60000 → y < 2 ^ 60000 → x * y < 2 ^ 120000 := fun {x y} hx hy => Nat.lt_of_lt_of_le (Nat.mul_lt_mul_of_lt_of_le hx (Nat.le_of_lt hy) (by decide +kernel)) (by decide +kernel)
    have up1 : (10 : Nat) ^ 4300 < 2 ^ 60000 := by decide +kernel
    have up2 : (2 : Nat) ^ 120000 < 2 ^ 200000 := Nat.pow_lt_pow_right (by decide) (by decide)
    obtain ⟨z, hz⟩ : ∃ z : Nat, z = if 0 ∈ ks then fac n else 1 := ⟨_, rfl⟩
    have hzl : z < 2 ^ 60 := by
      have := Nat.lt_of_le_of_lt (fac_mono n1) (show fac 10 < 2 ^ 60 by decide +kernel)
      rw [hz]
      split <;> omega
    have key : ∀ (σ : L2.St) (G : Hp) (R : VK), σ[0]? = some (some (.int (n : Int))) → R (.int (z : Int)) G → (if decide (0 ∈ ks) = true then tCall spFacN [] E0 (tCons (tVar 0) tNil) σ G R else tC (.int 1) σ G R) := fun σ G R e h => by
      refine ite2 (fun h0 => ?_) (fun h0 => ?_)
      · rw [if_pos (of_decide_eq_true h0)] at hz
        rw [hz] at h
        exact ⟨.int (n : Int), e, n, rfl, by omega, h⟩
      · rw [if_neg (fun z => h0 (decide_eq_true z))] at hz
        rw [hz] at h
        exact h
    refine ⟨.ref a, rfl, a, rfl, ⟨_, SqT.of ha⟩, fun D nD => ?_⟩
    refine lc_filN (fun k => decide (0 < k)) ha nD (by omega) (fun k G Z hm sm zt zf => ?_) (fun G sm hD => ?_)
    · refine ⟨rfl, .int (k : Int), rfl, _, _, rfl, rfl, _, rfl, ite2 (fun c => ⟨_, rfl, zt (decide_eq_true ?_)⟩) (fun c => zf (decide_eq_false fun z => c (decide_eq_true ?_)))⟩
      · have : (0 : Int) < k := of_decide_eq_true c
        omega
      · show (0 : Int) < k
        omega
    refine ⟨.ref a, rfl, a, _, rfl, .inr (SqT.of (sm _ _ ha)), rfl, flat_nv ks, _, rfl, ?_⟩
    rw [show inV (.int 0) (nv ks) = decide (0 ∈ ks) from inV_nv 0 ks]
    refine key _ _ _ rfl ?_
    refine ⟨.ref D, rfl, by show 0 ≤ sizeLine; decide, fun c nc => ?_⟩
    have sc := same_new (o := .lst []) nc
    refine ⟨D, c, _, rfl, rfl, sc _ _ hD, upd_same, _, rfl, ?_⟩
    have hD2 := sc _ _ hD
    have s2 := sm.trans sc
    generalize upd G c (.lst []) = G2 at hD2 s2
    have et : tcN n ks = (match ks.filter fun k => decide (0 < k) with
      | [] => 1
      | j :: r => keyed n j r.length) * (if 0 ∈ ks then fac n else 1) := rfl
    rw [← hz] at et
    have q2 := q G2 s2
    rw [et] at q2
    cases e : ks.filter fun k => decide (0 < k) with
    | nil =>
      rw [e, Nat.one_mul] at q2
      exact iteT ⟨_, rfl, q2⟩
    | cons j r =>
      obtain ⟨k1, k2, k3⟩ := hk.sub e
      rw [e] at q2 hD2
      have hP : plainV n j r.length z = keyed n j r.length * z := by
        by_cases h0 : 0 ∈ ks
        · rw [if_pos h0] at hz
          rw [hz]
          exact plain_fac (by omega) n0 k2 k3
        · rw [if_neg h0] at hz
          rw [hz, Nat.mul_one]
          exact plain_one (by omega) n0 k2 k3
      have hzf : z ≤ fac n := by
        rw [hz]
        split
        · exact Nat.le_refl _
        · exact fac_pos n
      have hPl : plainV n j r.length z < 10 ^ 4300 := by
        rw [hP]
        exact Nat.lt_of_le_of_lt (Nat.mul_le_mul_left _ hzf) (keyed_lt (by omega) n0 k2 k3)
      replace q2 : Q (.int ((plainV n j r.length z : Nat) : Int)) G2 := by
        rw [hP]
        exact q2
      obtain ⟨A, hA⟩ : ∃ A : Nat, A = z * freeN n j * fac n / 2 := ⟨_, rfl⟩
      have hpv : plainV n j r.length z = A * prodN (fun m => waysN n m / 4) (j + 1) (n - 2 - j) * 2 ^ r.length := by rw [hA]; rfl
      rw [hpv] at hPl q2
      have hAB : A * prodN (fun m => waysN n m / 4) (j + 1) (n - 2 - j) < 10 ^ 4300 := Nat.lt_of_le_of_lt (Nat.le_mul_of_pos_right _ (Nat.pow_pos (by decide))) hPl
      have hw4 : ∀ i, i < n - 2 - j → 1 ≤ waysN n (j + 1 + i) / 4 := fun i hi => by
        have := ways4 n (by omega) (j + 1 + i) (by omega) n0 (by omega) (by omega)
        omega
      obtain ⟨l1, l2⟩ := lots_le n (by omega) j (by omega) (by omega)
      obtain ⟨_, _, w3⟩ := ways_lt n (by omega) j (by omega) (by omega)
      have ej : ((n : Int) - (j : Int)) = ((n - j : Nat) : Int) := by omega
      refine iteF ?_
      dsimp only [tNext]
      have hix : atI (nv (j :: r)) 0 = some (.int (j : Int)) := atI_nat (j := 0) (xs := nv (j :: r)) (v := .int (j : Int)) rfl
      have z1 : z * freeN n j < 2 ^ 120000 := bigM (Nat.lt_trans hzl (Nat.pow_lt_pow_right (by decide) (by decide))) (Nat.lt_trans w3 up1)
      refine ⟨_, rfl, .int (n : Int), rfl, .ref D, rfl, D, _, 0, .int (j : Int), rfl, rfl, SqL.of hD2, hix, _, _, rfl, rfl, n - j, ?_, by omega, .int (n : Int), rfl, .ref D, rfl, D, _, 0, .int (j : Int), rfl, rfl, SqL.of hD2, hix, n, j, rfl, by omega, n1, fac (n - j), lots n j, rfl, fac_pos _, by omega, big_lt w3, _, _, rfl, rfl, mulOk (Nat.lt_trans hzl (Nat.pow_lt_pow_right (by decide) (by decide))) (big_lt w3), .int (n : Int), rfl, n, rfl, by omega, _, _, rfl, rfl, ?_, _, _, rfl, rfl, ?_, ?_⟩
      · show [V.int ((n : Int) - (j : Int))] = _
        rw [ej]
      · rw [← Int.natCast_mul]
        exact mulOk (Nat.lt_trans z1 up2) (big_lt hf400)
      · rw [← Int.natCast_mul, ← Int.natCast_mul]
        exact divOk (b := 2) (by decide) (Nat.lt_of_lt_of_le (by decide : 2 < 2 ^ 3) (Nat.pow_le_pow_right (by decide) (by decide)))
      have eA : (((z : Nat) : Int) * ((fac (n - j) ^ lots n j : Nat) : Int) * ((fac n : Nat) : Int)) / 2 = ((A : Nat) : Int) := by
        rw [hA, Int.natCast_ediv, Int.natCast_mul, Int.natCast_mul]
        rfl
      refine ⟨.ref D, rfl, D, _, 0, .int (j : Int), rfl, rfl, SqL.of hD2, hix, _, _, rfl, rfl, .int (n : Int), rfl, _, _, rfl, rfl, (j : Int) + 1, (n : Int) - 1, rfl, ⟨by omega, by omega, by omega, by omega⟩, for_it (walk_range (lo := (j : Int) + 1) (n := ((n : Int) - 1 - ((j : Int) + 1)).toNat)) (fun i σ G => ∃ y3 y5 y6 : Option V, σ = [some (.int (n : Int)), some (.ref a), some (.ref D), y3, some (.int ((A * prodN (fun m => waysN n m / 4) (j + 1) i : Nat) : Int)), y5, y6] ∧ G = G2) ⟨none, none, none, ?_, rfl⟩ (fun _ _ _ _ _ => trivial) ?_ ?_⟩
      · show _ = [some (V.int (n : Int)), some (.ref a), some (.ref D), none, some (.int ((A * 1 : Nat) : Int)), none, none]
        rw [Nat.mul_one, ← eA]
        rfl
      · rintro i x σ _ G hi ⟨y3, y5, y6, rfl, rfl⟩ ⟨rfl, rfl⟩
        have hi2 : i < n - 2 - j := by omega
        have ecast : ((j : Int) + 1 + ((i : Nat) : Int)) = ((j + 1 + i : Nat) : Int) := by omega
        have hle := prodN_le (f := fun m => waysN n m / 4) (a := j + 1) (k := n - 2 - j) hw4 (i := i) (by omega)
        have b1 : A * prodN (fun m => waysN n m / 4) (j + 1) i < 10 ^ 4300 := Nat.lt_of_le_of_lt (Nat.mul_le_mul_left _ hle) hAB
        obtain ⟨_, w2, w4⟩ := ways_lt n (by omega) (j + 1 + i) (by omega) (by omega)
        obtain ⟨m1, m2⟩ := lots_le n (by omega) (j + 1 + i) (by omega) (by omega)
        have fl : fac (lots n (j + 1 + i)) < 2 ^ 200000 := Nat.lt_trans (fac_lt (by omega)) (Nat.pow_lt_pow_right (by decide) (by decide))
        refine ⟨.int (n : Int), rfl, .int ((j : Int) + 1 + (i : Nat)), rfl, n, j + 1 + i, ?_, by omega, n1, ?_⟩
        · show [V.int (n : Int), V.int ((j : Int) + 1 + ((i : Nat) : Int))] = _
          rw [ecast]
        dsimp only [tNext]
        refine ⟨_, rfl, .int ((lots n (j + 1 + i) : Nat) : Int), rfl, lots n (j + 1 + i), rfl, by omega, .int (n : Int), rfl, .int ((j : Int) + 1 + (i : Nat)), rfl, _, _, rfl, rfl, n - (j + 1 + i), ?_, by omega, .int ((lots n (j + 1 + i) : Nat) : Int), rfl, fac (n - (j + 1 + i)), lots n (j + 1 + i), rfl, fac_pos _, by omega, big_lt w4, _, _, rfl, rfl, mulOk fl (big_lt w4), _, _, rfl, rfl, ?_, _, _, rfl, rfl, ?_, ?_⟩
        · show [V.int ((n : Int) - ((j : Int) + 1 + ((i : Nat) : Int)))] = _
          rw [show (n : Int) - ((j : Int) + 1 + ((i : Nat) : Int)) = ((n - (j + 1 + i) : Nat) : Int) by omega]
        · rw [← Int.natCast_mul]
          exact divOk (b := 4) (by decide) (Nat.lt_of_lt_of_le (by decide : 4 < 2 ^ 3) (Nat.pow_le_pow_right (by decide) (by decide)))
        · rw [← Int.natCast_mul]
          show CMulW _ (((waysN n (j + 1 + i) : Nat) : Int) / ((4 : Nat) : Int))
          rw [← Int.natCast_ediv]
          exact mulOk (big_lt b1) (big_lt (Nat.lt_of_le_of_lt (Nat.div_le_self _ _) w2))
        · refine ⟨y3, some (.int ((j : Int) + 1 + (i : Nat))), some (.int ((lots n (j + 1 + i) : Nat) : Int)), ?_, rfl⟩
          rw [prodN_succ, ← Nat.mul_assoc, Int.natCast_mul _ (waysN n (j + 1 + i) / 4), Int.natCast_ediv, show waysN n (j + 1 + i) = fac (lots n (j + 1 + i)) * fac (n - (j + 1 + i)) ^ lots n (j + 1 + i) from rfl, Int.natCast_mul (fac (lots n (j + 1 + i)))]
          rfl
      · rintro σ G ⟨y3, y5, y6, rfl, rfl⟩
        rw [show ((n : Int) - 1 - ((j : Int) + 1)).toNat = n - 2 - j by omega]
        have el : (((nv (j :: r)).length : Nat) : Int) - 1 = ((r.length : Nat) : Int) := by
          rw [List.length_map, List.length_cons]
          omega
        have e2 : (1 : Int) * 2 ^ ((((nv (j :: r)).length : Nat) : Int) - 1).toNat = ((2 ^ r.length : Nat) : Int) := by
          rw [el, Int.toNat_natCast, Int.one_mul, Int.natCast_pow]
          rfl
        refine ⟨_, rfl, .ref D, rfl, D, _, rfl, .inl (SqL.of hD2), _, _, rfl, rfl, _, _, rfl, rfl, ?_, _, _, rfl, rfl, ?_, ?_⟩
        · rw [el]
          exact ⟨by omega, by omega, by decide⟩
        · rw [e2]
          exact mulOk (big_lt hAB) (Nat.lt_of_lt_of_le (Nat.pow_lt_pow_right (by decide) (show r.length < 20 by omega)) (Nat.pow_le_pow_right (by decide) (by decide)))
        · rw [e2]
          show Q (.int (((A * prodN (fun m => waysN n m / 4) (j + 1) (n - 2 - j) : Nat) : Int) * ((2 ^ r.length : Nat) : Int))) G
          rw [← Int.natCast_mul]
          exact q2
end
end Kr
namespace Kr
open PySem PySem.Spec PyProof.Rows L2
section
variable {P : Program} {w : World} {K : PySem.W.Frag} {mg : Str → Option Value} {base : Heap}
abbrev n_lAll : List Str := ["n", "found", "m", "lots"]
theorem sc_lAll : FnScope n_lAll ["n"] (defScope sLAll) := ⟨rfl, rfl, rfl, by decide +kernel, rfl, by decide +kernel, by decide +kernel⟩
theorem o_lAll (D0 : Df K mg "_law_all" sLAll ["n"]) (B : Bi mg) (lp : Ok P w K mg base 1 "_law_product" ["n"] spFacN) (lo : Ok P w K mg base 2 "_law_lots" ["n", "m"] spLotN) (pw : Ok P w K mg base 1 "_law_power" ["base", "many"] spPowN) : Ok P w K mg base 3 "_law_all" ["n"] spAllC := by
  refine D0.ok fun f fd F => F.ok sc_lAll (fun vs H Q E h => ?_) (fun cdv A outer s H vs Q E hr h => ?_)
  · obtain ⟨_, rfl, _⟩ := h
    rfl
  · obtain ⟨n, rfl, hn, q⟩ := h
    have hr_lp := hr.mono (show 1 ≤ 2 by omega)
    have hr_lo := hr.mono (show 2 ≤ 2 by omega)
    have hr_pw := hr.mono (show 1 ≤ 2 by omega)
    have hu : (cxOf CX0 P w K mg base n_lAll "_law_all" (defScope sLAll) f cdv A outer s H E).A.units + 64 < cLine := hr.units
    have hu1 := hu_of hr
    refine ⟨_, pss_cons (ps_set (i := 1) sc_lAll.nd rfl (.inl rfl) pe_int)
      (pss_cons (ps_for PassesOwn.never rfl (pi_range1 (by rfl) B.range (pa_cons (pe_op op_add (pv 0) pe_int) pa_nil)) (pg_name (i := 2) sc_lAll.nd rfl (.inl rfl))
        (pss_cons (ps_set (i := 3) sc_lAll.nd rfl (.inl rfl) (pe_fn lo hr_lo (by rfl) (pa_cons (pv 0) (pa_cons (pv 2) pa_nil))))
        (pss_one (ps_set (i := 1) sc_lAll.nd rfl (.inl rfl) (pe_op op_mulW (pe_op op_mulW (pv 1) (pe_fn lp hr_lp (by rfl) (pa_cons (pv 3) pa_nil))) (pe_fn pw hr_pw (by rfl) (pa_cons (pe_fn lp hr_lp (by rfl) (pa_cons (pe_op op_sub (pv 0) (pv 2)) pa_nil)) (pa_cons (pv 3) pa_nil))))))))
      (pss_one (ps_ret (pv 1)))), ?_⟩
    have hw : ∀ i, i < n + 1 → 1 ≤ waysN n (0 + i) := fun i hi => (ways_lt n (by omega) (0 + i) (by omega) (by omega)).1
    have e0 : ((n : Int) + 1).toNat = n + 1 := by omega
    refine ⟨.int (n : Int), rfl, _, _, rfl, rfl, (n : Int) + 1, rfl, by omega, by omega, for_it (walk_rg (n := ((n : Int) + 1).toNat)) (fun i σ G => ∃ y2 y3 : Option V, σ = [some (.int (n : Int)), some (.int ((prodN (waysN n) 0 i : Nat) : Int)), y2, y3] ∧ G = H) ⟨none, none, rfl, rfl⟩ (fun _ _ _ _ _ => trivial) ?_ ?_⟩
    · rintro i x σ _ G hi ⟨y2, y3, rfl, rfl⟩ ⟨rfl, rfl⟩
      have hi2 : i ≤ n := by omega
      obtain ⟨l1, l2⟩ := lots_le n (by omega) i (by omega) hi2
      obtain ⟨w1, w2, w3⟩ := ways_lt n (by omega) i (by omega) hi2
      have hle := prodN_le (f := waysN n) (a := 0) (k := n + 1) hw (i := i) (by omega)
      have hle2 := prodN_le (f := waysN n) (a := 0) (k := n + 1) hw (i := i + 1) (by omega)
      have ha := all_lt n (by omega)
      have f1 : 1 ≤ freeN n i := Nat.pow_pos (Nat.lt_of_lt_of_le Nat.zero_lt_one (fac_pos _))
      have es : prodN (waysN n) 0 (i + 1) = prodN (waysN n) 0 i * fac (lots n i) * freeN n i := by
        rw [prodN_succ, Nat.zero_add, Nat.mul_assoc]
        rfl
      have hm : prodN (waysN n) 0 i * fac (lots n i) ≤ prodN (waysN n) 0 (i + 1) := by
        rw [es]
        exact Nat.le_mul_of_pos_right _ f1
      refine ⟨.int (n : Int), rfl, .int (i : Nat), rfl, n, i, rfl, hi2, hn, ?_⟩
      dsimp only [tNext]
      refine ⟨_, rfl, .int ((lots n i : Nat) : Int), rfl, lots n i, rfl, by omega, _, _, rfl, rfl, mulOk (big_lt (Nat.lt_of_le_of_lt hle ha)) (Nat.lt_trans (fac_lt (by omega)) (Nat.pow_lt_pow_right (by decide) (by decide))), .int (n : Int), rfl, .int (i : Nat), rfl, _, _, rfl, rfl, n - i, ?_, by omega, .int ((lots n i : Nat) : Int), rfl, fac (n - i), lots n i, rfl, fac_pos _, by omega, big_lt w3, _, _, rfl, rfl, ?_, some (.int (i : Nat)), some (.int ((lots n i : Nat) : Int)), ?_, rfl⟩
      · show [V.int (((n : Nat) : Int) - ((i : Nat) : Int))] = _
        rw [show ((n : Nat) : Int) - ((i : Nat) : Int) = ((n - i : Nat) : Int) by omega]
      · rw [← Int.natCast_mul]
        exact mulOk (big_lt (Nat.lt_of_le_of_lt (Nat.le_trans hm hle2) ha)) (big_lt w3)
      · rw [es, Int.natCast_mul _ (freeN n i), Int.natCast_mul]
        rfl
    · rintro σ G ⟨y2, y3, rfl, rfl⟩
      rw [e0]
      exact ⟨_, rfl, q _ (Same.refl _)⟩
end
end Kr
namespace Kr
open PySem PySem.Spec PyProof.Rows L2
/-! ### the head of a law that shows numbers of thousands of figures -/
theorem law_callN {P : Program} {w : World} {K : PySem.W.Frag} {mg mb : Str → Option Value} {k : Nat} {fa a : Addr} {fd : FuncData} {x : Str} {sp : Sp} {s₁ : Shared} {vs : List Value} {ns : List Int}
    (KX : K.In s₁.heap) (hns : s₁.heap.Ns mainGlobals mg) (hb : s₁.heap.Ns builtinsNs mb) (hbb : ∀ x : Str, x ≠ "__name__" → mb x = bootBuiltins x) (hlim : s₁.heap.NoLimit) (hdig : s₁.heap.NoDigits) (hg : s₁.gens = #[])
    (ha : s₁.heap.get? a = some { cls := .type "list", data := .seq vs.toArray }) (hi : IntsAre vs ns) (hl : ns.length ≤ sizeLine) (hr : Room k callerA)
    (F : ∀ base : Heap, K.In base → base.Ns mainGlobals mg → base.NoDigits → FnG P w K mg base CX0 k fa fd [x] sp) (hbind : ∀ (s : Shared) (u : Value), BindsTo s fd ⟨[u], []⟩ [(x, u)])
    (hsp : ∀ H : Hp, Only H → SqL K H a (ns.map V.int) → sp [.ref a] H (fun v _ => v = .bl true) fun _ _ _ => False) :
    codeAny (model P w) callerA (.call (.ref fa) ⟨[.ref a], []⟩) (fun r s' => r = .ok (.ret (.bool true)) ∧ OldK s₁.heap s'.heap ∧ s'.os = s₁.os ∧ AllBare s'.gens) s₁ := by
  have rv := vals_ints hi
  have lenV := hi.length
  have step : ∀ H : Hp, Only H → SqL K H a (ns.map V.int) → HOk P w H s₁.heap → (∀ b, H b ≠ none → b = a) → (H a ≠ none → K.lookup a = none) →
      codeAny (model P w) callerA (.call (.ref fa) ⟨[.ref a], []⟩) (fun r s' => r = .ok (.ret (.bool true)) ∧ OldK s₁.heap s'.heap ∧ s'.os = s₁.os ∧ AllBare s'.gens) s₁ := by
    intro H hO hS hok only hK
    have free : ∀ {b : Addr} {o : Obj}, s₁.heap.get? b = some o → (b = a → H b = none) → (hidT s₁.heap H).get? b = some o := fun {b o} e n => hidT_get e (by
      cases q : H b with
      | none => rfl
      | some u => rw [n (only b (by rw [q]; simp))] at q; cases q)
    have ns2 : ∀ {b : Addr} {m : Str → Option Value}, s₁.heap.Ns b m → (hidT s₁.heap H).Ns b m := by
      rintro b m ⟨o, es, ep, e, d, r⟩
      refine ⟨o, es, ep, free e fun z => ?_, d, r⟩
      subst z
      rw [ha] at e
      cases e
      cases (show Data.seq vs.toArray _ = Data.dict es ep from d)
    have kin : K.In (hidT s₁.heap H) := fun b o e => free (KX b o e) fun z => by
      subst z
      cases q : H b with
      | none => rfl
      | some u => rw [hK (by rw [q]; simp)] at e; cases e
    have md : Mod K mg (hidT s₁.heap H) := ⟨kin, ns2 hns, ⟨mb, ns2 hb, hbb⟩, hlim.elim fun mc h => ⟨mc, ns2 h.1, h.2⟩⟩
    have e0 : Env0 P w K mg (hidT s₁.heap H) callerA [] s₁ H :=
      ⟨rfl, md, fun b o e => of_hidT e, Nat.le_of_eq (hidT_size _ _), trivial, fun b hb => absurd (show b ∈ ([] : List Addr) from hb) (by simp), hok, .of_eq hg⟩
    refine codeAny_mono ((F _ kin (ns2 hns) (hdig.elim fun mc h => ⟨mc, ns2 h.1, h.2⟩)).run callerA [] s₁ H ⟨[.ref a], []⟩ [.ref a] [.ref a] _ _ rfl hr e0 (hbind s₁ (.ref a)) (.cons rfl .nil) (hsp H hO hS)) fun r s' h => ?_
    cases r with
    | error e => exact h.elim
    | ok fl =>
      cases fl with
      | next => exact h.elim
      | brk => exact h.elim
      | cont => exact h.elim
      | ret u =>
        obtain ⟨v, H', os, bare, un, hok', r', q⟩ := h
        obtain rfl : v = .bl true := q
        obtain rfl : u = Value.bool true := r'
        refine ⟨rfl, OldK.of_keep fun b o e => ?_, os, bare⟩
        rcases hO b with z | ⟨ob, xs, z⟩
        · exact un.keep b o e z (fun q => absurd (show b ∈ ([] : List Addr) from q) (by simp)) (by simp)
        · have e1 := (hok b _ z).1
          have e2 := (hok' b _ (un.frzs b ob _ z)).1
          rw [e] at e1
          cases e1
          exact e2
  cases hk : K.lookup a with
  | some o =>
    have e := KX a o hk
    rw [ha] at e
    cases e
    exact step (fun _ => none) (fun _ => .inl rfl) (.inr ⟨_, vs.toArray, _, hk, rfl, rfl, rfl, by rw [List.size_toArray, lenV]; exact hl, by simpa using rv⟩) (fun b u z => nomatch (show (none : Option HO) = some u from z)) (fun b z => absurd rfl z) fun z => absurd rfl z
  | none =>
    refine step (fun b => if b = a then some (.frz { cls := .type "list", data := .seq vs.toArray } (.lst (ns.map V.int))) else none) (fun b => ?_) (.inl (.inr ⟨_, if_pos rfl⟩)) (fun b u z => ?_) (fun b z => ?_) fun _ => hk
    · by_cases q : b = a
      · exact .inr ⟨_, _, if_pos q⟩
      · exact .inl (if_neg q)
    · by_cases q : b = a
      · cases (if_pos q).symm.trans z
        subst q
        exact ⟨ha, by rw [List.length_map]; exact hl, vs, _, rv, ha⟩
      · cases (if_neg q).symm.trans z
    · by_cases q : b = a
      · exact q
      · exact absurd (if_neg q) z
theorem walkN {l : PySem.W.OpenLaw} {n k : Nat} {q : Program} {loose : List Str} {XP : (Str → Option Value) → Heap → Prop} {YP : World → Heap → Prop} {d : DefRec} {K : Params → PySem.W.Frag} {sp : PySem.W.Frag → Sp} {x : Str}
    (hn : l.most = some n) (hn2 : n ≤ sizeLine) (hdf : d.params.defaults = []) (hr : Room k callerA) (hY : ∀ (w : World) (h : Heap), YP w h → (K w.params).In h)
    (F : ∀ (w : World) (mg : Str → Option Value) (fa : Addr) (h : Heap), (K w.params).In h → h.Ns mainGlobals mg → mg d.name = some (.ref fa) →
      ∃ fd : FuncData, (∀ (s : Shared) (u : Value), BindsTo s fd ⟨[u], []⟩ [(x, u)]) ∧ ∀ base : Heap, (K w.params).In base → base.Ns mainGlobals mg → base.NoDigits → FnG l.prog w (K w.params) mg base CX0 k fa fd [x] (sp (K w.params)))
    (hsp : ∀ (K : PySem.W.Frag) (H : Hp) (a : Addr) (ns : List Int), ns.length ≤ n → Only H → SqL K H a (ns.map V.int) → sp K [.ref a] H (fun v _ => v = .bl true) fun _ _ _ => False) :
    PySem.W.WalkO q loose XP YP l.row.toRowW d [] (fun f vs => PySem.call f vs) := by
  refine Att.attach_call hn hdf fun w s₀ s₁ mg mb fa o pm cd doc a vs ns G Y ho hd hcd hmg hobj hints hlen hg => ?_
  obtain ⟨fd, hb, hF⟩ := F w mg fa _ (hY w _ Y) G.T.g hmg
  exact law_callN (hY w _ Y) G.T.g G.T.b G.T.builtins G.T.nolimit G.T.nodigits hg hobj hints (Nat.le_trans hlen hn2) hr hF hb fun H hO hS => hsp _ H a ns hlen hO hS
end Kr
namespace Kr
open PySem PySem.Spec PyProof.Rows L2
/-! ### what the head has written -/
theorem df_mk {K : PySem.W.Frag} {h : Heap} {mg : Str → Option Value} {x : Str} {st : Stmt} {f : Addr} {ps : List Str} {oc : Value} {od an : Option Addr} {osl : Array (Option Value)} {kV doc pm cdv ct : Value} (X : K.In h) (G : h.Ns mainGlobals mg)
    (a : PySem.W.nsIn K mainGlobals x = some (some (.ref f))) (l : K.lookup f = some ⟨oc, od, .func (PySem.W.fnOf x x (defArgs st) (defBody st) (defScope st) .none kV doc pm an cdv ct), osl⟩) (c : PySem.W.codeIn K cdv x = true) (k : PySem.W.keepIn K (.ref f) = true)
    (hb : ∀ (kV doc pm : Value) (an : Option Addr) (cdv ct : Value) (us : List Value), us.length = ps.length → bindArgs (PySem.W.fnOf x x (defArgs st) (defBody st) (defScope st) .none kV doc pm an cdv ct) ⟨us, []⟩ = pure (ps.zip us)) : Df K mg x st ps :=
  ⟨_, _, fun_mk l c k, (fun_mk l c k).binds hb, PySem.W.mg_of X G a⟩
theorem all_mk {l : PySem.W.OpenLaw} {w : World} {K : PySem.W.Frag} {h : Heap} {mg : Str → Option Value} {fa : Addr} (X : K.In h) (G : h.Ns mainGlobals mg) (hfa : mg "law" = some (.ref fa))
    {f1 : Addr} {oc1 kV1 dc1 pm1 cd1 ct1 : Value} {od1 an1 : Option Addr} {sl1 : Array (Option Value)}
    {f2 : Addr} {oc2 kV2 dc2 pm2 cd2 ct2 : Value} {od2 an2 : Option Addr} {sl2 : Array (Option Value)}
    {f3 : Addr} {oc3 kV3 dc3 pm3 cd3 ct3 : Value} {od3 an3 : Option Addr} {sl3 : Array (Option Value)}
    {f4 : Addr} {oc4 kV4 dc4 pm4 cd4 ct4 : Value} {od4 an4 : Option Addr} {sl4 : Array (Option Value)}
    {f5 : Addr} {oc5 kV5 dc5 pm5 cd5 ct5 : Value} {od5 an5 : Option Addr} {sl5 : Array (Option Value)}
    {f6 : Addr} {oc6 kV6 dc6 pm6 cd6 ct6 : Value} {od6 an6 : Option Addr} {sl6 : Array (Option Value)}
    {f7 : Addr} {oc7 kV7 dc7 pm7 cd7 ct7 : Value} {od7 an7 : Option Addr} {sl7 : Array (Option Value)}
    {f8 : Addr} {oc8 kV8 dc8 pm8 cd8 ct8 : Value} {od8 an8 : Option Addr} {sl8 : Array (Option Value)}
    {f9 : Addr} {oc9 kV9 dc9 pm9 cd9 ct9 : Value} {od9 an9 : Option Addr} {sl9 : Array (Option Value)}
    {f10 : Addr} {oc10 kV10 dc10 pm10 cd10 ct10 : Value} {od10 an10 : Option Addr} {sl10 : Array (Option Value)}
    {f11 : Addr} {oc11 kV11 dc11 pm11 cd11 ct11 : Value} {od11 an11 : Option Addr} {sl11 : Array (Option Value)}
    {f12 : Addr} {oc12 kV12 dc12 pm12 cd12 ct12 : Value} {od12 an12 : Option Addr} {sl12 : Array (Option Value)}
    {f13 : Addr} {oc13 kV13 dc13 pm13 cd13 ct13 : Value} {od13 an13 : Option Addr} {sl13 : Array (Option Value)}
    {f14 : Addr} {oc14 kV14 dc14 pm14 cd14 ct14 : Value} {od14 an14 : Option Addr} {sl14 : Array (Option Value)}
    {f15 : Addr} {oc15 kV15 dc15 pm15 cd15 ct15 : Value} {od15 an15 : Option Addr} {sl15 : Array (Option Value)}
    {f16 : Addr} {oc16 kV16 dc16 pm16 cd16 ct16 : Value} {od16 an16 : Option Addr} {sl16 : Array (Option Value)}
    {f17 : Addr} {oc17 kV17 dc17 pm17 cd17 ct17 : Value} {od17 an17 : Option Addr} {sl17 : Array (Option Value)}
    {f18 : Addr} {oc18 kV18 dc18 pm18 cd18 ct18 : Value} {od18 an18 : Option Addr} {sl18 : Array (Option Value)}
    {f19 : Addr} {oc19 kV19 dc19 pm19 cd19 ct19 : Value} {od19 an19 : Option Addr} {sl19 : Array (Option Value)}
    {f20 : Addr} {oc20 kV20 dc20 pm20 cd20 ct20 : Value} {od20 an20 : Option Addr} {sl20 : Array (Option Value)}
    (a1 : PySem.W.nsIn K mainGlobals "least_kind" = some (some (.ref f1))) (l1 : K.lookup f1 = some ⟨oc1, od1, .func (PySem.W.fnOf "least_kind" "least_kind" (defArgs sLeastKind) (defBody sLeastKind) (defScope sLeastKind) .none kV1 dc1 pm1 an1 cd1 ct1), sl1⟩) (c1 : PySem.W.codeIn K cd1 "least_kind" = true) (k1 : PySem.W.keepIn K (.ref f1) = true)
    (a2 : PySem.W.nsIn K mainGlobals "all_count" = some (some (.ref f2))) (l2 : K.lookup f2 = some ⟨oc2, od2, .func (PySem.W.fnOf "all_count" "all_count" (defArgs sAllCount) (defBody sAllCount) (defScope sAllCount) .none kV2 dc2 pm2 an2 cd2 ct2), sl2⟩) (c2 : PySem.W.codeIn K cd2 "all_count" = true) (k2 : PySem.W.keepIn K (.ref f2) = true)
    (a3 : PySem.W.nsIn K mainGlobals "_ways_of_size" = some (some (.ref f3))) (l3 : K.lookup f3 = some ⟨oc3, od3, .func (PySem.W.fnOf "_ways_of_size" "_ways_of_size" (defArgs sWaysOfSize) (defBody sWaysOfSize) (defScope sWaysOfSize) .none kV3 dc3 pm3 an3 cd3 ct3), sl3⟩) (c3 : PySem.W.codeIn K cd3 "_ways_of_size" = true) (k3 : PySem.W.keepIn K (.ref f3) = true)
    (a4 : PySem.W.nsIn K mainGlobals "product_of" = some (some (.ref f4))) (l4 : K.lookup f4 = some ⟨oc4, od4, .func (PySem.W.fnOf "product_of" "product_of" (defArgs sProductOf) (defBody sProductOf) (defScope sProductOf) .none kV4 dc4 pm4 an4 cd4 ct4), sl4⟩) (c4 : PySem.W.codeIn K cd4 "product_of" = true) (k4 : PySem.W.keepIn K (.ref f4) = true)
    (a5 : PySem.W.nsIn K mainGlobals "table_count" = some (some (.ref f5))) (l5 : K.lookup f5 = some ⟨oc5, od5, .func (PySem.W.fnOf "table_count" "table_count" (defArgs sTableCount) (defBody sTableCount) (defScope sTableCount) .none kV5 dc5 pm5 an5 cd5 ct5), sl5⟩) (c5 : PySem.W.codeIn K cd5 "table_count" = true) (k5 : PySem.W.keepIn K (.ref f5) = true)
    (a6 : PySem.W.nsIn K mainGlobals "_keyed_count" = some (some (.ref f6))) (l6 : K.lookup f6 = some ⟨oc6, od6, .func (PySem.W.fnOf "_keyed_count" "_keyed_count" (defArgs sKeyedCount) (defBody sKeyedCount) (defScope sKeyedCount) .none kV6 dc6 pm6 an6 cd6 ct6), sl6⟩) (c6 : PySem.W.codeIn K cd6 "_keyed_count" = true) (k6 : PySem.W.keepIn K (.ref f6) = true)
    (a7 : PySem.W.nsIn K mainGlobals "_law_deck" = some (some (.ref f7))) (l7 : K.lookup f7 = some ⟨oc7, od7, .func (PySem.W.fnOf "_law_deck" "_law_deck" (defArgs sDeck) (defBody sDeck) (defScope sDeck) .none kV7 dc7 pm7 an7 cd7 ct7), sl7⟩) (c7 : PySem.W.codeIn K cd7 "_law_deck" = true) (k7 : PySem.W.keepIn K (.ref f7) = true)
    (a8 : PySem.W.nsIn K mainGlobals "_law_draw" = some (some (.ref f8))) (l8 : K.lookup f8 = some ⟨oc8, od8, .func (PySem.W.fnOf "_law_draw" "_law_draw" (defArgs sDraw) (defBody sDraw) (defScope sDraw) .none kV8 dc8 pm8 an8 cd8 ct8), sl8⟩) (c8 : PySem.W.codeIn K cd8 "_law_draw" = true) (k8 : PySem.W.keepIn K (.ref f8) = true)
    (a9 : PySem.W.nsIn K mainGlobals "_law_pick" = some (some (.ref f9))) (l9 : K.lookup f9 = some ⟨oc9, od9, .func (PySem.W.fnOf "_law_pick" "_law_pick" (defArgs sPick) (defBody sPick) (defScope sPick) .none kV9 dc9 pm9 an9 cd9 ct9), sl9⟩) (c9 : PySem.W.codeIn K cd9 "_law_pick" = true) (k9 : PySem.W.keepIn K (.ref f9) = true)
    (a10 : PySem.W.nsIn K mainGlobals "_law_sum" = some (some (.ref f10))) (l10 : K.lookup f10 = some ⟨oc10, od10, .func (PySem.W.fnOf "_law_sum" "_law_sum" (defArgs sLSum) (defBody sLSum) (defScope sLSum) .none kV10 dc10 pm10 an10 cd10 ct10), sl10⟩) (c10 : PySem.W.codeIn K cd10 "_law_sum" = true) (k10 : PySem.W.keepIn K (.ref f10) = true)
    (a11 : PySem.W.nsIn K mainGlobals "_law_choose" = some (some (.ref f11))) (l11 : K.lookup f11 = some ⟨oc11, od11, .func (PySem.W.fnOf "_law_choose" "_law_choose" (defArgs sLChoose) (defBody sLChoose) (defScope sLChoose) .none kV11 dc11 pm11 an11 cd11 ct11), sl11⟩) (c11 : PySem.W.codeIn K cd11 "_law_choose" = true) (k11 : PySem.W.keepIn K (.ref f11) = true)
    (a12 : PySem.W.nsIn K mainGlobals "_law_kind" = some (some (.ref f12))) (l12 : K.lookup f12 = some ⟨oc12, od12, .func (PySem.W.fnOf "_law_kind" "_law_kind" (defArgs sLKind) (defBody sLKind) (defScope sLKind) .none kV12 dc12 pm12 an12 cd12 ct12), sl12⟩) (c12 : PySem.W.codeIn K cd12 "_law_kind" = true) (k12 : PySem.W.keepIn K (.ref f12) = true)
    (a13 : PySem.W.nsIn K mainGlobals "_law_product" = some (some (.ref f13))) (l13 : K.lookup f13 = some ⟨oc13, od13, .func (PySem.W.fnOf "_law_product" "_law_product" (defArgs sLProduct) (defBody sLProduct) (defScope sLProduct) .none kV13 dc13 pm13 an13 cd13 ct13), sl13⟩) (c13 : PySem.W.codeIn K cd13 "_law_product" = true) (k13 : PySem.W.keepIn K (.ref f13) = true)
    (a14 : PySem.W.nsIn K mainGlobals "_law_lots" = some (some (.ref f14))) (l14 : K.lookup f14 = some ⟨oc14, od14, .func (PySem.W.fnOf "_law_lots" "_law_lots" (defArgs sLLots) (defBody sLLots) (defScope sLLots) .none kV14 dc14 pm14 an14 cd14 ct14), sl14⟩) (c14 : PySem.W.codeIn K cd14 "_law_lots" = true) (k14 : PySem.W.keepIn K (.ref f14) = true)
    (a15 : PySem.W.nsIn K mainGlobals "_law_power" = some (some (.ref f15))) (l15 : K.lookup f15 = some ⟨oc15, od15, .func (PySem.W.fnOf "_law_power" "_law_power" (defArgs sLPower) (defBody sLPower) (defScope sLPower) .none kV15 dc15 pm15 an15 cd15 ct15), sl15⟩) (c15 : PySem.W.codeIn K cd15 "_law_power" = true) (k15 : PySem.W.keepIn K (.ref f15) = true)
    (a16 : PySem.W.nsIn K mainGlobals "_law_ways" = some (some (.ref f16))) (l16 : K.lookup f16 = some ⟨oc16, od16, .func (PySem.W.fnOf "_law_ways" "_law_ways" (defArgs sLWays) (defBody sLWays) (defScope sLWays) .none kV16 dc16 pm16 an16 cd16 ct16), sl16⟩) (c16 : PySem.W.codeIn K cd16 "_law_ways" = true) (k16 : PySem.W.keepIn K (.ref f16) = true)
    (a17 : PySem.W.nsIn K mainGlobals "_law_sums" = some (some (.ref f17))) (l17 : K.lookup f17 = some ⟨oc17, od17, .func (PySem.W.fnOf "_law_sums" "_law_sums" (defArgs sLSums) (defBody sLSums) (defScope sLSums) .none kV17 dc17 pm17 an17 cd17 ct17), sl17⟩) (c17 : PySem.W.codeIn K cd17 "_law_sums" = true) (k17 : PySem.W.keepIn K (.ref f17) = true)
    (a18 : PySem.W.nsIn K mainGlobals "_law_plain" = some (some (.ref f18))) (l18 : K.lookup f18 = some ⟨oc18, od18, .func (PySem.W.fnOf "_law_plain" "_law_plain" (defArgs sLPlain) (defBody sLPlain) (defScope sLPlain) .none kV18 dc18 pm18 an18 cd18 ct18), sl18⟩) (c18 : PySem.W.codeIn K cd18 "_law_plain" = true) (k18 : PySem.W.keepIn K (.ref f18) = true)
    (a19 : PySem.W.nsIn K mainGlobals "_law_all" = some (some (.ref f19))) (l19 : K.lookup f19 = some ⟨oc19, od19, .func (PySem.W.fnOf "_law_all" "_law_all" (defArgs sLAll) (defBody sLAll) (defScope sLAll) .none kV19 dc19 pm19 an19 cd19 ct19), sl19⟩) (c19 : PySem.W.codeIn K cd19 "_law_all" = true) (k19 : PySem.W.keepIn K (.ref f19) = true)
    (a20 : PySem.W.nsIn K mainGlobals "law" = some (some (.ref f20))) (l20 : K.lookup f20 = some ⟨oc20, od20, .func (PySem.W.fnOf "law" "law" (defArgs sLaw) (defBody sLaw) (defScope sLaw) .none kV20 dc20 pm20 an20 cd20 ct20), sl20⟩) (c20 : PySem.W.codeIn K cd20 "law" = true) (k20 : PySem.W.keepIn K (.ref f20) = true)
    (z1 : PySem.W.nsIn K mainGlobals "len" = some none)
    (z2 : PySem.W.nsIn K mainGlobals "abs" = some none)
    (z3 : PySem.W.nsIn K mainGlobals "int" = some none)
    (z4 : PySem.W.nsIn K mainGlobals "bool" = some none)
    (z5 : PySem.W.nsIn K mainGlobals "tuple" = some none)
    (z6 : PySem.W.nsIn K mainGlobals "list" = some none)
    (z7 : PySem.W.nsIn K mainGlobals "range" = some none)
    (z8 : PySem.W.nsIn K mainGlobals "zip" = some none)
    (z9 : PySem.W.nsIn K mainGlobals "repr" = some none)
    (z10 : PySem.W.nsIn K mainGlobals "enumerate" = some none)
    (z11 : PySem.W.nsIn K mainGlobals "isinstance" = some none)
    (z12 : PySem.W.nsIn K mainGlobals "all" = some none)
    (z13 : PySem.W.nsIn K mainGlobals "sorted" = some none)
    (z14 : PySem.W.nsIn K mainGlobals "set" = some none)
    (z15 : PySem.W.nsIn K mainGlobals "sum" = some none)
    (z16 : PySem.W.nsIn K mainGlobals "min" = some none)
    (z17 : PySem.W.nsIn K mainGlobals "max" = some none)
    (z18 : PySem.W.nsIn K mainGlobals "any" = some none)
    (z19 : PySem.W.nsIn K mainGlobals "str" = some none)
    (zc : PySem.W.nsIn K mainGlobals "comb" = some (some (.builtin "math.comb")))
    (zf : PySem.W.nsIn K mainGlobals "factorial" = some (some (.builtin "math.factorial")))
    : ∃ fd : FuncData, (∀ (s : Shared) (u : Value), BindsTo s fd ⟨[u], []⟩ [("script", u)]) ∧ ∀ base : Heap, K.In base → base.Ns mainGlobals mg → base.NoDigits → FnG l.prog w K mg base CX0 6 fa fd ["script"] (spLaw K) := by
  have e := hfa.symm.trans (PySem.W.mg_of X G a20)
  cases e
  have D1 : Df K mg "least_kind" sLeastKind ["kinds"] := df_mk X G a1 l1 c1 k1 fun _ _ _ _ _ _ us hl => match us, hl with | [_], _ => rfl
  have D2 : DfN K mg "all_count" sAllCount ["n"] ["n"] := ⟨_, _, fun_mk l2 c2 k2, (fun_mk l2 c2 k2).binds (fun _ _ _ _ _ _ us hl => match us, hl with | [_], _ => rfl), PySem.W.mg_of X G a2, kbn_of (fun_mk l2 c2 k2) (fun zs => zs.reverse) vals_swap fun _ _ _ _ _ _ ws hl => match ws, hl with | [_], _ => rfl⟩
  have D3 : Df K mg "_ways_of_size" sWaysOfSize ["n", "size"] := df_mk X G a3 l3 c3 k3 fun _ _ _ _ _ _ us hl => match us, hl with | [_, _], _ => rfl
  have D4 : Df K mg "product_of" sProductOf ["numbers"] := df_mk X G a4 l4 c4 k4 fun _ _ _ _ _ _ us hl => match us, hl with | [_], _ => rfl
  have D5 : DfN K mg "table_count" sTableCount ["n", "kinds"] ["kinds", "n"] := ⟨_, _, fun_mk l5 c5 k5, (fun_mk l5 c5 k5).binds (fun _ _ _ _ _ _ us hl => match us, hl with | [_, _], _ => rfl), PySem.W.mg_of X G a5, kbn_of (fun_mk l5 c5 k5) (fun zs => zs.reverse) vals_swap fun _ _ _ _ _ _ ws hl => match ws, hl with | [_, _], _ => rfl⟩
  have D6 : Df K mg "_keyed_count" sKeyedCount ["n", "j", "others"] := df_mk X G a6 l6 c6 k6 fun _ _ _ _ _ _ us hl => match us, hl with | [_, _, _], _ => rfl
  have D7 : Df K mg "_law_deck" sDeck ["script"] := df_mk X G a7 l7 c7 k7 fun _ _ _ _ _ _ us hl => match us, hl with | [_], _ => rfl
  have D8 : Df K mg "_law_draw" sDraw ["deck", "many"] := df_mk X G a8 l8 c8 k8 fun _ _ _ _ _ _ us hl => match us, hl with | [_, _], _ => rfl
  have D9 : Df K mg "_law_pick" sPick ["deck", "some"] := df_mk X G a9 l9 c9 k9 fun _ _ _ _ _ _ us hl => match us, hl with | [_, _], _ => rfl
  have D10 : Df K mg "_law_sum" sLSum ["one", "two"] := df_mk X G a10 l10 c10 k10 fun _ _ _ _ _ _ us hl => match us, hl with | [_, _], _ => rfl
  have D11 : Df K mg "_law_choose" sLChoose ["a", "b"] := df_mk X G a11 l11 c11 k11 fun _ _ _ _ _ _ us hl => match us, hl with | [_, _], _ => rfl
  have D12 : Df K mg "_law_kind" sLKind ["n", "k"] := df_mk X G a12 l12 c12 k12 fun _ _ _ _ _ _ us hl => match us, hl with | [_, _], _ => rfl
  have D13 : Df K mg "_law_product" sLProduct ["n"] := df_mk X G a13 l13 c13 k13 fun _ _ _ _ _ _ us hl => match us, hl with | [_], _ => rfl
  have D14 : Df K mg "_law_lots" sLLots ["n", "m"] := df_mk X G a14 l14 c14 k14 fun _ _ _ _ _ _ us hl => match us, hl with | [_, _], _ => rfl
  have D15 : Df K mg "_law_power" sLPower ["base", "many"] := df_mk X G a15 l15 c15 k15 fun _ _ _ _ _ _ us hl => match us, hl with | [_, _], _ => rfl
  have D16 : Df K mg "_law_ways" sLWays ["n", "m", "whole", "pair"] := df_mk X G a16 l16 c16 k16 fun _ _ _ _ _ _ us hl => match us, hl with | [_, _, _, _], _ => rfl
  have D17 : Df K mg "_law_sums" sLSums ["n", "kinds"] := df_mk X G a17 l17 c17 k17 fun _ _ _ _ _ _ us hl => match us, hl with | [_, _], _ => rfl
  have D18 : Df K mg "_law_plain" sLPlain ["n", "kinds"] := df_mk X G a18 l18 c18 k18 fun _ _ _ _ _ _ us hl => match us, hl with | [_, _], _ => rfl
  have D19 : Df K mg "_law_all" sLAll ["n"] := df_mk X G a19 l19 c19 k19 fun _ _ _ _ _ _ us hl => match us, hl with | [_], _ => rfl
  have B : Bi mg := ⟨PySem.W.mg_none_of X G z1, PySem.W.mg_none_of X G z2, PySem.W.mg_none_of X G z3, PySem.W.mg_none_of X G z4, PySem.W.mg_none_of X G z5, PySem.W.mg_none_of X G z6, PySem.W.mg_none_of X G z7, PySem.W.mg_none_of X G z8, PySem.W.mg_none_of X G z9, PySem.W.mg_none_of X G z10, PySem.W.mg_none_of X G z11, PySem.W.mg_none_of X G z12, PySem.W.mg_none_of X G z13, PySem.W.mg_none_of X G z14, PySem.W.mg_none_of X G z15, PySem.W.mg_none_of X G z16, PySem.W.mg_none_of X G z17, PySem.W.mg_none_of X G z18, PySem.W.mg_none_of X G z19⟩
  refine ⟨PySem.W.fnOf "law" "law" (defArgs sLaw) (defBody sLaw) (defScope sLaw) .none kV20 dc20 pm20 an20 cd20 ct20, fun s v => .of_eq rfl, fun base _ _ hdg => ?_⟩
  have C0 := PySem.W.mg_of X G zc
  have F0 := PySem.W.mg_of X G zf
  have pr := o_prod (P := l.prog) (w := w) (base := base) D4 B
  have wy := o_ways C0 F0 D3 B pr
  have ac : OkN l.prog w K mg base 3 "all_count" ["n"] ["n"] spAllC := D2.okN fun _ _ F => f_allC F B pr wy
  have lk := o_least (P := l.prog) (w := w) (base := base) D1 B
  have ke := o_keyed C0 F0 D6 B pr wy
  have tc : OkN l.prog w K mg base 4 "table_count" ["n", "kinds"] ["kinds", "n"] spTc := D5.okN fun _ _ F => f_tc C0 F0 F B lk ke
  have dk := o_deck (P := l.prog) (w := w) (base := base) D7 B
  have dr := o_draw (P := l.prog) (w := w) (base := base) D8 B
  have pk := o_pick D9 B dr
  have ls := o_lSum (P := l.prog) (w := w) (base := base) D10 B
  have lc := o_lChoose (P := l.prog) (w := w) (base := base) D11 B
  have kd := o_lKind D12 B lc
  have lp := o_lFac (P := l.prog) (w := w) (base := base) D13 B
  have lo := o_lLots D14 B lp
  have pw := o_lPow (P := l.prog) (w := w) (base := base) D15 B
  have ly := o_lWays (P := l.prog) (w := w) (base := base) D16 B
  have su := o_lSums D17 B ls kd lp lo pw ly
  have pl := o_lPlain D18 B lp lo pw
  have la := o_lAll D19 B lp lo pw
  exact ok_law (fun_mk (st := sLaw) l20 c20 k20) B hdg dk dr pk ac tc la lp pl su
end Kr
open PySem PySem.W PyProof.Rows
set_option maxHeartbeats 0 in
theorem PySem.Challenge.cw_keyriders_k23_whole_how_many_tables_holds : PySem.Challenge.rw_keyriders_k23_whole_how_many_tables.Holds := by
  w_on; o_law; k_head; (case hw => w_witness2)
  k_fill
  refine Kr.walkN (l := PySem.Challenge.rw_keyriders_k23_whole_how_many_tables) (n := 63) (k := 6) (x := "script") (sp := Kr.spLaw) rfl (by decide) rfl ⟨rfl, by decide, by decide⟩ (fun w h Y => PySem.W.kIn_of Y) ?F (fun _ _ a ns hl _ hS => ⟨a, ns, rfl, hS, hl, fun _ => rfl⟩)
  case F =>
    intro w mg fa h KX G hmg
    refine' Kr.all_mk KX G hmg ?a1 ?l1 ?c1 ?k1 ?a2 ?l2 ?c2 ?k2 ?a3 ?l3 ?c3 ?k3 ?a4 ?l4 ?c4 ?k4 ?a5 ?l5 ?c5 ?k5 ?a6 ?l6 ?c6 ?k6 ?a7 ?l7 ?c7 ?k7 ?a8 ?l8 ?c8 ?k8 ?a9 ?l9 ?c9 ?k9 ?a10 ?l10 ?c10 ?k10 ?a11 ?l11 ?c11 ?k11 ?a12 ?l12 ?c12 ?k12 ?a13 ?l13 ?c13 ?k13 ?a14 ?l14 ?c14 ?k14 ?a15 ?l15 ?c15 ?k15 ?a16 ?l16 ?c16 ?k16 ?a17 ?l17 ?c17 ?k17 ?a18 ?l18 ?c18 ?k18 ?a19 ?l19 ?c19 ?k19 ?a20 ?l20 ?c20 ?k20 ?z1 ?z2 ?z3 ?z4 ?z5 ?z6 ?z7 ?z8 ?z9 ?z10 ?z11 ?z12 ?z13 ?z14 ?z15 ?z16 ?z17 ?z18 ?z19 ?zc ?zf
    (case a1 => k_is); (case l1 => k_is); (case c1 => k_is); (case k1 => k_is); (case a2 => k_is); (case l2 => k_is); (case c2 => k_is); (case k2 => k_is); (case a3 => k_is); (case l3 => k_is); (case c3 => k_is); (case k3 => k_is); (case a4 => k_is); (case l4 => k_is); (case c4 => k_is); (case k4 => k_is); (case a5 => k_is); (case l5 => k_is); (case c5 => k_is); (case k5 => k_is); (case a6 => k_is); (case l6 => k_is); (case c6 => k_is); (case k6 => k_is); (case a7 => k_is); (case l7 => k_is); (case c7 => k_is); (case k7 => k_is); (case a8 => k_is); (case l8 => k_is); (case c8 => k_is); (case k8 => k_is); (case a9 => k_is); (case l9 => k_is); (case c9 => k_is); (case k9 => k_is); (case a10 => k_is); (case l10 => k_is); (case c10 => k_is); (case k10 => k_is); (case a11 => k_is); (case l11 => k_is); (case c11 => k_is); (case k11 => k_is); (case a12 => k_is); (case l12 => k_is); (case c12 => k_is); (case k12 => k_is); (case a13 => k_is); (case l13 => k_is); (case c13 => k_is); (case k13 => k_is); (case a14 => k_is); (case l14 => k_is); (case c14 => k_is); (case k14 => k_is); (case a15 => k_is); (case l15 => k_is); (case c15 => k_is); (case k15 => k_is); (case a16 => k_is); (case l16 => k_is); (case c16 => k_is); (case k16 => k_is); (case a17 => k_is); (case l17 => k_is); (case c17 => k_is); (case k17 => k_is); (case a18 => k_is); (case l18 => k_is); (case c18 => k_is); (case k18 => k_is); (case a19 => k_is); (case l19 => k_is); (case c19 => k_is); (case k19 => k_is); (case a20 => k_is); (case l20 => k_is); (case c20 => k_is); (case k20 => k_is); (case z1 => k_is); (case z2 => k_is); (case z3 => k_is); (case z4 => k_is); (case z5 => k_is); (case z6 => k_is); (case z7 => k_is); (case z8 => k_is); (case z9 => k_is); (case z10 => k_is); (case z11 => k_is); (case z12 => k_is); (case z13 => k_is); (case z14 => k_is); (case z15 => k_is); (case z16 => k_is); (case z17 => k_is); (case z18 => k_is); (case z19 => k_is); (case zc => k_is); (case zf => k_is)
