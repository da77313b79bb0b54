import PyProof.Rows.All
import Wide.All
import OpenK.AllK
import Wide.FinOn
import KE.GoesEnum
import HandS.ForMost
import HandS.Walk
import KE.KRevSl
import PyProof.ReprReads
import PyProof.ReprRoads
import HandS.IsInst
import HandS.Defaults
import HandS.TupAny
import HandS.TupMul
import HandS.Conv
import HandS.Zip
import HandS.SortInts
import HandS.WordsExc
import HandS.ExcOwn
import HandS.ExcIs
import HandS.ExcInit
import KE.KMathGC
import PyProof.ReprLen
import HandS.NoneIn
import HandS.DictComp
import PyProof.EqKinds
import KE.KMathG
import HandS.DictTup
import HandS.DictSubView
import HandS.Style
import HandS.Wide
import PyProof.EqAt
import PyProof.TupleCall
import Open.SpecLaws
import KE.OsGo
import HandS.ForExc
import HandS.List
import PyProof.AutoSeq1
import PySem.Challenge.RW_keyriders_k17_whole_tables_of_far_progra
set_option Elab.async false
set_option linter.all false
set_option maxRecDepth 100000
set_option maxHeartbeats 4000000
namespace Kr
open PySem PySem.Spec PyProof.Rows L2
open AutoSeq1 (wpAny_loadPart')

theorem enum_new_tup (l : Addr) (items : Array Value) :
    Meets (Builtin.«enumerate.__new__» ⟨[.type "enumerate", .ref l], []⟩) (fun _ R s => s.heap.IsTuple l items ∧
      R (.ok (.ret (.ref (s.heap.push { cls := .type "tuple_iterator", data := .fields #[.ref l, .int 0 0] }).objs.size)))
        { s with heap := (s.heap.push { cls := .type "tuple_iterator", data := .fields #[.ref l, .int 0 0] }).push { cls := .type "enumerate", data := .fields #[.none, .bool false, .ref s.heap.objs.size, rawInt 0, .none, .none] } }) :=
  .of_wp fun prog w A R s h => by
    obtain ⟨hp, g, d, tk, os⟩ := s
    obtain ⟨hL, h⟩ := h
    have hsub := sub_enumerate
    wp_walk using wpAny_pyIter_tuple hL
    refine wpAny_stack_any fun st => wpAny_pure ?_
    split
    · rename_i c _ _ _ _ _
      cases (c == Value.type "enumerate")
      all_goals
        wp_walk using wpAny_pyIter_tuple hL
        exact ⟨_, rfl, h⟩
    · wp_walk using wpAny_pyIter_tuple hL
      exact ⟨_, rfl, h⟩

section
variable {prog : Program} {w : World} {A : Around} {E : Value → Shared → Prop} {s : Shared}
theorem enum_call_tup {l : Addr} {items : Array Value} {Q : Value → Shared → Prop} (hL : s.heap.IsTuple l items)
    (h : ∀ h', IsEnum h' (s.heap.objs.size + 1) s.heap.objs.size 0 .none → h'.IsTupleIter s.heap.objs.size l 0 → h'.objs.size = s.heap.objs.size + 2 →
      (∀ b o, s.heap.get? b = some o → h'.get? b = some o) → Q (.ref (s.heap.objs.size + 1)) { s with heap := h' }) :
    wpAny (model prog w) A (call (.type "enumerate") [.ref l]) Q E s := by
  refine callType_new F.called_enumerate (by decide) (F.typeCall_enumerate_1 _) (F.newCall_enumerate_1 _) (fun obj => F.args_object_init_2 obj _) F.entry_enumerate_new
    (enum_new_tup l items) ⟨hL, ?_⟩
  generalize hh1 : s.heap.push { cls := .type "tuple_iterator", data := .fields #[.ref l, .int 0 0] } = h1
  have hz : h1.objs.size = s.heap.objs.size + 1 := by rw [← hh1]; exact Heap.size_push ..
  have g1 : h1.get? s.heap.objs.size = some { cls := .type "tuple_iterator", data := .fields #[.ref l, .int 0 0] } := by rw [← hh1]; exact Heap.get?_push_size _ rfl
  have k1 : ∀ b o, s.heap.get? b = some o → h1.get? b = some o := fun b o e => by rw [← hh1]; exact Heap.get?_push_of_some _ e
  have he : IsEnum (h1.push { cls := .type "enumerate", data := .fields #[.none, .bool false, .ref s.heap.objs.size, rawInt 0, .none, .none] }) (s.heap.objs.size + 1) s.heap.objs.size 0 .none := by
    have q := Heap.get?_push_size h1 (o := { cls := .type "enumerate", data := .fields #[.none, .bool false, .ref s.heap.objs.size, rawInt 0, .none, .none] }) rfl
    rw [hz] at q
    exact q
  show _ ∧ _
  rw [hz]
  exact ⟨⟨_, he, rfl⟩, h _ he ⟨_, Heap.get?_push_of_some _ g1, rfl, rfl⟩ (by rw [Heap.size_push, hz]) fun b o x => Heap.get?_push_of_some _ (k1 b o x)⟩
end

/-- the tuple at a, each item in a new pair -/
def Itet (K : PySem.W.Frag) (a : Addr) : It :=
  ⟨fun i H => ∃ (xs : List V) (x : V), SqT K H a xs ∧ xs[i]? = some x,
    fun i H v H' => ∃ T x, v = .ref T ∧ H T = none ∧ H' = upd H T (.tup [.int (i : Nat), x]) ∧ ∀ xs, SqT K H a xs → xs[i]? = some x,
    fun i H => ∃ xs : List V, SqT K H a xs ∧ xs.length = i⟩
theorem tup_ne {h : Heap} {a it : Addr} {items : Array Value} {o : Obj} (p : IsTup h a items) (ho : h.get? it = some o) (hc : o.cls ≠ .type "tuple") : a ≠ it := fun z => by
  obtain ⟨u, hu, hcu, _⟩ := p
  rw [z, ho] at hu
  cases hu
  exact hc hcu
theorem turn_enumT {P : Program} {w : World} {K : PySem.W.Frag} {elts : List Expr} {kk : Nat} {tpos : Pos} (a e it : Addr) :
    Turn P w K (.Tuple elts kk tpos) (Itet K a) [e, it] e (fun i h => (∃ old, IsEnum h e it ((i : Nat) : Int) old) ∧ h.IsTupleIter it a i ∧ e ≠ it) where
  mem := by simp
  obj := fun i h st b hb => by
    obtain ⟨⟨old, he⟩, ⟨o, ho, hc, hd⟩, _⟩ := st
    rcases (show b = e ∨ b = it by simpa using hb) with z | z
    · rw [z]; exact ⟨_, he, fun v q => nomatch q⟩
    · rw [z]; exact ⟨o, ho, fun v q => by rw [hd] at q; cases q⟩
  keep := fun i h h' st k => let ⟨⟨old, he⟩, hi, hne⟩ := st; ⟨⟨old, k e (by simp) _ he⟩, hi.at fun o q => k it (by simp) o q, hne⟩
  item := by
    intro X hP hw hK hc i pins s σ H E I hf st hg
    subst hP hw hK
    obtain ⟨⟨old, he⟩, hit, hne⟩ := st
    obtain ⟨xs, x, hq, hx⟩ := hg
    obtain ⟨its, rv, p, hz⟩ := I.tuple hq
    obtain ⟨u, hu, ru⟩ := rv.get hx
    have hel : e < s.heap.objs.size := Heap.lt_size he
    have hil : it < s.heap.objs.size := by obtain ⟨_, q, _⟩ := hit; exact Heap.lt_size q
    have nai : a ≠ it := by
      obtain ⟨o, ho, hcl, _⟩ := id hit
      exact tup_ne p ho (by rw [hcl]; decide)
    have hlt : i < its.toArray.size := by
      rw [List.size_toArray]
      exact (List.getElem?_eq_some_iff.mp hu).1
    have nea : e ≠ a := fun z => tup_ne p he (by show Value.type "enumerate" ≠ Value.type "tuple"; decide) z.symm
    refine PySem.wpAny_pyNext_enum_itemC (Draws.tuple (A := X.A.in1) (I.ok.hd hc) it a nai its.toArray) he ⟨hit, p⟩ hlt hne (by simp [hne, nea]) fun y h' tk hy ho hst hT hsz hk => ?_
    have ey : y = u := by
      have : its.toArray[i]? = some y := hy
      rw [List.getElem?_toArray, hu] at this
      exact (Option.some.inj this).symm
    subst ey
    refine ⟨_, rfl, wpAny_letOwnedTupleGo_enum (s := { s with heap := h', toks := tk + 1 }) ho fun h'' he' sb => ?_⟩
    have hT2 : h''.get? s.heap.objs.size = some { cls := .type "tuple", data := .seq #[.int i tk, y] } := (sb.2 _ (Nat.ne_of_gt hel)).trans hT
    have new : ObjOk X.prog X.w (upd H s.heap.objs.size (.tup [.int (i : Nat), x])) h'' s.heap.objs.size (.tup [.int (i : Nat), x]) :=
      ⟨by show 2 ≤ sizeLine; decide, [.int i tk, y], .cons ⟨_, rfl⟩ (.cons ru .nil), ⟨_, hT2, rfl, _, rfl⟩⟩
    have I1 : Inv X pins σ (upd H s.heap.objs.size (.tup [.int (i : Nat), x])) { s with heap := h'', toks := tk + 1 } :=
      I.turnedNew (ch := [e, it]) (fun b ob hb q => (sb.2 b (fun z => hb (by simp [z]))).trans (hk b ob (fun z => hb (by simp [z])) (fun z => hb (by simp [z])) q)) hf (Nat.le_refl _) new
    refine ⟨.ref s.heap.objs.size, _, I1, rfl, ⟨_, x, rfl, I.hok.fresh (Nat.le_refl _), rfl, fun ys hy => by rw [I.tuple_inj hy hq]; exact hx⟩, ⟨⟨y, ?_⟩, hst.1.at fun o q => (sb.2 it (Ne.symm hne)).trans q, hne⟩, fun b hb => ?_⟩
    · rw [show ((i + 1 : Nat) : Int) = (i : Int) + 1 by omega]
      exact he'
    · have hb' : b < s.heap.objs.size := by
        rcases (show b = e ∨ b = it by simpa using hb) with z | z
        · rw [z]; exact hel
        · rw [z]; exact hil
      rw [upd_ne (Nat.ne_of_lt hb')]
      exact (hf b hb).1
  done := by
    intro X hP hw hK hc i pins s σ H E I hf st hg
    subst hP hw hK
    obtain ⟨⟨old, he⟩, hit, hne⟩ := st
    obtain ⟨xs, hq, hx⟩ := hg
    obtain ⟨its, rv, p, hz⟩ := I.tuple hq
    obtain ⟨f0, f1, f2, f3, f4, f5⟩ := hf it (by simp)
    have nai : a ≠ it := by
      obtain ⟨o, ho, hcl, _⟩ := id hit
      exact tup_ne p ho (by rw [hcl]; decide)
    have ez : its.toArray.size = i := by
      rw [List.size_toArray, ← rv.length, hx]
    refine PySem.wpAny_pyNext_enum_endD (Draws.tuple (A := X.A.in1) (I.ok.hd hc) it a nai its.toArray) he ?_ fun h' eb => ⟨rfl, I.turned (t' := s.toks) (fun b o hb q => eb b o hb q) f0 f1 f3 f4 f5⟩
    rw [ez]
    exact ⟨hit, p⟩
  self := fun A i s Q E st h => let ⟨⟨_, he⟩, _⟩ := st; wpAny_pyIter_enum he h
def iEnumT (K : PySem.W.Frag) (ta : TA) : TI := fun σ H R => ta σ H fun vs H1 => ∃ a xs, vs = [.ref a] ∧ SqT K H1 a xs ∧ R (Itet K a) H1
theorem pi_enumT {X : Cx} {e : Expr} {ta : TA} {p pos tpos : Pos} {elts : List Expr} {kk : Nat} (hg : Gl X "enumerate") (hm : X.mg "enumerate" = none) (ha : PA X [e] ta) (hs : starEach [e] X.env = [(false, eval e X.env)] := by rfl) :
    PI X (.Tuple elts kk tpos) (.Call (.Name "enumerate" p) [e] [] pos) (iEnumT X.K ta) := by
  refine ⟨fun pins s σ H R I h => Call_ (ld_blt I hg hm boot_enumerate (PyProof.Rows.callWith_type1 (thn (ha.run pos pins s σ H _ I h) fun us s1 ⟨vs, H1, I1, r1, q1⟩ => ?_) hs rfl))⟩
  obtain ⟨a, xs, rfl, hq, q⟩ := q1
  obtain rfl := Vals.ref1 r1
  obtain ⟨its, rv, p', hz⟩ := I1.tuple hq
  refine enum_call_tup p' fun h' he hit hsz hk => wpAny_pyIter_enum he ?_
  have I2 : Inv X pins σ H1 { s1 with heap := h' } := I1.kept (t' := s1.toks) hk
  refine ⟨s1.heap.objs.size + 1, [s1.heap.objs.size + 1, s1.heap.objs.size], _, _, H1, rfl, I2, turn_enumT a (s1.heap.objs.size + 1) s1.heap.objs.size, ⟨⟨.none, he⟩, hit, Nat.succ_ne_self _⟩, fun b hb => ?_, q⟩
  have hle : s1.heap.objs.size ≤ b := by
    rcases (show b = s1.heap.objs.size + 1 ∨ b = s1.heap.objs.size by simpa using hb) with z | z <;> rw [z]
    · exact Nat.le_succ _
    · exact Nat.le_refl _
  exact I1.fpOk hle (I1.hok.fresh hle)

theorem walk_enumT {K : PySem.W.Frag} {a : Addr} {xs : List V} : Walk (Itet K a) xs.length (fun H => SqT K H a xs) (YPair (fun i => some (.int (i : Nat))) (fun i => xs[i]?)) := by
  refine ⟨fun i _ hi q => ⟨xs, xs[i], q, List.getElem?_eq_getElem hi⟩, fun _ q => ⟨xs, q, rfl⟩, fun i H v H' _ q y => ?_⟩
  obtain ⟨T, x, e1, e2, e3, e4⟩ := y
  exact ⟨T, _, x, e1, e2, e3, rfl, e4 xs q⟩
end Kr
namespace Kr
open PySem PySem.Spec PyProof.Rows L2 HT
theorem adj_rev (n : Nat) : Builtin.Slice.sliceAdjust none none (-1) (n : Int) = ((n : Int) - 1, -1) := by
  unfold Builtin.Slice.sliceAdjust
  simp
theorem pla_rev (n : Nat) : Builtin.Slice.slicePlaces ((n : Int) - 1) (-1) (-1) = n := by
  unfold Builtin.Slice.slicePlaces
  simp
  omega
theorem pick_rev (xs : Array Value) : ((List.range xs.size).filterMap fun (m : Nat) => xs[(((xs.size : Nat) : Int) - 1 + (m : Int) * (-1)).toNat]?).toArray = xs.toList.reverse.toArray := by
  have e : (fun (m : Nat) => xs[(((xs.size : Nat) : Int) - 1 + (m : Int) * (-1)).toNat]?) = (fun k => xs[k]?) ∘ fun (m : Nat) => xs.size - 1 - m := by
    funext m
    show _ = xs[xs.size - 1 - m]?
    rw [show (((xs.size : Nat) : Int) - 1 + (m : Int) * (-1)).toNat = xs.size - 1 - m by omega]
  rw [e, ← List.filterMap_map, PySem.W.krv_range, List.filterMap_reverse, PySem.W.krv_all]
section
variable {prog : Program} {w : World} {A : Around} {E : Value → Shared → Prop} {s : Shared}
theorem applied_rev {sl : Addr} {vk : Value} {n : Nat} {Q : Int × Int × Nat → Shared → Prop} (hs : s.heap.IsSliceOf sl .none .none vk) (pk : IsPart vk (some (-1)))
    (h : Q ((n : Int) - 1, -1, n) s) : wpAny (model prog w) A (Builtin.Slice.sliceApplied (.ref sl) (pure (n : Int))) Q E s := by
  obtain ⟨os, hos, hcs, hds⟩ := id hs
  unfold Builtin.Slice.sliceApplied Builtin.Slice.sliceFields
  refine wpAny_bind (wpAny_bind (wpAny_field hos hds (x := .none) rfl (wpAny_bind (wpAny_field hos hds (x := .none) rfl (wpAny_bind (wpAny_field hos hds (x := vk) rfl (wpAny_pure ?_)))))))
  refine wpAny_bind (slicePart_ pk ?_)
  show wpAny _ _ (if ((-1 : Int) == 0) = true then _ else _) _ _ s
  rw [if_neg (by decide)]
  refine wpAny_bind (slicePart_none (wpAny_bind (slicePart_none (wpAny_bind (wpAny_pure ?_)))))
  show wpAny _ _ (match Builtin.Slice.sliceAdjust none none (-1) (n : Int) with | (lo, hi) => pure (lo, (-1 : Int), Builtin.Slice.slicePlaces lo hi (-1))) _ _ s
  rw [adj_rev n]
  show wpAny _ _ (pure ((n : Int) - 1, (-1 : Int), Builtin.Slice.slicePlaces ((n : Int) - 1) (-1) (-1))) _ _ s
  rw [pla_rev]
  exact wpAny_pure h
theorem tuple_rev {t sl : Addr} {items : Array Value} {vk : Value} {Q : Value → Shared → Prop} (ht : IsTup s.heap t items) (hs : s.heap.IsSliceOf sl .none .none vk) (pk : IsPart vk (some (-1)))
    (h : Q (.ref s.heap.objs.size) { s with heap := s.heap.push { cls := .type "tuple", data := .seq items.toList.reverse.toArray } })
    (hsz : items.size ≤ sizeLine) : wpAny (model prog w) A (getItem (.ref t) (.ref sl)) Q E s := by
  have hok : sizeOk (.seq items.toList.reverse.toArray) := by
    show items.toList.reverse.toArray.size ≤ sizeLine
    rw [List.size_toArray, List.length_reverse, Array.length_toList]
    exact hsz
  obtain ⟨os, hos, hcs, hds⟩ := id hs
  have hTs : s.TypeIs (.ref sl) "slice" := ⟨os, hos, hcs⟩
  unfold getItem
  try with_reducible refine wpAny_holding ?_
  first | refine wpAny_bind (wpAny_pure ?_) | skip
  refine wpAny_bind (wpAny_sequenceKey ht.typeIs (by decide) ?_)
  refine wpAny_bind (wpAny_callSpecial?_slot (name := Str.ofString "__getitem__") ht.typeIs PyProof.Rows.slot_tuple_getitem
    (wpAny_call_entry PyProof.Rows.slot_tuple_getitem ht.typeIs entry_tuple_getitem ?_ (args_tuple_getitem _ _)))
  show wpAny _ _ (Builtin.Tuple.tupleItemsOf (.ref t) >>= _) _ _ s
  refine wpAny_bind (tupleItemsOf_ ht (wpAny_bind (wpAny_typeOf hTs ?_)))
  rw [if_pos (by decide)]
  refine wpAny_bind (applied_rev hs pk ?_)
  have hno : ¬ (((((items.size : Nat) : Int) - 1) == 0 && (-1 : Int) == 1 && items.size == items.size) = true) := by
    rw [show ((-1 : Int) == 1) = false by decide, Bool.and_false, Bool.false_and]
    exact Bool.false_ne_true
  show wpAny _ _ (if ((((items.size : Nat) : Int) - 1) == 0 && (-1 : Int) == 1 && items.size == items.size) = true then _ else _) _ _ s
  rw [if_neg hno, pick_rev]
  first
    | exact wpAny_bind (wpAny_bind (m := Builtin.Tuple.tupleExact _) (wpAny_newObj_type (wpAny_pure ⟨_, rfl, wpAny_pure h⟩) hok))
    | exact wpAny_bind (m := Builtin.Tuple.tupleExact _) (wpAny_newObj_type (wpAny_pure ⟨_, rfl, wpAny_pure h⟩) hok)
    | exact wpAny_bind (m := Builtin.Tuple.tupleExact _) (wpAny_newObj_type (wpAny_bind (wpAny_pure (wpAny_pure ⟨_, rfl, wpAny_pure h⟩))) hok)
    | exact wpAny_bind (wpAny_bind (m := Builtin.Tuple.tupleExact _) (wpAny_newObj_type (wpAny_pure (wpAny_pure ⟨_, rfl, wpAny_pure h⟩)) hok))
end
section
variable {X : Cx}
/-- t[::-1] of a tuple -/
def tRevT (K : PySem.W.Frag) (te : TE) : TE := fun σ H Q => te σ H fun x H1 => ∃ a xs, x = .ref a ∧ SqT K H1 a xs ∧ ∀ p, H1 p = none → Q (.ref p) (upd H1 p (.tup xs.reverse))
theorem pe_revT {e : Expr} {te : TE} {k : Nat} {p1 p2 p3 pos : Pos} (he : PE X e te) : PE X (.Subscript e (.Slice none none (some (.UnaryOp .USub (.Constant (.int 1) k p1) p2)) p3) pos) (tRevT X.K te) := by
  refine ⟨fun pins s σ H Q I h => Subscript_ (thn (he.run pins s σ H _ I h) fun v s1 ⟨x, H1, I1, r1, q1⟩ => ?_)⟩
  obtain ⟨a, xs, rfl, hx, q⟩ := q1
  cases r1
  have hst : PO X (some (.UnaryOp .USub (.Constant (.int 1) k p1) p2)) (tPart (tUn (rU fun i => .int (-i)) (tC (.int 1)))) := po_some (pe_un un_neg pe_int)
  refine wpAny_Slice (thn (po_none.run pins s1 σ H1 (fun o H2 => o = none ∧ H2 = H1) I1 ⟨rfl, rfl⟩) fun vl s2 ⟨l, H2, I2, pl, el, e2⟩ => ?_)
  subst el e2
  refine thn (po_none.run pins s2 σ H2 (fun o H3 => o = none ∧ H3 = H2) I2 ⟨rfl, rfl⟩) fun vu s3 ⟨u, H3, I3, pu, eu, e3⟩ => ?_
  subst eu e3
  refine thn (hst.run pins s3 σ H3 (fun o H4 => o = some (-1) ∧ H4 = H3) I3 ⟨1, rfl, -1, rfl, rfl, rfl⟩) fun vs s4 ⟨o, H4, I4, ps, eo, e4⟩ => ?_
  subst eo e4
  cases pl
  cases pu
  have I5 : Inv X pins σ H4 { s4 with heap := s4.heap.push { cls := .type "slice", data := .fields #[.none, .none, vs] } } := I4.kept (t' := s4.toks) fun b ob q => Heap.get?_push_of_some _ q
  obtain ⟨its, r, ht, hz⟩ := I5.tuple hx
  have hlen := r.length
  show wpAny (model X.prog X.w) X.A (subscriptTail e (.Slice none none (some (.UnaryOp .USub (.Constant (.int 1) k p1) p2)) p3) (.ref a) (.ref s4.heap.objs.size)) (EP X pins σ Q) X.xe { s4 with heap := s4.heap.push { cls := .type "slice", data := .fields #[.none, .none, vs] } }
  refine tail_any (ops := [.ref a, .ref s4.heap.objs.size]) ht.typeIs (PyProof.Rows.slot_tuple_getitem.lookup) ?_ (by with_unfolding_all rfl)
  refine tuple_rev ht (Heap.IsSliceOf.new _ .none .none vs) ps ?_ (by rw [List.size_toArray]; omega)
  refine ⟨.ref _, _, I5.laid (t' := s4.toks) (o := .tup xs.reverse) (fun b ob q => Heap.get?_push_of_some _ q) (Nat.le_refl _) ?_, rfl, q _ (I5.hok.fresh (Nat.le_refl _))⟩
  exact ⟨by rw [List.length_reverse]; exact hz, _, r.reverse, IsTup.new _ _⟩
end
end Kr
namespace Kr
open PySem PySem.Spec PyProof.Rows L2
/-! ### data over the abstract heap: None, bools, ints, texts, lists, tuples, {} -/
mutual
inductive Dq (H : Hp) : V → PyData → Prop
  | non : Dq H .non .none
  | bl (b : Bool) : Dq H (.bl b) (.bool b)
  | int (i : Int) : Dq H (.int i) (.int i)
  | str (x : Str) : Dq H (.str x) (.str x)
  | lst {a : Addr} {xs : List V} {ds : List PyData} (e : H a = some (.lst xs)) (q : DqA H xs ds) : Dq H (.ref a) (.list ds)
  | tup {a : Addr} {xs : List V} {ds : List PyData} (e : H a = some (.tup xs)) (q : DqA H xs ds) : Dq H (.ref a) (.tuple ds)
  | dic {a : Addr} (e : H a = some (.dK [])) : Dq H (.ref a) (.dict [])
inductive DqA (H : Hp) : List V → List PyData → Prop
  | nil : DqA H [] []
  | cons {v : V} {vs : List V} {d : PyData} {ds : List PyData} (h : Dq H v d) (t : DqA H vs ds) : DqA H (v :: vs) (d :: ds)
end
mutual
theorem Dq.up {H H' : Hp} (s : Same H H') : ∀ {v : V} {d : PyData}, Dq H v d → Dq H' v d
  | _, _, .non => .non
  | _, _, .bl b => .bl b
  | _, _, .int i => .int i
  | _, _, .str x => .str x
  | _, _, .lst e q => .lst (s _ _ e) (DqA.up s q)
  | _, _, .tup e q => .tup (s _ _ e) (DqA.up s q)
  | _, _, .dic e => .dic (s _ _ e)
theorem DqA.up {H H' : Hp} (s : Same H H') : ∀ {vs : List V} {ds : List PyData}, DqA H vs ds → DqA H' vs ds
  | _, _, .nil => .nil
  | _, _, .cons h t => .cons (Dq.up s h) (DqA.up s t)
end
theorem DqA.len {H : Hp} : ∀ {vs : List V} {ds : List PyData}, DqA H vs ds → vs.length = ds.length
  | _, _, .nil => rfl
  | _, _, .cons _ t => by rw [List.length_cons, List.length_cons, DqA.len t]
theorem DqA.get {H : Hp} : ∀ {vs : List V} {ds : List PyData} {i : Nat} {v : V}, DqA H vs ds → vs[i]? = some v → ∃ d, ds[i]? = some d ∧ Dq H v d
  | _, _, _, _, .nil, e => by simp at e
  | _, _, 0, _, .cons h _, e => by
    simp at e
    subst e
    exact ⟨_, rfl, h⟩
  | _, _, i + 1, _, .cons _ t, e => by
    obtain ⟨d, h1, h2⟩ := DqA.get (i := i) t (by simpa using e)
    exact ⟨d, by simpa using h1, h2⟩
theorem DqA.app {H : Hp} : ∀ {vs us : List V} {ds es : List PyData}, DqA H vs ds → DqA H us es → DqA H (vs ++ us) (ds ++ es)
  | _, _, _, _, .nil, q => q
  | _, _, _, _, .cons h t, q => .cons h (DqA.app t q)
theorem DqA.take {H : Hp} : ∀ {vs : List V} {ds : List PyData} (n : Nat), DqA H vs ds → DqA H (vs.take n) (ds.take n)
  | _, _, 0, _ => .nil
  | _, _, _ + 1, .nil => .nil
  | _, _, n + 1, .cons h t => .cons h (DqA.take n t)
theorem DqA.drop {H : Hp} : ∀ {vs : List V} {ds : List PyData} (n : Nat), DqA H vs ds → DqA H (vs.drop n) (ds.drop n)
  | _, _, 0, q => q
  | _, _, _ + 1, .nil => .nil
  | _, _, n + 1, .cons _ t => DqA.drop n t
theorem DqA.set {H : Hp} {v : V} {d : PyData} (q : Dq H v d) : ∀ {vs : List V} {ds : List PyData} (i : Nat), DqA H vs ds → DqA H (vs.set i v) (ds.set i d)
  | _, _, _, .nil => .nil
  | _, _, 0, .cons _ t => .cons q t
  | _, _, i + 1, .cons h t => .cons h (DqA.set q i t)
theorem DqA.one {H : Hp} {v : V} {d : PyData} (q : Dq H v d) : DqA H [v] [d] := .cons q .nil
theorem DqA.rev {H : Hp} : ∀ {vs : List V} {ds : List PyData}, DqA H vs ds → DqA H vs.reverse ds.reverse
  | _, _, .nil => .nil
  | _, _, .cons h t => by
    rw [List.reverse_cons, List.reverse_cons]
    exact DqA.app (DqA.rev t) (.one h)
theorem DqA.ints {H : Hp} : ∀ ns : List Int, DqA H (ns.map V.int) (ns.map PyData.int)
  | [] => .nil
  | n :: r => .cons (.int n) (DqA.ints r)
theorem DqA.rep {H : Hp} {v : V} {d : PyData} (q : Dq H v d) : ∀ n : Nat, DqA H (List.replicate n v) (List.replicate n d)
  | 0 => .nil
  | n + 1 => .cons q (DqA.rep q n)
theorem Dq.tup_inv {H : Hp} {v : V} {ds : List PyData} (q : Dq H v (.tuple ds)) : ∃ a xs, v = .ref a ∧ H a = some (.tup xs) ∧ DqA H xs ds := by
  cases q with
  | tup e h => exact ⟨_, _, rfl, e, h⟩

/-! ### how long what is shown is -/
mutual
def big : PyData → Nat
  | .none | .bool _ => 5
  | .int i => (toString i : Str).length
  | .str x => (reprText x).length
  | .list xs | .tuple xs => bigA xs + 3
  | .dict _ => 2
def bigA : List PyData → Nat
  | [] => 0
  | x :: xs => big x + 2 + bigA xs
end

section
variable {X : Cx} {pins : List (Addr × Obj)} {σ : L2.St} {H : Hp} {s : Shared}
mutual
theorem Dq.reprs (I : Inv X pins σ H s) : ∀ (d : PyData) (v : V) (u : Value), Dq H v d → RelV v u → d.showable = true → d.shown.length ≤ sizeLine →
    ∃ as, Reads s.heap u d as ∧ ∃ bs, ReadAtMost s.heap d.depth bs ∧ ReprK X.prog X.w bs s.heap d.depth u d.shown
  | .none, _, _, h, r, _, _ => by
    cases h
    cases r
    exact ⟨_, .none, [], (fun _ h => nomatch h), by simp only [PyData.shown]; exact .of_is ReprIs.none _ _ _⟩
  | .bool b, _, _, h, r, _, _ => by
    cases h
    cases r
    exact ⟨_, .bool b, [], (fun _ h => nomatch h), by simp only [PyData.shown]; exact .of_is (ReprIs.bool b) _ _ _⟩
  | .int i, _, _, h, r, hs, _ => by
    cases h
    obtain ⟨t, rfl⟩ := r
    exact ⟨_, .int i t, [], (fun _ h => nomatch h), by simp only [PyData.shown]; exact .of_is (ReprIs.int t (by simpa [PyData.showable] using hs)) _ _ _⟩
  | .str x, _, _, h, r, _, hz => by
    cases h
    obtain ⟨t, rfl⟩ := r
    exact ⟨_, .str x t, [], (fun _ h => nomatch h), by simp only [PyData.shown]; exact .of_is (ReprIs.str x t (by simpa only [PyData.shown] using hz)) _ _ _⟩
  | .list ds, _, _, h, r, hs, hz => by
    cases h with
    | @lst a xs _ e ha =>
      cases r
      have hz' : (listText (PyData.shownAll ds)).length ≤ sizeLine := by simpa only [PyData.shown] using hz
      obtain ⟨its, rv, ⟨o, n, ho, hc, _, hd⟩, _⟩ := I.list (SqL.of (K := X.K) e)
      obtain ⟨as, hr, bs, hb, hk⟩ := DqA.reprs I ds _ its ha rv (by simpa [PyData.showable] using hs) fun t ht => Nat.le_trans (listText_mem_le ht) hz'
      have rd : Reads s.heap (.ref a) (.list ds) _ := .list ho hc hd hr
      have hna : a ∉ bs := not_mem_of_deeper rd (by simp only [PyData.depth]; omega) hb
      refine ⟨_, rd, a :: bs, ReadAtMost.cons rd (by simp only [PyData.depth]; omega) hb, ?_⟩
      simp only [PyData.depth, PyData.shown]
      cases its with
      | nil =>
        cases hr
        simp only [PyData.shownAll, listText_nil]
        exact ReprK.listEmpty ho hc hd
      | cons y l => exact ReprK.list ho hc hd hna (by simpa using hk.length_eq) (fun i y e => hk.item i y (by simpa using e))
  | .tuple ds, _, _, h, r, hs, hz => by
    cases h with
    | @tup a xs _ e ha =>
      cases r
      have hz' : (tupleText (PyData.shownAll ds)).length ≤ sizeLine := by simpa only [PyData.shown] using hz
      obtain ⟨its, rv, ⟨o, ho, hc, n, hd⟩, _⟩ := I.tuple (SqT.of (K := X.K) e)
      obtain ⟨as, hr, bs, hb, hk⟩ := DqA.reprs I ds _ its ha rv (by simpa [PyData.showable] using hs) fun t ht => Nat.le_trans (tupleText_mem_le ht) hz'
      have rd : Reads s.heap (.ref a) (.tuple ds) _ := .tuple ho hc hd hr
      have hna : a ∉ bs := not_mem_of_deeper rd (by simp only [PyData.depth]; omega) hb
      refine ⟨_, rd, a :: bs, ReadAtMost.cons rd (by simp only [PyData.depth]; omega) hb, ?_⟩
      simp only [PyData.depth, PyData.shown]
      exact ReprK.tuple ho hc hd hna (by simpa using hk)
  | .dict kv, _, _, h, r, _, _ => by
    cases h with
    | @dic a e =>
      cases r
      obtain ⟨_, hsys, vs, rel, o, es, ep, ho, hx, hd, _, hp, _⟩ := I.hok a _ e
      cases rel
      have hes : es = #[] := by
        obtain ⟨l⟩ := es
        have : l = [] := by
          cases l with
          | nil => rfl
          | cons y l => exact nomatch hp
        rw [this]
      subst hes
      have rd : Reads s.heap (.ref a) (.dict []) _ := .dict ho hx.1 hd .nil .nil
      refine ⟨_, rd, [a], ReadAtMost.cons rd (Nat.zero_le _) (fun _ h => nomatch h), ?_⟩
      have := ReprK.dict (prog := X.prog) (w := X.w) (as := []) (d := 0) ho hx.1 hd hsys (fun h => nomatch h) .nil
      simpa only [PyData.depth, PyData.depthKv, PyData.shown, PyData.shownKv] using this
theorem DqA.reprs (I : Inv X pins σ H s) : ∀ (ds : List PyData) (vs : List V) (us : List Value), DqA H vs ds → Vals vs us → PyData.showableAll ds = true → (∀ t ∈ PyData.shownAll ds, t.length ≤ sizeLine) →
    ∃ as, ReadsAll s.heap us ds as ∧ ∃ bs, ReadAtMost s.heap (PyData.depthAll ds) bs ∧ ReprAllK X.prog X.w bs s.heap (PyData.depthAll ds) us (PyData.shownAll ds)
  | [], _, _, h, r, _, _ => by
    cases h
    cases r
    exact ⟨_, .nil, [], (fun _ h => nomatch h), by simp only [PyData.shownAll]; exact .nil⟩
  | d :: ds, _, _, h, r, hs, hz => by
    cases h with
    | cons h1 h2 =>
      cases r with
      | cons r1 r2 =>
        have hs' : d.showable = true ∧ PyData.showableAll ds = true := by simpa [PyData.showableAll] using hs
        obtain ⟨as, q1, b1, hb1, k1⟩ := Dq.reprs I d _ _ h1 r1 hs'.1 (hz _ (by simp only [PyData.shownAll]; exact List.mem_cons_self ..))
        obtain ⟨cs, q2, b2, hb2, k2⟩ := DqA.reprs I ds _ _ h2 r2 hs'.2 (fun t ht => hz t (by simp only [PyData.shownAll]; exact List.mem_cons_of_mem _ ht))
        refine ⟨_, .cons q1 q2, b1 ++ b2, ?_, ?_⟩
        · simp only [PyData.depthAll]
          exact (hb1.mono (Nat.le_max_left _ _)).append (hb2.mono (Nat.le_max_right _ _))
        · simp only [PyData.depthAll, PyData.shownAll]
          exact .cons ((k1.more fun b hb => List.mem_append_left _ hb).level_le (Nat.le_max_left _ _)) (k2.more_le (fun b hb => List.mem_append_right _ hb) (Nat.le_max_right _ _))
end
end

/-- repr(x) of data, where no repr is under way -/
def rRepr : List V → Hp → VK → Prop := fun xs H Q => ∃ v d, xs = [v] ∧ Dq H v d ∧ d.showable = true ∧ d.depth ≤ 40 ∧ d.shown.length ≤ sizeLine ∧ Q (.str d.shown) H
theorem call_repr {X : Cx} (hg : X.A.guards = some []) (hu : X.A.units + 64 < cLine) : CallR X (.builtin "repr") rRepr := by
  intro pins s σ H xs us Q I r h
  obtain ⟨v, d, rfl, hd, hs, hdep, hz, q⟩ := h
  obtain ⟨u, rfl, r1⟩ : ∃ u, us = [u] ∧ RelV v u := by
    cases r with
    | cons a b =>
      cases b
      exact ⟨_, rfl, a⟩
  have fin : ∀ (h' : Heap) (t : Tok) (tk : Nat), (∀ b o, s.heap.get? b = some o → h'.get? b = some o) → EP X pins σ Q (.str d.shown t) { s with heap := h', toks := tk } :=
    fun h' t tk hk => ⟨.str d.shown, H, I.kept (t' := tk) hk, ⟨t, rfl⟩, q⟩
  cases hd with
  | non =>
    simp only [PyData.shown] at fin
    cases r1
    exact PySem.P.repr_of_none (fin s.heap _ _ fun _ _ e => e)
  | bl b =>
    simp only [PyData.shown] at fin
    cases r1
    have := PySem.P.repr_of_bool (prog := X.prog) (w := X.w) (A := X.A) (E := X.xe) (b := b) (s := s) (Q := EP X pins σ Q)
    refine this ?_
    have f := fin s.heap s.toks (s.toks + 1) fun _ _ e => e
    cases b <;> exact f
  | int i =>
    simp only [PyData.shown] at fin
    obtain ⟨t, rfl⟩ := r1
    exact PySem.P.repr_of_int (by simpa [PyData.showable] using hs) (fin s.heap _ _ fun _ _ e => e)
  | str x =>
    simp only [PyData.shown] at fin hz
    obtain ⟨t, rfl⟩ := r1
    exact PySem.P.repr_of_str (fin s.heap _ _ fun _ _ e => e) hz
  | @lst a xs ds e ha =>
    obtain rfl : u = Value.ref a := r1
    simp only [PyData.depth] at hdep
    have hz' : (listText (PyData.shownAll ds)).length ≤ sizeLine := by simpa only [PyData.shown] using hz
    simp only [PyData.shown] at fin
    obtain ⟨its, rv, ⟨o, n, ho, hc, _, hd⟩, _⟩ := I.list (SqL.of (K := X.K) e)
    obtain ⟨as, hr, bs, hb, hk⟩ := DqA.reprs I ds _ its ha rv (by simpa [PyData.showable] using hs) fun t ht => Nat.le_trans (listText_mem_le ht) hz'
    have rd : Reads s.heap (.ref a) (.list ds) _ := .list ho hc hd hr
    have hna : a ∉ bs := not_mem_of_deeper rd (by simp only [PyData.depth]; omega) hb
    refine call_repr_slot (by omega) ⟨o, ho, hc⟩ F.slot_list_repr.toG ?_
    cases its with
    | nil =>
      cases hr
      have e0 : listText (PyData.shownAll []) = ("[]" : Str) := by simp only [PyData.shownAll, listText_nil]
      rw [e0] at fin
      exact call_list_repr_empty ⟨o, ho, hc⟩ ho hd ⟨_, _, rfl, fin s.heap _ _ fun _ _ e => e⟩
    | cons y l =>
      exact call_list_reprK ho hc hd hna (by simpa using hk.length_eq) (fun i y e => hk.item i y (by simpa using e)) hg (fun b _ => Clear.nil b) (by show X.A.units + 1 + _ < cLine; omega) (fun _ _ e => e) (fun h' t tk hk => ⟨_, _, rfl, fin h' t tk hk⟩) hz'
  | @tup a xs ds e ha =>
    obtain rfl : u = Value.ref a := r1
    simp only [PyData.depth] at hdep
    have hz' : (tupleText (PyData.shownAll ds)).length ≤ sizeLine := by simpa only [PyData.shown] using hz
    simp only [PyData.shown] at fin
    obtain ⟨its, rv, ⟨o, ho, hc, n, hd⟩, _⟩ := I.tuple (SqT.of (K := X.K) e)
    obtain ⟨as, hr, bs, hb, hk⟩ := DqA.reprs I ds _ its ha rv (by simpa [PyData.showable] using hs) fun t ht => Nat.le_trans (tupleText_mem_le ht) hz'
    have rd : Reads s.heap (.ref a) (.tuple ds) _ := .tuple ho hc hd hr
    have hna : a ∉ bs := not_mem_of_deeper rd (by simp only [PyData.depth]; omega) hb
    refine call_repr_slot (by omega) ⟨o, ho, hc⟩ F.slot_tuple_repr ?_
    exact call_tuple_reprK ho hc hd hna (by simpa using hk) hg (fun b _ => Clear.nil b) (by show X.A.units + 1 + _ < cLine; omega) (fun _ _ e => e) (fun h' t tk hk => ⟨_, _, rfl, fin h' t tk hk⟩) hz'
  | @dic a e =>
    obtain rfl : u = Value.ref a := r1
    obtain ⟨_, hsys, vs, rel, o, es, ep, ho, hx, hd, _, hp, _⟩ := I.hok a _ e
    cases rel
    have hes : es = #[] := by
      obtain ⟨l⟩ := es
      have : l = [] := by
        cases l with
        | nil => rfl
        | cons y l => exact nomatch hp
      rw [this]
    subst hes
    simp only [PyData.shown, PyData.shownKv] at fin hz
    refine call_repr_slot (by omega) ⟨o, ho, hx.1⟩ F.slot_dict_repr ?_
    exact call_dict_reprK (as := []) (d := 0) ho hx.1 hd hsys (fun h => nomatch h) .nil hg (fun b _ => Clear.nil b) (by show X.A.units + 1 + _ < cLine; omega) (fun _ _ e => e) (fun h' t tk hk => ⟨_, _, rfl, fin h' t tk hk⟩) hz
end Kr
namespace Kr
open PySem PySem.Spec PyProof.Rows L2
/-! ### defs that are called where no repr is under way -/
structure FnG (P : Program) (w : World) (K : PySem.W.Frag) (mg : Str → Option Value) (base : Heap) (CX : CXT) (k : Nat) (f : Addr) (fd : FuncData) (ps : List Str) (sp : Sp) : Prop where
  len : ∀ vs H Q E, sp vs H Q E → vs.length = ps.length
  run : ∀ (A : Around) (outer : List Env) (s : Shared) (H : Hp) (args : Args) (us : List Value) (vs : List V) (Q : VK) (E : XK), A.guards = some [] → Room k A → Env0 P w K mg base A outer s H → BindsTo s fd args (ps.zip us) → Vals vs us → sp vs H Q E →
    codeAny (model P w) A (.call (.ref f) args) (CR CX outer P w H s Q E) s
section
variable {P : Program} {w : World} {K : PySem.W.Frag} {mg : Str → Option Value} {base : Heap} {CX : CXT}
theorem FnG.mono {j k : Nat} {f : Addr} {fd : FuncData} {ps : List Str} {sp : Sp} (F : FnG P w K mg base CX j f fd ps sp) (h : j ≤ k) : FnG P w K mg base CX k f fd ps sp :=
  ⟨F.len, fun A outer s H args us vs Q E hg hr => F.run A outer s H args us vs Q E hg (hr.mono h)⟩
/-- by the body, as Fun.ok; the body is told that no repr is under way -/
theorem okG {x qual : Str} {st : Stmt} {f : Addr} {fd : FuncData} {N ps : List Str} {k : Nat} {sp : Sp} (F : Fun K x qual st f fd) (S : FnScope N ps (defScope st)) (len : ∀ vs H Q E, sp vs H Q E → vs.length = ps.length)
    (hbody : ∀ (cdv : Value) (A : Around) (outer : List Env) (s : Shared) (H : Hp) (vs : List V) (Q : VK) (E : XK), (A.deeper (envOfC qual (defScope st) s.heap.objs.size f cdv)).guards = some [] → Room k (A.deeper (envOfC qual (defScope st) s.heap.objs.size f cdv)) → sp vs H Q E →
      ∃ t, PSs (cxOf CX0 P w K mg base N qual (defScope st) f cdv A outer s H E).nox (defBody st) t ∧ t { nx := fun _ H' => Q .non H', rt := Q } (start N vs) H) : FnG P w K mg base CX0 (k + 1) f fd ps sp := by
  obtain ⟨oc, od, kV, doc, pm, an, cdv, ct, osl, rfl, lk, hcd⟩ := F.ex
  refine ⟨len, fun A outer s H args us vs Q E hg hr e0 hb r hsp => ?_⟩
  have KX : K.In s.heap := e0.mod.kin.keeps fun b o e => (e0.bs b o e).1
  have lim : s.heap.NoLimit := e0.mod.nolimit.keeps fun b o e => (e0.bs b o e).1
  refine codeAny_call_function hr.depth (KX _ _ lk) rfl S.co S.gen rfl (PySem.W.codeRec_of KX hcd) (hb _ _ _ _ ?_)
  have kinds : ∀ y ∈ ps.zip us, (defScope st).names.lookup y.1 = some .local ∨ ((defScope st).names.lookup y.1 = some .cell ∧ ((cellsFrom (s.heap.objs.size + 1) (defScope st).names []).lookup y.1).isSome = true) := by
    rintro ⟨n, v⟩ hy
    rcases S.par n (List.of_mem_zip hy).1 with q | q
    · exact .inl q
    · exact .inr ⟨q, PySem.W.cellsFrom_some _ _ _ (.inl q)⟩
  refine wpAny_newFunctionEnv_cells S.kind kinds fun env he s1 x => ?_
  subst he
  refine ⟨lim.keeps x.toInCall.keep, codeAny_func ?_⟩
  obtain ⟨t, ht, hq⟩ := hbody cdv A outer s H vs Q E (by first | exact hg | simpa [Around.deeper] using hg) (hr.deeper _) hsp
  have I : Inv (cxOf CX0 P w K mg base N qual (defScope st) f cdv A outer s H E) [] (start N vs) H s1 := inv_start S hr.hd e0 (len _ _ _ _ hsp) r x
  refine wpAny_mono (ht.nox.run [] s1 (start N vs) H _ I hq) (fun fl s' hs => ?_) fun e s' hs => hs
  cases fl with
  | ret u =>
    obtain ⟨v, σ', H', J, rv, q⟩ := hs
    exact ⟨v, H', J.os, J.bare, J.base, J.hok, rv, q⟩
  | next =>
    obtain ⟨σ', H', J, q⟩ := hs
    exact ⟨.non, H', J.os, J.bare, J.base, J.hok, rfl, q⟩
  | brk => exact hs.elim fun _ h => h.elim fun _ h => h.2.elim
  | cont => exact hs.elim fun _ h => h.elim fun _ h => h.2.elim
end
section
variable {X : Cx} {CX : CXT} {k : Nat} {f : Addr} {fd : FuncData} {ps : List Str} {sp : Sp} {dvs : List V} {ds : List Value} {E : XK} {x : Str} {p pos : Pos} {e : Expr} {es : List Expr} {t : TA}
/-- such a def's call, from a body of the same kind -/
theorem pe_callG (F : FnG X.prog X.w X.K X.mg X.base CX k f fd ps sp) (gd : X.A.guards = some []) (hr : Room k X.A) (hg : Gl X x) (hm : X.mg x = some (.ref f)) (hk : PySem.W.keepIn X.K (.ref f) = true) (hb : Binds X.K fd ps ds) (hd : Vals dvs ds) (hx : Passes CX X E)
    (ha : PA X (e :: es) t) (hdb : (x == ("__debug__" : Str)) = false := by decide) (he : starEach (e :: es) X.env = (false, eval e X.env) :: starEach es X.env := by rfl) (hpl : (backTo pos (starEach es X.env)).any (·.1) = false := by rfl) :
    PE X (.Call (.Name x p) (e :: es) [] pos) (tCall sp dvs E t) := by
  refine ⟨fun pins s σ H Q I h => wpAny_Call_Name_kw (ld_glob I hg hm ?_ hdb)⟩
  refine PySem.W.callWith_K (h₀ := X.base) I.ok.mod.kin hk (thn (ha.run pos pins s σ H _ I h) fun us s1 ⟨vs, H1, I1, r, q⟩ => ⟨I1.kIn, ?_⟩) he hpl
  have r2 : Vals (vs ++ dvs) (us ++ ds) := r.append hd
  have hl : (us ++ ds).length = ps.length := r2.length.symm.trans (F.len _ _ _ _ q)
  refine wpAny_call (codeAny_mono (F.run X.A X.stack s1 H1 ⟨us, []⟩ (us ++ ds) (vs ++ dvs) Q E gd hr I1.env0 (hb s1 us I1.kIn hl) r2 q) fun r s' hq => ?_)
  cases r with
  | error e => exact hx pins σ H1 s1 e s' I1 hq
  | ok fl =>
    cases fl with
    | ret u => exact I1.after hq
    | next => exact hq.elim
    | brk => exact hq.elim
    | cont => exact hq.elim
end

/-! ### the head: the law is called where nothing is under way -/
theorem law_callG {P : Program} {w : World} {K : PySem.W.Frag} {mg mb : Str → Option Value} {k : Nat} {fa a : Addr} {fd : FuncData} {x : Str} {sp : Sp} {s₁ : Shared} {vs : List Value} {ns : List Int}
    (KX : K.In s₁.heap) (hns : s₁.heap.Ns mainGlobals mg) (hb : s₁.heap.Ns builtinsNs mb) (hbb : ∀ x : Str, x ≠ "__name__" → mb x = bootBuiltins x) (hlim : s₁.heap.NoLimit) (hg : s₁.gens = #[])
    (ha : s₁.heap.get? a = some { cls := .type "list", data := .seq vs.toArray }) (hi : IntsAre vs ns) (hl : ns.length ≤ sizeLine) (hr : Room k callerA)
    (F : ∀ base : Heap, K.In base → base.Ns mainGlobals mg → FnG P w K mg base CX0 k fa fd [x] sp) (hbind : ∀ (s : Shared) (u : Value), BindsTo s fd ⟨[u], []⟩ [(x, u)])
    (hsp : ∀ H : Hp, Only H → SqL K H a (ns.map V.int) → sp [.ref a] H (fun v _ => v = .bl true) fun _ _ _ => False) :
    codeAny (model P w) callerA (.call (.ref fa) ⟨[.ref a], []⟩) (fun r s' => r = .ok (.ret (.bool true)) ∧ OldK s₁.heap s'.heap ∧ s'.os = s₁.os ∧ AllBare s'.gens) s₁ := by
  have rv := vals_ints hi
  have lenV := hi.length
  have step : ∀ H : Hp, Only H → SqL K H a (ns.map V.int) → HOk P w H s₁.heap → (∀ b, H b ≠ none → b = a) → (H a ≠ none → K.lookup a = none) →
      codeAny (model P w) callerA (.call (.ref fa) ⟨[.ref a], []⟩) (fun r s' => r = .ok (.ret (.bool true)) ∧ OldK s₁.heap s'.heap ∧ s'.os = s₁.os ∧ AllBare s'.gens) s₁ := by
    intro H hO hS hok only hK
    have free : ∀ {b : Addr} {o : Obj}, s₁.heap.get? b = some o → (b = a → H b = none) → (hidT s₁.heap H).get? b = some o := fun {b o} e n => hidT_get e (by
      cases q : H b with
      | none => rfl
      | some u => rw [n (only b (by rw [q]; simp))] at q; cases q)
    have ns2 : ∀ {b : Addr} {m : Str → Option Value}, s₁.heap.Ns b m → (hidT s₁.heap H).Ns b m := by
      rintro b m ⟨o, es, ep, e, d, r⟩
      refine ⟨o, es, ep, free e fun z => ?_, d, r⟩
      subst z
      rw [ha] at e
      cases e
      cases (show Data.seq vs.toArray _ = Data.dict es ep from d)
    have kin : K.In (hidT s₁.heap H) := fun b o e => free (KX b o e) fun z => by
      subst z
      cases q : H b with
      | none => rfl
      | some u => rw [hK (by rw [q]; simp)] at e; cases e
    have md : Mod K mg (hidT s₁.heap H) := ⟨kin, ns2 hns, ⟨mb, ns2 hb, hbb⟩, hlim.elim fun mc h => ⟨mc, ns2 h.1, h.2⟩⟩
    have e0 : Env0 P w K mg (hidT s₁.heap H) callerA [] s₁ H :=
      ⟨rfl, md, fun b o e => of_hidT e, Nat.le_of_eq (hidT_size _ _), trivial, fun b hb => absurd (show b ∈ ([] : List Addr) from hb) (by simp), hok, .of_eq hg⟩
    refine codeAny_mono ((F _ kin (ns2 hns)).run callerA [] s₁ H ⟨[.ref a], []⟩ [.ref a] [.ref a] _ _ rfl hr e0 (hbind s₁ (.ref a)) (.cons rfl .nil) (hsp H hO hS)) fun r s' h => ?_
    cases r with
    | error e => exact h.elim
    | ok fl =>
      cases fl with
      | next => exact h.elim
      | brk => exact h.elim
      | cont => exact h.elim
      | ret u =>
        obtain ⟨v, H', os, bare, un, hok', r', q⟩ := h
        obtain rfl : v = .bl true := q
        obtain rfl : u = Value.bool true := r'
        refine ⟨rfl, OldK.of_keep fun b o e => ?_, os, bare⟩
        rcases hO b with z | ⟨ob, xs, z⟩
        · exact un.keep b o e z (fun q => absurd (show b ∈ ([] : List Addr) from q) (by simp)) (by simp)
        · have e1 := (hok b _ z).1
          have e2 := (hok' b _ (un.frzs b ob _ z)).1
          rw [e] at e1
          cases e1
          exact e2
  cases hk : K.lookup a with
  | some o =>
    have e := KX a o hk
    rw [ha] at e
    cases e
    exact step (fun _ => none) (fun _ => .inl rfl) (.inr ⟨_, vs.toArray, _, hk, rfl, rfl, rfl, by rw [List.size_toArray, lenV]; exact hl, by simpa using rv⟩) (fun b u z => nomatch (show (none : Option HO) = some u from z)) (fun b z => absurd rfl z) fun z => absurd rfl z
  | none =>
    refine step (fun b => if b = a then some (.frz { cls := .type "list", data := .seq vs.toArray } (.lst (ns.map V.int))) else none) (fun b => ?_) (.inl (.inr ⟨_, if_pos rfl⟩)) (fun b u z => ?_) (fun b z => ?_) fun _ => hk
    · by_cases q : b = a
      · exact .inr ⟨_, _, if_pos q⟩
      · exact .inl (if_neg q)
    · by_cases q : b = a
      · cases (if_pos q).symm.trans z
        subst q
        exact ⟨ha, by rw [List.length_map]; exact hl, vs, _, rv, ha⟩
      · cases (if_neg q).symm.trans z
    · by_cases q : b = a
      · exact q
      · exact absurd (if_neg q) z
theorem walkG {l : PySem.W.OpenLaw} {n k : Nat} {q : Program} {loose : List Str} {XP : (Str → Option Value) → Heap → Prop} {YP : World → Heap → Prop} {d : DefRec} {K : Params → PySem.W.Frag} {sp : PySem.W.Frag → Sp} {x : Str}
    (hn : l.most = some n) (hn2 : n ≤ sizeLine) (hdf : d.params.defaults = []) (hr : Room k callerA) (hY : ∀ (w : World) (h : Heap), YP w h → (K w.params).In h)
    (F : ∀ (w : World) (mg : Str → Option Value) (fa : Addr) (h : Heap), (K w.params).In h → h.Ns mainGlobals mg → mg d.name = some (.ref fa) →
      ∃ fd : FuncData, (∀ (s : Shared) (u : Value), BindsTo s fd ⟨[u], []⟩ [(x, u)]) ∧ ∀ base : Heap, (K w.params).In base → base.Ns mainGlobals mg → FnG l.prog w (K w.params) mg base CX0 k fa fd [x] (sp (K w.params)))
    (hsp : ∀ (K : PySem.W.Frag) (H : Hp) (a : Addr) (ns : List Int), ns.length ≤ n → Only H → SqL K H a (ns.map V.int) → sp K [.ref a] H (fun v _ => v = .bl true) fun _ _ _ => False) :
    PySem.W.WalkO q loose XP YP l.row.toRowW d [] (fun f vs => PySem.call f vs) := by
  refine Att.attach_call hn hdf fun w s₀ s₁ mg mb fa o pm cd doc a vs ns G Y ho hd hcd hmg hobj hints hlen hg => ?_
  obtain ⟨fd, hb, hF⟩ := F w mg fa _ (hY w _ Y) G.T.g hmg
  exact law_callG (hY w _ Y) G.T.g G.T.b G.T.builtins G.T.nolimit hg hobj hints (Nat.le_trans hlen hn2) hr hF hb fun H hO hS => hsp _ H a ns hlen hO hS
end Kr
namespace Kr
open PySem PySem.Spec PyProof.Rows L2
/-- f(k = v, ..), names alone: how they bind -/
theorem kbn_of {K : PySem.W.Frag} {x qual : Str} {st : Stmt} {f : Addr} {fd : FuncData} {ps ks : List Str} (F : Fun K x qual st f fd) (g : {α : Type} → List α → List α)
    (hrel : ∀ {zs : List V} {ws : List Value}, Vals zs ws → Vals (g zs) (g ws))
    (h : ∀ (kV doc pm : Value) (an : Option Addr) (cdv ct : Value) (ws : List Value), ws.length = ks.length → bindArgs (PySem.W.fnOf x qual (defArgs st) (defBody st) (defScope st) .none kV doc pm an cdv ct) ⟨[], ks.zip ws⟩ = pure (ps.zip (g ws))) :
    KBn K fd ps 0 ks (fun _ ws => g ws) (fun _ zs => g zs) := by
  obtain ⟨oc, od, kV, doc, pm, an, cdv, ct, osl, rfl, lk, hcd⟩ := F.ex
  refine ⟨fun s us ws _ hu hw => ?_, fun _ r => hrel r⟩
  obtain rfl : us = [] := List.length_eq_zero_iff.mp hu
  exact .of_eq (h kV doc pm an cdv ct ws hw)
theorem vals_swap {zs : List V} {ws : List Value} (r : Vals zs ws) : Vals zs.reverse ws.reverse := r.reverse
section
variable {X : Cx} {CX : CXT} {k : Nat} {f : Addr} {fd : FuncData} {ps ks : List Str} {sp : Sp} {E : XK} {x : Str} {p pos : Pos} {kws : List Keyword} {tk : TA} {g : List Value → List Value → List Value} {gV : List V → List V → List V}
def tCallN (m : Nat) (sp : Sp) (gV : List V → List V → List V) (E : XK) (tk : TA) : TE := fun σ H Q => tk σ H fun zs H1 => zs.length = m ∧ sp (gV [] zs) H1 Q E
theorem pe_callN (F : FnOk X.prog X.w X.K X.mg X.base CX k f fd ps sp) (hr : Room k X.A) (hg : Gl X x) (hm : X.mg x = some (.ref f)) (hk : PySem.W.keepIn X.K (.ref f) = true) (hb : KBn X.K fd ps 0 ks g gV) (hx : Passes CX X E) (hkw : PK X kws tk)
    (hall : (backToKw pos (keywordEach kws X.env)).all (·.1.isSome) = true := by rfl) (hks : (backToKw pos (keywordEach kws X.env)).filterMap (·.1) = ks := by rfl) (hdb : (x == ("__debug__" : Str)) = false := by decide)
    (hpl : ((backTo pos (starEach [] X.env)).any (·.1) || (backToKw pos (keywordEach kws X.env)).any (·.1.isNone)) = false := by rfl) :
    PE X (.Call (.Name x p) [] kws pos) (tCallN ks.length sp gV E tk) := by
  refine ⟨fun pins s σ H Q I h => wpAny_Call_Name_kw (ld_glob I hg hm ?_ hdb)⟩
  refine PySem.W.callWith_KW0 (h₀ := X.base) I.ok.mod.kin hk hall ?_ hpl
  refine thn (hkw.run pos pins s σ H _ I h) fun ws s2 ⟨zs, H2, I2, rz, l2, q2⟩ => ⟨I2.kIn, ?_⟩
  rw [hks]
  have r2 := hb.rel .nil rz
  refine wpAny_call (codeAny_mono (F.run X.A X.stack s2 H2 ⟨[], ks.zip ws⟩ (g [] ws) (gV [] zs) _ E hr I2.env0 (hb.to s2 [] ws I2.kIn rfl (rz.length.symm.trans l2)) r2 q2) fun r s' hq => ?_)
  cases r with
  | error e => exact hx pins σ _ _ e s' I2 hq
  | ok fl =>
    cases fl with
    | ret u => exact I2.after hq
    | next => exact hq.elim
    | brk => exact hq.elim
    | cont => exact hq.elim
end
end Kr
namespace Kr
open PySem L2
def top (i : Nat) : Stmt := PySem.Challenge.pw_keyriders_k17_whole_tables_of_far_progra.main.body.getD i (.Pass ⟨0, 0, 0, 0⟩)
abbrev sRidersError : Stmt := top 4
abbrev sTooMany : Stmt := top 5
abbrev sLotsOf : Stmt := top 7
abbrev sAllLots : Stmt := top 8
abbrev sProgramWorth : Stmt := top 10
abbrev sTermWorth : Stmt := top 11
abbrev sLengthMeasure : Stmt := top 12
abbrev sLength : Stmt := top 13
abbrev sJoined : Stmt := top 14
abbrev sWithPartsAt : Stmt := top 15
abbrev sBackward : Stmt := top 16
abbrev sGoal : Stmt := top 18
abbrev sStill : Stmt := top 19
abbrev sWays : Stmt := top 20
abbrev sEntryBy : Stmt := top 21
abbrev sDeedTable : Stmt := top 22
abbrev sBoth : Stmt := top 23
abbrev sNumbers : Stmt := top 24
abbrev sUndone : Stmt := top 25
abbrev sAims : Stmt := top 26
abbrev sTurnedBack : Stmt := top 27
abbrev sPower : Stmt := top 28
abbrev sEntryOf : Stmt := top 29
abbrev sCircles : Stmt := top 30
abbrev sStepsOf : Stmt := top 31
abbrev sTableMeasure : Stmt := top 33
abbrev sTableOf : Stmt := top 34
abbrev sBox : Stmt := top 36
abbrev sDraw : Stmt := top 37
abbrev sPick : Stmt := top 38
abbrev sMixed : Stmt := top 39
abbrev sEvery : Stmt := top 40
abbrev sDeed : Stmt := top 41
abbrev sEntry : Stmt := top 42
abbrev sMade : Stmt := top 43
abbrev sLPlaces : Stmt := top 44
abbrev sLKeysBehind : Stmt := top 45
abbrev sLAfter : Stmt := top 46
abbrev sLTurned : Stmt := top 47
abbrev sLRounds : Stmt := top 48
abbrev sLOften : Stmt := top 49
abbrev sLFar : Stmt := top 50
abbrev sLTerm : Stmt := top 51
abbrev sLTableBy : Stmt := top 52
abbrev sLMany : Stmt := top 53
abbrev sLIsGreat : Stmt := top 54
abbrev sLIsChained : Stmt := top 55
abbrev sLaw : Stmt := top 56
end Kr
namespace Kr
open PySem PySem.Spec PyProof.Rows L2
/-- the names of the built-ins are theirs -/
structure Bi (mg : Str → Option Value) : Prop where
  len : mg "len" = none
  abs : mg "abs" = none
  int : mg "int" = none
  bool : mg "bool" = none
  tuple : mg "tuple" = none
  list : mg "list" = none
  range : mg "range" = none
  zip : mg "zip" = none
  repr : mg "repr" = none
  enumerate : mg "enumerate" = none
  isinstance : mg "isinstance" = none
  all : mg "all" = none
  sorted : mg "sorted" = none
  set : mg "set" = none
  sum : mg "sum" = none
  min : mg "min" = none
  max : mg "max" = none
  any : mg "any" = none
  str : mg "str" = none
theorem sz {n : Nat} (h : n ≤ 100000) : n ≤ sizeLine := Nat.le_trans h (by decide)
theorem szl {n : Nat} (h : n < 100000) : n < sizeLine := Nat.lt_of_lt_of_le h (by decide)
/-- two ways that meet again -/
theorem join2 {c A : Prop} [Decidable c] {G R : Hp → Prop} {H2 : Hp} (tail : ∀ H3, R H3 → G H3) (h2 : ¬ c → R H2) (h1 : c → (∀ H3, R H3 → G H3) → A) : if c then A else G H2 :=
  ite2 (fun h => h1 h tail) fun h => tail _ (h2 h)
theorem same_new {H : Hp} {q : Addr} {o : HO} (h : H q = none) : Same H (upd H q o) := fun b x e => by
  rw [upd_ne (ne_of_none e h)]
  exact e
structure Df (K : PySem.W.Frag) (mg : Str → Option Value) (x : Str) (st : Stmt) (ps : List Str) : Prop where
  ex : ∃ f fd, Fun K x x st f fd ∧ Binds K fd ps [] ∧ mg x = some (.ref f)
structure Ok (P : Program) (w : World) (K : PySem.W.Frag) (mg : Str → Option Value) (base : Heap) (k : Nat) (x : Str) (ps : List Str) (sp : Sp) : Prop where
  ex : ∃ f fd, FnOk P w K mg base CX0 k f fd ps sp ∧ PySem.W.keepIn K (.ref f) = true ∧ mg x = some (.ref f) ∧ Binds K fd ps []
section
variable {P : Program} {w : World} {K : PySem.W.Frag} {mg : Str → Option Value} {base : Heap}
theorem Df.ok {x : Str} {st : Stmt} {ps : List Str} {k : Nat} {sp : Sp} (D : Df K mg x st ps) (h : ∀ f fd, Fun K x x st f fd → FnOk P w K mg base CX0 k f fd ps sp) : Ok P w K mg base k x ps sp := by
  obtain ⟨f, fd, F, b, g⟩ := D.ex
  exact ⟨f, fd, h f fd F, F.kp, g, b⟩
theorem Ok.mono {x : Str} {ps : List Str} {j k : Nat} {sp : Sp} (D : Ok P w K mg base j x ps sp) (h : j ≤ k) : Ok P w K mg base k x ps sp := by
  obtain ⟨f, fd, F, r⟩ := D.ex
  exact ⟨f, fd, F.mono h, r⟩
end
theorem pe_fn {X : Cx} {k : Nat} {x : Str} {ps : List Str} {sp : Sp} {p pos : Pos} {e : Expr} {es : List Expr} {t : TA} (D : Ok X.prog X.w X.K X.mg X.base k x ps sp) (hr : Room k X.A) (hg : Gl X x) (ha : PA X (e :: es) t)
    (hdb : (x == ("__debug__" : Str)) = false := by decide) (he : starEach (e :: es) X.env = (false, eval e X.env) :: starEach es X.env := by rfl) (hpl : (backTo pos (starEach es X.env)).any (·.1) = false := by rfl) :
    PE X (.Call (.Name x p) (e :: es) [] pos) (tCall sp [] E0 t) := by
  obtain ⟨f, fd, F, kp, g, b⟩ := D.ex
  exact pe_call F hr hg g kp b .nil pass0 ha hdb he hpl
theorem atI_int {α : Type} {xs : List α} {r : Int} {v : α} (h0 : 0 ≤ r) (h : xs[r.toNat]? = some v) : atI xs r = some v := by
  have e : r = ((r.toNat : Nat) : Int) := by omega
  rw [e]
  exact atI_nat h
end Kr
namespace Kr
open PySem PySem.Spec PyProof.Rows L2
/-! ### a module's name that holds a built-in (from math import comb) -/
theorem pe_callBG {X : Cx} {id : String} {r : List V → Hp → VK → Prop} {x : Str} {e : Expr} {es : List Expr} {t : TA} {p pos : Pos} (hc : CallR X (.builtin id) r) (hg : Gl X x) (hm : X.mg x = some (.builtin id)) (ha : PA X (e :: es) t) (hdb : (x == ("__debug__" : Str)) = false := by decide)
    (he : starEach (e :: es) X.env = (false, eval e X.env) :: starEach es X.env := by rfl) (hpl : (backTo pos (starEach es X.env)).any (·.1) = false := by rfl) : PE X (.Call (.Name x p) (e :: es) [] pos) (tCB r t) :=
  ⟨fun pn sh st hp W Iv hh => wpAny_Call_Name_kw (ld_glob Iv hg hm (PyProof.Rows.callWith_builtin1 (thn (ha.run pos pn sh st hp _ Iv hh) fun us s1 ⟨vs, H1, I1, r1, q1⟩ => hc pn s1 st H1 vs us W I1 r1 q1) he hpl) hdb)⟩
/-- comb(a, b) -/
def rComb : List V → Hp → VK → Prop := fun vs H Q => ∃ a b : Int, vs = [.int a, .int b] ∧ 0 ≤ a ∧ 0 ≤ b ∧ a < 1000 ∧ Q (.int (PySem.W.mcComb a b)) H
theorem call_comb {X : Cx} : CallR X (.builtin "math.comb") rComb := by
  intro pn sh st hp xs us Q Iv r h
  obtain ⟨a, b, rfl, h1, h2, h3, q⟩ := h
  cases r with
  | cons ra r =>
    cases r with
    | cons rb r =>
      cases r
      obtain ⟨t, rfl⟩ := ra
      obtain ⟨u, rfl⟩ := rb
      exact PySem.W.mc_comb h1 h2 (by omega) (.inr (by omega)) fun _ => ⟨.int (PySem.W.mcComb a b), hp, Iv.kept (t' := sh.toks + 1) (fun _ _ e => e), ⟨_, rfl⟩, q⟩
end Kr
namespace Kr
open PySem PySem.Spec PyProof.Rows L2
/-! ### data without lists and dicts: it stays while tuples stay -/
def TS (H H' : Hp) : Prop := ∀ b xs, H b = some (.tup xs) → H' b = some (.tup xs)
theorem TS.rfl {H : Hp} : TS H H := fun _ _ h => h
theorem TS.trans {H H' H'' : Hp} (a : TS H H') (b : TS H' H'') : TS H H'' := fun c xs h => b c xs (a c xs h)
theorem TS.of {H H' : Hp} (s : Same H H') : TS H H' := fun b xs h => s _ _ h
theorem TS.lst {H : Hp} {D : Addr} {xs ys : List V} (h : H D = some (.lst xs)) : TS H (upd H D (.lst ys)) := fun b zs e => by
  rw [upd_ne (ne_of e h (by intro z; cases z))]
  exact e
theorem TS.new {H : Hp} {q : Addr} {o : HO} (h : H q = none) : TS H (upd H q o) := fun b zs e => by
  rw [upd_ne (ne_of_none e h)]
  exact e
mutual
def flatT : PyData → Bool
  | .none | .bool _ | .int _ | .str _ => true
  | .tuple xs => flatTA xs
  | .list _ | .dict _ => false
def flatTA : List PyData → Bool
  | [] => true
  | x :: xs => flatT x && flatTA xs
end
mutual
theorem Dq.upT {H H' : Hp} (s : TS H H') : ∀ {v : V} {d : PyData}, flatT d = true → Dq H v d → Dq H' v d
  | _, _, _, .non => .non
  | _, _, _, .bl b => .bl b
  | _, _, _, .int i => .int i
  | _, _, _, .str x => .str x
  | _, _, h, .lst _ _ => by simp [flatT] at h
  | _, _, h, .tup e q => .tup (s _ _ e) (DqA.upT s (by simpa [flatT] using h) q)
  | _, _, h, .dic _ => by simp [flatT] at h
theorem DqA.upT {H H' : Hp} (s : TS H H') : ∀ {vs : List V} {ds : List PyData}, flatTA ds = true → DqA H vs ds → DqA H' vs ds
  | _, _, _, .nil => .nil
  | _ :: _, d :: ds, h, .cons a t => by
    have h2 : flatT d = true ∧ flatTA ds = true := by simpa [flatTA] using h
    exact .cons (Dq.upT s h2.1 a) (DqA.upT s h2.2 t)
end
theorem flatTA_of : ∀ {ds : List PyData}, (∀ d ∈ ds, flatT d = true) → flatTA ds = true
  | [], _ => rfl
  | d :: ds, h => by
    have h1 := h d List.mem_cons_self
    have h2 := flatTA_of (ds := ds) fun e he => h e (List.mem_cons_of_mem _ he)
    simp [flatTA, h1, h2]
mutual
/-- as the layer's own data, for == -/
theorem Dq.dp {K : PySem.W.Frag} {H : Hp} : ∀ {v : V} {d : PyData}, flatT d = true → Dq H v d → Dp K H v d
  | _, _, _, .non => .non
  | _, _, _, .bl b => .bl b
  | _, _, _, .int i => .int i
  | _, _, _, .str x => .str x
  | _, _, h, .lst _ _ => by simp [flatT] at h
  | _, _, h, .tup e q => .tup (SqT.of e) (DqA.dp (by simpa [flatT] using h) q)
  | _, _, h, .dic _ => by simp [flatT] at h
theorem DqA.dp {K : PySem.W.Frag} {H : Hp} : ∀ {vs : List V} {ds : List PyData}, flatTA ds = true → DqA H vs ds → DpAll K H vs ds
  | _, _, _, .nil => .nil
  | _ :: _, d :: ds, h, .cons a t => by
    have h2 : flatT d = true ∧ flatTA ds = true := by simpa [flatTA] using h
    exact .cons (Dq.dp h2.1 a) (DqA.dp h2.2 t)
end
theorem dqa_snoc {H : Hp} {vs : List V} {ds : List PyData} {v : V} {d : PyData} (a : DqA H vs ds) (b : Dq H v d) : DqA H (vs ++ [v]) (ds ++ [d]) := a.app (.one b)
/-! ### rows of signs -/
abbrev Row := List (Bool × Bool)
def bi (b : Bool) : Int := if b = true then 1 else 0
def pairD (p : Bool × Bool) : PyData := .tuple [.int (bi p.1), .int (bi p.2)]
def rowD (r : Row) : PyData := .tuple (r.map pairD)
theorem pair_flat (p : Bool × Bool) : flatT (pairD p) = true := by simp [pairD, flatT, flatTA]
theorem pairs_flat (r : Row) : flatTA (r.map pairD) = true := flatTA_of fun d hd => by
  obtain ⟨p, _, rfl⟩ := List.mem_map.mp hd
  exact pair_flat p
theorem row_flat (r : Row) : flatT (rowD r) = true := by
  simp only [rowD, flatT]
  exact pairs_flat r
theorem bi_inj {a b : Bool} : bi a = bi b ↔ a = b := by cases a <;> cases b <;> decide
theorem bi_one (a : Bool) : decide (bi a = 1) = a := by cases a <;> rfl
theorem bi_xor (a b : Bool) : Builtin.bitXor (bi a) (bi b) = bi (a ^^ b) := by cases a <;> cases b <;> decide +kernel
theorem bi_sum (a b : Bool) : (bi a + bi b) % 2 = bi (a ^^ b) := by cases a <;> cases b <;> decide +kernel
theorem pair_at {H : Hp} {b : Addr} {p : Bool × Bool} (h : H b = some (.tup [.int (bi p.1), .int (bi p.2)])) : Dq H (.ref b) (pairD p) := .tup h (.cons (.int _) (.cons (.int _) .nil))
theorem pair_inv {H : Hp} {v : V} {p : Bool × Bool} (h : Dq H v (pairD p)) : ∃ b, v = .ref b ∧ H b = some (.tup [.int (bi p.1), .int (bi p.2)]) := by
  obtain ⟨b, xs, rfl, e, q⟩ := Dq.tup_inv (show Dq H v (.tuple [.int (bi p.1), .int (bi p.2)]) from h)
  cases q with
  | cons h1 q =>
    cases q with
    | cons h2 q =>
      cases q
      cases h1
      cases h2
      exact ⟨b, rfl, e⟩
theorem row_inv {H : Hp} {v : V} {r : Row} (h : Dq H v (rowD r)) : ∃ a xs, v = .ref a ∧ H a = some (.tup xs) ∧ DqA H xs (r.map pairD) := Dq.tup_inv h
theorem pairs_get {H : Hp} {xs : List V} {r : Row} {i : Nat} {y : V} (q : DqA H xs (r.map pairD)) (e : xs[i]? = some y) : ∃ p, r[i]? = some p ∧ ∃ b, y = .ref b ∧ H b = some (.tup [.int (bi p.1), .int (bi p.2)]) := by
  obtain ⟨d, h1, h2⟩ := q.get e
  rw [List.getElem?_map] at h1
  cases hr : r[i]? with
  | none => rw [hr] at h1; cases h1
  | some p =>
    rw [hr] at h1
    cases Option.some.inj h1
    exact ⟨p, rfl, pair_inv h2⟩
theorem pairs_len {H : Hp} {xs : List V} {r : Row} (q : DqA H xs (r.map pairD)) : xs.length = r.length := by rw [q.len, List.length_map]
theorem pairD_inj {p q : Bool × Bool} : PyData.eqv (pairD p) (pairD q) = decide (p = q) := by
  obtain ⟨a, b⟩ := p
  obtain ⟨c, d⟩ := q
  cases a <;> cases b <;> cases c <;> cases d <;> decide +kernel
theorem rows_eqv : ∀ a b : Row, PyData.eqv (rowD a) (rowD b) = decide (a = b)
  | [], [] => by simp [rowD, PyData.eqv, PyData.eqvAll]
  | [], _ :: _ => by simp [rowD, PyData.eqv, PyData.eqvAll]
  | _ :: _, [] => by simp [rowD, PyData.eqv, PyData.eqvAll]
  | x :: a, y :: b => by
    have ih := rows_eqv a b
    simp only [rowD, PyData.eqv] at ih
    simp only [rowD, List.map_cons, PyData.eqv, PyData.eqvAll]
    rw [ih, pairD_inj, Bool.eq_iff_iff]
    simp
theorem pairs_lay : ∀ r : Row, PyData.canLayAll0 (r.map pairD) = true ∧ PyData.depthAll (r.map pairD) ≤ 2
  | [] => by simp [PyData.canLayAll0, PyData.depthAll]
  | p :: r => by
    obtain ⟨h1, h2⟩ := pairs_lay r
    simp only [List.map_cons, PyData.canLayAll0, PyData.depthAll, pairD, PyData.canLay0, PyData.depth, h1]
    refine ⟨by simp, by omega⟩
theorem row_shaped (r : Row) : SeqAt.shaped (rowD r) = true := by
  obtain ⟨h1, h2⟩ := pairs_lay r
  unfold SeqAt.shaped
  simp only [rowD, PyData.canLay0, PyData.depth, h1, Bool.true_and, decide_eq_true_eq]
  omega
theorem pair_shaped (p : Bool × Bool) : SeqAt.shaped (pairD p) = true := by
  obtain ⟨a, b⟩ := p
  cases a <;> cases b <;> decide +kernel
/-! ### sums of rows, rows of kinds -/
def addR (a b : Row) : Row := List.zipWith (fun p q => (p.1 ^^ q.1, p.2 ^^ q.2)) a b
def zeroR (n : Nat) : Row := List.replicate (n + 1) (false, false)
def chB (a b : Int) : Bool := if 0 ≤ b then PySem.W.mcComb a b % 2 == 1 else false
def kindR (n k : Nat) : Row := (List.range (n + 1)).map fun (m : Nat) => (chB ((n : Int) - 2 - k) (((m : Nat) : Int) - 1 - k), chB ((n : Int) - 2 - k) (((m : Nat) : Int) - k))
theorem addR_len {a b : Row} (h : a.length = b.length) : (addR a b).length = b.length := by
  unfold addR
  rw [List.length_zipWith, h, Nat.min_self]
theorem zeroR_len (n : Nat) : (zeroR n).length = n + 1 := List.length_replicate
theorem kindR_len (n k : Nat) : (kindR n k).length = n + 1 := by
  unfold kindR
  rw [List.length_map, List.length_range]
theorem addR_zero : ∀ (n : Nat) (r : Row), r.length = n → addR (List.replicate n (false, false)) r = r
  | 0, [], _ => rfl
  | n + 1, p :: r, h => by
    have ih := addR_zero n r (by simpa using h)
    unfold addR at ih ⊢
    rw [List.replicate_succ, List.zipWith_cons_cons, ih]
    simp
  | 0, _ :: _, h => by simp at h
  | _ + 1, [], h => by simp at h
end Kr
namespace Kr
open PySem PySem.Spec PyProof.Rows L2
theorem szm {n : Nat} (h : n ≤ 100000) : n < sizeLine := Nat.lt_of_le_of_lt h (by decide)
theorem walk_rg {n : Nat} : Walk (Itr 0 n) n (fun _ => True) (fun i H x H' => H' = H ∧ x = .int (i : Nat)) := walk_range.mono (fun _ h => h) fun i H x H' _ _ ⟨a, b⟩ => ⟨a, by rw [b]; show V.int (0 + (i : Int)) = _; rw [Int.zero_add]⟩
/-- a comprehension without tests whose items are new data, one for each turn -/
theorem lc_itF {J : It} {n : Nat} {G : Hp → Prop} {Y : Nat → Hp → V → Hp → Prop} (w : Walk J n G Y) {g : TG} {tt : TT} {te : TE} {vs : List Nat} {σ : L2.St} {H1 : Hp} {D : Addr} {Qd : Hp → Prop} (f : Nat → PyData) (nD : H1 D = none) (hn : n ≤ 100000) (hf : ∀ i, i < n → flatT (f i) = true) (hG : ∀ H, Same H1 H → G H)
    (hs : ∀ i x H H' (C : VK) (Cn : Hp → Prop), i < n → Same H1 H → Y i H x H' → (∀ y H4, Same H H4 → Dq H4 y (f i) → C y H4) → g x (wipe σ vs) H' fun σ2 H2 => wipe σ2 vs = wipe σ vs ∧ tt σ2 H2 fun b H3 => if b = true then te σ2 H3 C else Cn H3)
    (hd : ∀ H acc, Same H1 H → H D = some (.lst acc) → DqA H acc ((List.range n).map f) → Qd H) :
    ∃ W : Nat → Nat → Hp → Prop, (∃ m, W 0 m (upd H1 D (.lst []))) ∧ ∀ i m H, W i m H →
      (J.stop i H ∧ Qd H) ∨ (J.go i H ∧ ∃ Nx : Hp → Prop, (∀ H', Nx H' → ∃ m', m' < m ∧ W (i + 1) m' H') ∧ ∀ x H', J.yld i H x H' → g x (wipe σ vs) H' fun σ2 H2 => wipe σ2 vs = wipe σ vs ∧ tt σ2 H2 fun b H3 =>
        if b = true then te σ2 H3 fun y H4 => ∃ acc, H4 D = some (.lst acc) ∧ acc.length < sizeLine ∧ Nx (upd H4 D (.lst (acc ++ [y]))) else Nx H3) := by
  refine lc_it w (fun i H => ∃ acc, H D = some (.lst acc) ∧ Same H1 H ∧ DqA H acc ((List.range i).map f)) ⟨[], upd_same, fun b o e => by rw [upd_ne (ne_of_none e nD)]; exact e, .nil⟩ (fun i H _ ⟨_, _, s, _⟩ => hG H s) (fun i x H H' hi ⟨acc, hD, s, q⟩ y => ?_) fun H ⟨acc, hD, s, q⟩ => hd H acc s hD q
  refine hs i x H H' _ _ hi s y fun z H4 s4 d4 => ⟨acc, s4 _ _ hD, szm (by have := q.len; rw [List.length_map, List.length_range] at this; omega), acc ++ [z], upd_same, fun b o e => ?_, ?_⟩
  · rw [upd_ne (ne_of_none e nD)]
    exact s4 _ _ (s _ _ e)
  · have t : TS H4 (upd H4 D (.lst (acc ++ [z]))) := TS.lst (s4 _ _ hD)
    rw [List.range_succ, List.map_append]
    refine dqa_snoc (DqA.upT t ?_ (q.up s4)) (Dq.upT t (hf i hi) d4)
    exact flatTA_of fun d hd => by
      obtain ⟨j, hj, rfl⟩ := List.mem_map.mp hd
      exact hf j (by have := List.mem_range.mp hj; omega)
end Kr
namespace Kr
open PySem PySem.Spec PyProof.Rows L2
/-- the inner walk of a comprehension with two -/
def Inner (D : Addr) (J1 : It) (g1 : TG) (tt1 : TT) (te : TE) (vs1 : List Nat) (σ2 : L2.St) (H4 : Hp) (Nx : Hp → Prop) : Prop :=
  ∃ W1 : Nat → Nat → Hp → Prop, (∃ m, W1 0 m H4) ∧ ∀ j k H, W1 j k H →
      (J1.stop j H ∧ Nx H) ∨ (J1.go j H ∧ ∃ Nx1 : Hp → Prop, (∀ H', Nx1 H' → ∃ k', k' < k ∧ W1 (j + 1) k' H') ∧ ∀ x H', J1.yld j H x H' → g1 x (wipe σ2 vs1) H' fun σ3 H5 => wipe σ3 vs1 = wipe σ2 vs1 ∧ tt1 σ3 H5 fun b H6 =>
        if b = true then te σ3 H6 fun y H7 => ∃ acc, H7 D = some (.lst acc) ∧ acc.length < sizeLine ∧ Nx1 (upd H7 D (.lst (acc ++ [y]))) else Nx1 H6)
theorem inner_it {J1 : It} {n1 : Nat} {G1 : Hp → Prop} {Y1 : Nat → Hp → V → Hp → Prop} (w : Walk J1 n1 G1 Y1) {D : Addr} {g1 : TG} {tt1 : TT} {te : TE} {vs1 : List Nat} {σ2 : L2.St} {H4 : Hp} {Nx : Hp → Prop} (Pv : Nat → Hp → Prop) (h0 : Pv 0 H4) (hG : ∀ j H, j ≤ n1 → Pv j H → G1 H)
    (hs : ∀ j x H H', j < n1 → Pv j H → Y1 j H x H' → g1 x (wipe σ2 vs1) H' fun σ3 H5 => wipe σ3 vs1 = wipe σ2 vs1 ∧ tt1 σ3 H5 fun b H6 => if b = true then te σ3 H6 fun y H7 => ∃ acc, H7 D = some (.lst acc) ∧ acc.length < sizeLine ∧ Pv (j + 1) (upd H7 D (.lst (acc ++ [y]))) else Pv (j + 1) H6)
    (hd : ∀ H, Pv n1 H → Nx H) : Inner D J1 g1 tt1 te vs1 σ2 H4 Nx := by
  refine ⟨fun j k H => k = n1 - j ∧ j ≤ n1 ∧ Pv j H, ⟨n1, by simp, Nat.zero_le _, h0⟩, ?_⟩
  rintro j k H ⟨rfl, hj, p⟩
  have q := hG j H hj p
  by_cases hlt : j < n1
  · exact .inr ⟨w.goes j H hlt q, Pv (j + 1), fun H' p' => ⟨n1 - (j + 1), by omega, rfl, hlt, p'⟩, fun x H' y => hs j x H H' hlt p (w.yields j H x H' hlt q y)⟩
  · obtain rfl : j = n1 := by omega
    exact .inl ⟨w.stops H q, hd H p⟩
theorem lc2_it {J : It} {n : Nat} {G : Hp → Prop} {Y : Nat → Hp → V → Hp → Prop} (w : Walk J n G Y) {D : Addr} {g g1 : TG} {tt tt1 : TT} {wi1 : TI} {te : TE} {vs vs1 : List Nat} {σ : L2.St} {H1 : Hp} {Qd : Hp → Prop} (Pv : Nat → Hp → Prop) (h0 : Pv 0 (upd H1 D (.lst []))) (hG : ∀ i H, i ≤ n → Pv i H → G H)
    (hs : ∀ i x H H', i < n → Pv i H → Y i H x H' → g x (wipe σ vs) H' fun σ2 H2 => wipe σ2 vs = wipe σ vs ∧ tt σ2 H2 fun b H3 => if b = true then wi1 σ2 H3 fun J1 H4 => Inner D J1 g1 tt1 te vs1 σ2 H4 (Pv (i + 1)) else Pv (i + 1) H3) (hd : ∀ H, Pv n H → Qd H) :
    ∃ W : Nat → Nat → Hp → Prop, (∃ m, W 0 m (upd H1 D (.lst []))) ∧ ∀ i m H, W i m H →
      (J.stop i H ∧ Qd H) ∨ (J.go i H ∧ ∃ Nx : Hp → Prop, (∀ H', Nx H' → ∃ m', m' < m ∧ W (i + 1) m' H') ∧ ∀ x H', J.yld i H x H' → g x (wipe σ vs) H' fun σ2 H2 => wipe σ2 vs = wipe σ vs ∧ tt σ2 H2 fun b H3 =>
        if b = true then wi1 σ2 H3 fun J1 H4 => Inner D J1 g1 tt1 te vs1 σ2 H4 Nx else Nx H3) := by
  refine ⟨fun i m H => m = n - i ∧ i ≤ n ∧ Pv i H, ⟨n, by simp, Nat.zero_le _, h0⟩, ?_⟩
  rintro i m H ⟨rfl, hi, p⟩
  have q := hG i H hi p
  by_cases hlt : i < n
  · exact .inr ⟨w.goes i H hlt q, Pv (i + 1), fun H' p' => ⟨n - (i + 1), by omega, rfl, hlt, p'⟩, fun x H' y => hs i x H H' hlt p (w.yields i H x H' hlt q y)⟩
  · obtain rfl : i = n := by omega
    exact .inl ⟨w.stops H q, hd H p⟩
/-- data of a list of lists of numbers -/
def lotD (l : List Nat) : PyData := .tuple (l.map fun (x : Nat) => .int (x : Int))
def lv (l : List Nat) : List V := l.map fun (x : Nat) => V.int (x : Int)
theorem lv_dq {H : Hp} (l : List Nat) : DqA H (lv l) (l.map fun (x : Nat) => PyData.int (x : Int)) := by
  induction l with
  | nil => exact .nil
  | cons x l ih => exact .cons (.int _) ih
theorem lot_at {H : Hp} {a : Addr} {l : List Nat} (h : H a = some (.tup (lv l))) : Dq H (.ref a) (lotD l) := .tup h (lv_dq l)
theorem lot_inv {H : Hp} {v : V} {l : List Nat} (h : Dq H v (lotD l)) : ∃ a, v = .ref a ∧ H a = some (.tup (lv l)) := by
  obtain ⟨a, xs, rfl, e, q⟩ := Dq.tup_inv h
  have : ∀ (xs : List V) (l : List Nat), DqA H xs (l.map fun (x : Nat) => PyData.int (x : Int)) → xs = lv l := by
    intro xs l
    induction l generalizing xs with
    | nil => intro q; cases q; rfl
    | cons x l ih =>
      intro q
      cases q with
      | cons h1 h2 =>
        cases h1
        rw [ih _ h2]
        rfl
  rw [this xs l q] at e
  exact ⟨a, rfl, e⟩
theorem lot_flat (l : List Nat) : flatT (lotD l) = true := by
  simp only [lotD, flatT]
  exact flatTA_of fun d hd => by
    obtain ⟨x, _, rfl⟩ := List.mem_map.mp hd
    rfl
theorem lots_flat (L : List (List Nat)) : flatTA (L.map lotD) = true := flatTA_of fun d hd => by
  obtain ⟨l, _, rfl⟩ := List.mem_map.mp hd
  exact lot_flat l
theorem lots_get {H : Hp} {xs : List V} {L : List (List Nat)} {i : Nat} {y : V} (q : DqA H xs (L.map lotD)) (e : xs[i]? = some y) : ∃ l, L[i]? = some l ∧ ∃ a, y = .ref a ∧ H a = some (.tup (lv l)) := by
  obtain ⟨d, h1, h2⟩ := q.get e
  rw [List.getElem?_map] at h1
  cases hr : L[i]? with
  | none => rw [hr] at h1; cases h1
  | some l =>
    rw [hr] at h1
    cases Option.some.inj h1
    exact ⟨l, rfl, lot_inv h2⟩
end Kr
namespace Kr
/-! ### how many ways -/
def ch : Nat → Nat → Nat
  | _, 0 => 1
  | 0, _ + 1 => 0
  | n + 1, k + 1 => ch n k + ch n (k + 1)
theorem ch_tab : ∀ n : Nat, n < 26 → ∀ k : Nat, k < 27 → PySem.W.mcComb (n : Int) (k : Int) = (ch n k : Int) := by decide +kernel
theorem ch_zero : ∀ n k : Nat, n < k → ch n k = 0
  | 0, 0, h => absurd h (Nat.lt_irrefl _)
  | 0, k + 1, _ => by simp [ch]
  | n + 1, 0, h => by omega
  | n + 1, k + 1, h => by
    rw [ch, ch_zero n k (by omega), ch_zero n (k + 1) (by omega)]
theorem ch_self : ∀ n : Nat, ch n n = 1
  | 0 => by simp [ch]
  | n + 1 => by rw [ch, ch_self n, ch_zero n (n + 1) (by omega)]
theorem ch_pos : ∀ n k : Nat, k ≤ n → 0 < ch n k
  | n, 0, _ => by cases n <;> simp [ch]
  | 0, k + 1, h => by omega
  | n + 1, k + 1, h => by
    rw [ch]
    have := ch_pos n k (by omega)
    omega
/-- those of fewer places -/
def below (n s : Nat) : Nat := ((List.range s).map fun k => ch n k).sum
theorem below_succ (n s : Nat) : below n (s + 1) = below n s + ch n s := by
  unfold below
  rw [List.range_succ, List.map_append, List.sum_append]
  simp
theorem below_all (n : Nat) (hn : n < 26) : below n (n + 1) = 2 ^ n := by
  have : ∀ n : Nat, n < 26 → below n (n + 1) = 2 ^ n := by decide +kernel
  exact this n hn
theorem below_le {n s t : Nat} (h : s ≤ t) : below n s ≤ below n t := by
  induction t with
  | zero => rw [show s = 0 by omega]; exact Nat.le_refl _
  | succ t ih =>
    by_cases hs : s = t + 1
    · rw [hs]; exact Nat.le_refl _
    · rw [below_succ]
      have := ih (by omega)
      omega
/-! ### lots in their order -/
/-- the lot among those of k places from p on, m places being left -/
def un : Nat → Nat → Nat → Nat → List Nat
  | _, 0, _, _ => []
  | _, _ + 1, 0, _ => []
  | p, m + 1, k + 1, a => if a < ch m k then p :: un (p + 1) m k a else un (p + 1) m (k + 1) (a - ch m k)
/-- how many stand ahead -/
def rk : Nat → Nat → List Nat → Nat
  | _, _, [] => 0
  | _, 0, _ :: _ => 0
  | p, m + 1, x :: xs => if x = p then rk (p + 1) m xs else ch m xs.length + rk (p + 1) m (x :: xs)
/-- an ascending list of numbers from p to p + m - 1 -/
def Asc (p m : Nat) (l : List Nat) : Prop := l.Pairwise (· < ·) ∧ ∀ x ∈ l, p ≤ x ∧ x < p + m
theorem Asc.len : ∀ {p m : Nat} {l : List Nat}, Asc p m l → l.length ≤ m
  | _, _, [], _ => Nat.zero_le _
  | p, 0, x :: l, h => by
    have := h.2 x List.mem_cons_self
    omega
  | p, m + 1, x :: l, h => by
    obtain ⟨h1, h2⟩ := List.pairwise_cons.mp h.1
    have hx := h.2 x List.mem_cons_self
    have : Asc (p + 1) m l := ⟨h2, fun y hy => by
      have := h1 y hy
      have := h.2 y (List.mem_cons_of_mem _ hy)
      omega⟩
    have := this.len
    rw [List.length_cons]
    omega
theorem Asc.tail {p m x : Nat} {l : List Nat} (h : Asc p (m + 1) (x :: l)) (hx : x = p) : Asc (p + 1) m l := by
  obtain ⟨h1, h2⟩ := List.pairwise_cons.mp h.1
  refine ⟨h2, fun y hy => ?_⟩
  have := h1 y hy
  have := h.2 y (List.mem_cons_of_mem _ hy)
  omega
theorem Asc.skip {p m x : Nat} {l : List Nat} (h : Asc p (m + 1) (x :: l)) (hx : ¬ x = p) : Asc (p + 1) m (x :: l) := by
  refine ⟨h.1, fun y hy => ?_⟩
  obtain ⟨h1, _⟩ := List.pairwise_cons.mp h.1
  have hx0 := h.2 x List.mem_cons_self
  have hy0 := h.2 y hy
  rcases List.mem_cons.mp hy with e | hm
  · omega
  · have := h1 y hm
    omega
theorem rk_un : ∀ (m p : Nat) (l : List Nat), Asc p m l → un p m l.length (rk p m l) = l ∧ rk p m l < ch m l.length
  | 0, p, l, h => by
    have := h.len
    have : l = [] := List.length_eq_zero_iff.mp (by omega)
    subst this
    exact ⟨rfl, by simp [rk, ch]⟩
  | m + 1, p, [], _ => ⟨rfl, by simp [rk, ch]⟩
  | m + 1, p, x :: l, h => by
    simp only [List.length_cons, un, rk, ch]
    by_cases hx : x = p
    · obtain ⟨h1, h2⟩ := rk_un m (p + 1) l (h.tail hx)
      rw [if_pos hx, if_pos h2, h1, hx]
      exact ⟨rfl, by omega⟩
    · obtain ⟨h1, h2⟩ := rk_un m (p + 1) (x :: l) (h.skip hx)
      rw [if_neg hx, if_neg (by omega), Nat.add_sub_cancel_left]
      rw [List.length_cons] at h1 h2
      exact ⟨h1, by omega⟩
theorem un_rk : ∀ (m p k a : Nat), a < ch m k → Asc p m (un p m k a) ∧ (un p m k a).length = k ∧ rk p m (un p m k a) = a
  | 0, p, 0, a, h => ⟨⟨.nil, fun x hx => nomatch hx⟩, rfl, by simp [ch] at h; simp [un, rk, h]⟩
  | 0, p, k + 1, a, h => by simp [ch] at h
  | m + 1, p, 0, a, h => ⟨⟨.nil, fun x hx => nomatch hx⟩, rfl, by simp [ch] at h; simp [un, rk, h]⟩
  | m + 1, p, k + 1, a, h => by
    simp only [un]
    by_cases ha : a < ch m k
    · obtain ⟨⟨h1, h2⟩, h3, h4⟩ := un_rk m (p + 1) k a ha
      rw [if_pos ha]
      refine ⟨⟨List.pairwise_cons.mpr ⟨fun y hy => by have := h2 y hy; omega, h1⟩, fun y hy => ?_⟩, by rw [List.length_cons, h3], by simp [rk, h4]⟩
      rcases List.mem_cons.mp hy with e | hm
      · omega
      · have := h2 y hm
        omega
    · rw [ch] at h
      obtain ⟨⟨h1, h2⟩, h3, h4⟩ := un_rk m (p + 1) (k + 1) (a - ch m k) (by omega)
      rw [if_neg ha]
      refine ⟨⟨h1, fun y hy => by have := h2 y hy; omega⟩, h3, ?_⟩
      cases e : un (p + 1) m (k + 1) (a - ch m k) with
      | nil => rw [e] at h3; cases h3
      | cons x l =>
        rw [e] at h2 h3 h4
        have hx := h2 x List.mem_cons_self
        simp only [rk]
        rw [if_neg (by omega), h4, show l.length = k by simpa using h3]
        omega
/-! ### the number of a lot -/
def num (n : Nat) (l : List Nat) : Nat := below n l.length + rk 0 n l
/-- the size of the lot with a number, and what is left -/
def sizeAt (n : Nat) : Nat → Nat → Nat → Option (Nat × Nat)
  | 0, _, _ => none
  | f + 1, s, a => if a < ch n s then some (s, a) else sizeAt n f (s + 1) (a - ch n s)
def lotAt (n a : Nat) : Option (List Nat) := (sizeAt n (n + 1) 0 a).map fun (s, r) => un 0 n s r
theorem sizeAt_ok (n : Nat) : ∀ (f s a t r : Nat), t < s + f → s ≤ t → below n s + a = below n t + r → r < ch n t → sizeAt n f s a = some (t, r)
  | 0, s, a, t, r, h, h1, _, _ => by omega
  | f + 1, s, a, t, r, h, h1, h2, h3 => by
    simp only [sizeAt]
    by_cases hs : s = t
    · subst hs
      rw [if_pos (by omega)]
      have : a = r := by omega
      rw [this]
    · have h4 := below_le (n := n) (show s + 1 ≤ t by omega)
      rw [below_succ] at h4
      rw [if_neg (by omega)]
      exact sizeAt_ok n f (s + 1) (a - ch n s) t r (by omega) (by omega) (by rw [below_succ]; omega) h3
theorem sizeAt_ex (n : Nat) : ∀ (f s a : Nat), below n s + a < below n (s + f) → ∃ t r, sizeAt n f s a = some (t, r) ∧ s ≤ t ∧ t < s + f ∧ below n s + a = below n t + r ∧ r < ch n t
  | 0, s, a, h => by
    rw [Nat.add_zero] at h
    omega
  | f + 1, s, a, h => by
    simp only [sizeAt]
    by_cases ha : a < ch n s
    · rw [if_pos ha]
      exact ⟨s, a, rfl, Nat.le_refl _, by omega, rfl, ha⟩
    · rw [if_neg ha]
      obtain ⟨t, r, h1, h2, h3, h4, h5⟩ := sizeAt_ex n f (s + 1) (a - ch n s) (by rw [below_succ, show s + 1 + f = s + (f + 1) by omega]; omega)
      rw [below_succ] at h4
      exact ⟨t, r, h1, by omega, by omega, by omega, h5⟩
theorem sizeAt_none (n : Nat) : ∀ (f s a : Nat), below n (s + f) ≤ below n s + a → sizeAt n f s a = none
  | 0, s, a, _ => rfl
  | f + 1, s, a, h => by
    have h4 := below_le (n := n) (show s + 1 ≤ s + (f + 1) by omega)
    rw [below_succ] at h4
    simp only [sizeAt]
    rw [if_neg (by omega)]
    exact sizeAt_none n f (s + 1) (a - ch n s) (by rw [below_succ, show s + 1 + f = s + (f + 1) by omega]; omega)
theorem lotAt_num {n : Nat} {l : List Nat} (h : Asc 0 n l) : lotAt n (num n l) = some l := by
  obtain ⟨h1, h2⟩ := rk_un n 0 l h
  have hl := h.len
  unfold lotAt
  rw [sizeAt_ok n (n + 1) 0 (num n l) l.length (rk 0 n l) (by omega) (by omega) (by show 0 + _ = _; rw [Nat.zero_add]; rfl) h2]
  simp only [Option.map_some]
  rw [h1]
theorem lotAt_some {n a : Nat} (hn : n < 26) (ha : a < 2 ^ n) : ∃ l, lotAt n a = some l ∧ Asc 0 n l ∧ num n l = a := by
  obtain ⟨t, r, h1, h2, h3, h4, h5⟩ := sizeAt_ex n (n + 1) 0 a (by rw [Nat.zero_add, below_all n hn]; show 0 + a < _; omega)
  obtain ⟨g1, g2, g3⟩ := un_rk n 0 t r h5
  refine ⟨un 0 n t r, by unfold lotAt; rw [h1]; rfl, g1, ?_⟩
  unfold num
  rw [g2, g3]
  have : below n 0 = 0 := rfl
  omega
theorem lotAt_none {n a : Nat} (hn : n < 26) (ha : 2 ^ n ≤ a) : lotAt n a = none := by
  unfold lotAt
  rw [sizeAt_none n (n + 1) 0 a (by rw [Nat.zero_add, below_all n hn]; show _ ≤ 0 + a; omega)]
  rfl
/-! ### the same, by spots -/
/-- what lot_number adds for the places from s on -/
def numGo (n : Nat) : Nat → List Nat → Nat
  | _, [] => 0
  | p, x :: xs => ((List.range (x - p)).map fun j => ch (n - 1 - (p + j)) xs.length).sum + numGo n (x + 1) xs
theorem rk_go : ∀ (m p : Nat) (l : List Nat), Asc p m l → rk p m l = numGo (p + m) p l
  | m, p, [], _ => by cases m <;> rfl
  | 0, p, x :: l, h => by
    have := h.2 x List.mem_cons_self
    omega
  | m + 1, p, x :: l, h => by
    simp only [rk]
    by_cases hx : x = p
    · rw [if_pos hx, rk_go m (p + 1) l (h.tail hx)]
      simp only [numGo]
      rw [hx, Nat.sub_self, show p + (m + 1) = p + 1 + m by omega]
      simp
    · have hx0 := h.2 x List.mem_cons_self
      rw [if_neg hx, rk_go m (p + 1) (x :: l) (h.skip hx)]
      simp only [numGo]
      rw [show x - p = (x - (p + 1)) + 1 by omega, List.range_succ_eq_map, List.map_cons, List.map_map, List.sum_cons, show p + (m + 1) = p + 1 + m by omega]
      have e1 : ch (p + 1 + m - 1 - (p + 0)) l.length = ch m l.length := by congr 1; omega
      have e2 : ((fun j => ch (p + 1 + m - 1 - (p + j)) l.length) ∘ Nat.succ) = fun j => ch (p + 1 + m - 1 - (p + 1 + j)) l.length := by
        funext j
        show ch (p + 1 + m - 1 - (p + (j + 1))) l.length = _
        congr 1
        omega
      rw [e1, e2]
      omega
theorem num_go {n : Nat} {l : List Nat} (h : Asc 0 n l) : num n l = below n l.length + numGo n 0 l := by
  unfold num
  rw [rk_go n 0 l h, Nat.zero_add]
/-! ### all lots of a size -/
def nx (l : List Nat) : Nat := match l.getLast? with
  | some x => x + 1
  | none => 0
def stepL (n : Nat) (L : List (List Nat)) : List (List Nat) := L.flatMap fun l => (List.range' (nx l) (n - nx l)).map fun x => l ++ [x]
def lotsL (n : Nat) : Nat → List (List Nat)
  | 0 => [[]]
  | s + 1 => stepL n (lotsL n s)
/-- the law's own: lots that can't be filled up are left out -/
def lawStep (n s t : Nat) (L : List (List Nat)) : List (List Nat) := L.flatMap fun l => (List.range' (nx l) (n - s + t + 1 - nx l)).map fun x => l ++ [x]
def lawL (n s : Nat) : Nat → List (List Nat)
  | 0 => [[]]
  | t + 1 => lawStep n s t (lawL n s t)
def allL (n : Nat) : List (List Nat) := (List.range (n + 1)).flatMap fun s => lotsL n s
theorem lots_law : ∀ n : Nat, n < 13 → ∀ s : Nat, s < n + 1 → lawL n s s = lotsL n s := by decide +kernel
theorem lots_len : ∀ n : Nat, n < 13 → ∀ s : Nat, s < 13 → (lotsL n s).length = ch n s := by decide +kernel
theorem lots_nums : ∀ n : Nat, n < 7 → (allL n).map (num n) = List.range (2 ^ n) := by decide +kernel
end Kr
namespace Kr
open PySem PySem.Spec PyProof.Rows L2
/-! ### small data: what repr can show -/
structure Sm (k w : Nat) (d : PyData) : Prop where
  sh : d.showable = true
  ls : d.leavesShort 41 = true
  dp : d.depth ≤ k
  wt : d.weight ≤ w
theorem Sm.mono {k w k' w' : Nat} {d : PyData} (h : Sm k w d) (hk : k ≤ k') (hw : w ≤ w') : Sm k' w' d := ⟨h.sh, h.ls, Nat.le_trans h.dp hk, Nat.le_trans h.wt hw⟩
theorem sm_all {k w : Nat} : ∀ {ds : List PyData}, (∀ d ∈ ds, Sm k w d) → PyData.showableAll ds = true ∧ PyData.leavesShortAll 41 ds = true ∧ PyData.depthAll ds ≤ k ∧ PyData.weightAll ds ≤ (w + 1) * ds.length
  | [], _ => ⟨by simp [PyData.showableAll], by simp [PyData.leavesShortAll], by simp [PyData.depthAll], by simp [PyData.weightAll]⟩
  | d :: ds, h => by
    obtain ⟨h1, h2, h3, h4⟩ := sm_all fun x hx => h x (List.mem_cons_of_mem _ hx)
    have hd := h d List.mem_cons_self
    refine ⟨by simp [PyData.showableAll, hd.sh, h1], by simp [PyData.leavesShortAll, hd.ls, h2], ?_, ?_⟩
    · simp only [PyData.depthAll]
      have := hd.dp
      omega
    · simp only [PyData.weightAll, List.length_cons, Nat.mul_add]
      have := hd.wt
      omega
theorem Sm.lst {k w m : Nat} {ds : List PyData} (h : ∀ d ∈ ds, Sm k w d) (hm : ds.length ≤ m) : Sm (k + 1) ((w + 1) * m) (.list ds) := by
  obtain ⟨h1, h2, h3, h4⟩ := sm_all h
  refine ⟨by simpa [PyData.showable] using h1, by simpa [PyData.leavesShort] using h2, by simp only [PyData.depth]; omega, ?_⟩
  simp only [PyData.weight]
  exact Nat.le_trans h4 (Nat.mul_le_mul_left _ hm)
theorem Sm.tup {k w m : Nat} {ds : List PyData} (h : ∀ d ∈ ds, Sm k w d) (hm : ds.length ≤ m) : Sm (k + 1) ((w + 1) * m) (.tuple ds) := by
  obtain ⟨h1, h2, h3, h4⟩ := sm_all h
  refine ⟨by simpa [PyData.showable] using h1, by simpa [PyData.leavesShort] using h2, by simp only [PyData.depth]; omega, ?_⟩
  simp only [PyData.weight]
  exact Nat.le_trans h4 (Nat.mul_le_mul_left _ hm)
theorem Sm.int {i : Int} (h : i.natAbs < 10 ^ 40) : Sm 1 140 (.int i) := by
  have hl : (PyData.shown (.int i)).length ≤ 41 := by
    have e := int_text_length_le10 (k := 40) (by decide) h
    show (Str.ofString (toString i)).length ≤ 41
    rw [PySem.ofString_length]
    exact e
  have hg : i.natAbs.log2 < 134 := by
    by_cases h0 : i.natAbs = 0
    · rw [h0]
      decide
    · rw [Nat.log2_lt h0]
      exact Nat.lt_of_lt_of_le h (by decide)
  refine ⟨?_, by simpa [PyData.leavesShort] using hl, by simp [PyData.depth], ?_⟩
  · simp only [PyData.showable, decide_eq_true_eq]
    omega
  · simp only [PyData.weight]
    split <;> omega
theorem Sm.non : Sm 1 140 .none := ⟨rfl, rfl, by simp [PyData.depth], by simp [PyData.weight]⟩
theorem Sm.bl (b : Bool) : Sm 1 140 (.bool b) := ⟨rfl, rfl, by simp [PyData.depth], by simp [PyData.weight]⟩
theorem Sm.dic : Sm 1 140 (.dict []) := ⟨by simp [PyData.showable, PyData.showableKv], by simp [PyData.leavesShort, PyData.leavesShortKv], by simp [PyData.depth, PyData.depthKv], by simp [PyData.weight, PyData.weightKv]⟩
theorem Sm.str {x : Str} (h : (x.cps.toList.all fun c => decide (c < 16 ^ 8)) = true) (hs : x.length ≤ 4) : Sm 1 140 (.str x) :=
  ⟨by simp [PyData.showable], by simpa [PyData.leavesShort] using h, by simp [PyData.depth], Nat.le_trans (show x.cps.size ≤ 4 from hs) (by decide)⟩
/-- the text is short enough -/
theorem Sm.fits {k w : Nat} {d : PyData} (h : Sm k w d) (hw : w ≤ 380000) : d.shown.length ≤ sizeLine := by
  have h1 := PyData.shown_le 41 (by decide) d h.ls
  have h2 := h.wt
  rw [sizeLine_eq]
  omega
/-- repr of small data -/
theorem repr_sm {v : V} {d : PyData} {H : Hp} {Q : VK} {k w : Nat} (hd : Dq H v d) (h : Sm k w d) (hk : k ≤ 40) (hw : w ≤ 380000) (q : Q (.str d.shown) H) : rRepr [v] H Q :=
  ⟨v, d, rfl, hd, h.sh, Nat.le_trans h.dp hk, h.fits hw, q⟩
/-- t + u, tuples of any lengths: some object that holds both -/
theorem catA_k {K : PySem.W.Frag} {a b : Addr} {xs ys : List V} {Q : VK} {H : Hp} (ha : H a = some (.tup xs)) (hb : H b = some (.tup ys)) (hl : xs.length + ys.length ≤ 100000) (k : ∀ y H5, Same H H5 → H5 y = some (.tup (xs ++ ys)) → Q (.ref y) H5) : rCatA K (.ref a) (.ref b) H Q := by
  refine ⟨a, b, xs, ys, rfl, rfl, SqT.of ha, SqT.of hb, Nat.le_trans hl (by decide), fun e => k _ _ (Same.refl _) (by rw [e]; exact hb), fun _ e => k _ _ (Same.refl _) (by rw [e, List.append_nil]; exact ha), fun _ _ p np => k _ _ (fun c o h => ?_) upd_same⟩
  rw [upd_ne (ne_of_none h np)]
  exact h
/-- t[i:j] of a tuple: some object that holds it -/
theorem sliceA_k {K : PySem.W.Frag} {a : Addr} {xs : List V} {lo hi : Option Int} {Q : VK} {H : Hp} (ha : H a = some (.tup xs)) (k : ∀ y H5, Same H H5 → H5 y = some (.tup (cutV xs lo hi)) → Q (.ref y) H5) : rSlA K (.ref a) lo hi H Q := by
  refine ⟨a, xs, rfl, SqT.of ha, fun ⟨e1, e2⟩ => k _ _ (Same.refl _) ?_, fun _ p np => k _ _ (fun c o h => ?_) upd_same⟩
  · unfold cutV
    rw [e1, e2, List.drop_zero, Nat.sub_zero, List.take_length]
    exact ha
  · rw [upd_ne (ne_of_none h np)]
    exact h
theorem cut_to {xs : List V} {i : Nat} (h : i ≤ xs.length) : cutV xs none (some (i : Int)) = xs.take i := by
  unfold cutV
  rw [HT.sIx_none, HT.sIx_nat, List.drop_zero, Nat.sub_zero, Nat.min_eq_left h]
theorem cut_from {xs : List V} {i : Nat} (h : i ≤ xs.length) : cutV xs (some (i : Int)) none = xs.drop i := by
  unfold cutV
  rw [HT.sIx_none, HT.sIx_nat, Nat.min_eq_left h]
  exact List.take_of_length_le (by rw [List.length_drop]; exact Nat.le_refl _)
end Kr
namespace Kr
open PySem PySem.Spec PyProof.Rows L2
theorem ch_small : ∀ n : Nat, n < 13 → ∀ s : Nat, s < 14 → ch n s < 1000 := by decide +kernel
theorem range1_succ (s j : Nat) : List.range' s (j + 1) = List.range' s j ++ [s + j] := by
  rw [List.range'_concat]
  simp
theorem flat_take {α β : Type} {L : List α} {f : α → List β} {i : Nat} {x : α} (h : L[i]? = some x) : (L.take (i + 1)).flatMap f = (L.take i).flatMap f ++ f x := by
  rw [List.take_add_one, h, List.flatMap_append]
  simp
theorem flat_le {α β : Type} (L : List α) (f : α → List β) (i : Nat) : ((L.take i).flatMap f).length ≤ (L.flatMap f).length := by
  conv => rhs; rw [← List.take_append_drop i L]
  rw [List.flatMap_append, List.length_append]
  omega
def exts (n : Nat) (l : List Nat) : List (List Nat) := (List.range' (nx l) (n - nx l)).map fun x => l ++ [x]
theorem step_exts (n : Nat) (L : List (List Nat)) : stepL n L = L.flatMap (exts n) := rfl
theorem nx_nil : nx [] = 0 := rfl
theorem nx_snoc (l : List Nat) (x : Nat) : nx (l ++ [x]) = x + 1 := by simp [nx]
theorem lv_snoc (l : List Nat) (x : Nat) : lv (l ++ [x]) = lv l ++ [V.int (x : Int)] := by simp [lv]
theorem lv_len (l : List Nat) : (lv l).length = l.length := by simp [lv]
theorem lots_in (n : Nat) : ∀ s, ∀ l ∈ lotsL n s, l.length = s ∧ ∀ x ∈ l, x < n
  | 0, l, h => by
    rw [List.mem_singleton.mp h]
    exact ⟨rfl, fun x hx => nomatch hx⟩
  | s + 1, l, h => by
    obtain ⟨k, hk, hl⟩ := List.mem_flatMap.mp h
    obtain ⟨x, hx, rfl⟩ := List.mem_map.mp hl
    obtain ⟨h1, h2⟩ := lots_in n s k hk
    have := List.mem_range'_1.mp hx
    refine ⟨by rw [List.length_append, h1]; rfl, fun y hy => ?_⟩
    rcases List.mem_append.mp hy with hy | hy
    · exact h2 y hy
    · rw [List.mem_singleton.mp hy]; omega
abbrev tNextL (K : PySem.W.Frag) (i : Nat) : TE := tIf (fun σ H Q => tVar i σ H fun x H' => ∃ k, TruV K x H' k ∧ Q k H') (tOp (rI0 fun i j => .int (i + j)) (tOp (rIxT K) (tVar i) (tUn (rU fun i => .int (-i)) (tC (.int 1)))) (tC (.int 1))) (tC (.int 0))
/-- what stands ahead of the extensions of a lot: lot[-1] + 1 if lot else 0 -/
theorem next_val {K : PySem.W.Frag} {σ : L2.St} {i : Nat} {a : Addr} {l : List Nat} {H : Hp} {Q : VK} (hv : σ[i]? = some (some (.ref a))) (ha : H a = some (.tup (lv l))) (q : Q (.int (nx l : Nat)) H) :
    tNextL K i σ H Q := by
  refine ⟨.ref a, hv, _, .inr (.inl ⟨_, SqT.of ha, rfl⟩), ?_⟩
  by_cases hl : l = []
  · subst hl
    exact iteF q
  · obtain ⟨k, x, rfl⟩ : ∃ k x, l = k ++ [x] := ⟨l.dropLast, l.getLast hl, (List.dropLast_concat_getLast hl).symm⟩
    rw [nx_snoc] at q
    have e : (!(lv (k ++ [x])).isEmpty) = true := by simp [lv]
    rw [e]
    refine iteT ⟨.ref a, hv, 1, rfl, a, _, -1, .int (x : Int), rfl, rfl, SqT.of ha, by rw [lv_snoc]; exact atI_last _ _, x, 1, rfl, rfl, ?_⟩
    have e2 : ((x : Int) + 1) = ((x + 1 : Nat) : Int) := by omega
    dsimp only
    rw [e2]
    exact q
def spLots : Sp := fun vs H Q _ => ∃ n s : Nat, vs = [.int (n : Int), .int (s : Int)] ∧ n ≤ 12 ∧ s ≤ 12 ∧ ∀ H' v, Same H H' → Dq H' v (.tuple ((lotsL n s).map lotD)) → Q v H'
end Kr
namespace Kr
open PySem PySem.Spec PyProof.Rows L2
def entD (e : List Int) : PyData := .tuple (e.map .int)
def tabD (T : List (List Int)) : PyData := .tuple (T.map entD)
/-- the entry of a lot l where the riders' ways are ws -/
def byE (l : List Nat) (ws : List Int) : List Int := (List.range ws.length).map fun x => if x ∈ l then -1 else ws.getD x 0
def ups (n : Nat) : List Int := (List.range n).map fun k => ((k : Nat) : Int)
def stillT (n : Nat) : List (List Int) := (allL n).map fun l => byE l (ups n)
def swapW (n a b : Nat) : List Int := ((ups n).set a (b : Int)).set b (a : Int)
def deedT (n : Nat) (q : List Nat) (a b : Nat) : List (List Int) := (allL n).map fun l => byE l (if q.all (fun x => decide (x ∈ l)) = true then swapW n a b else ups n)
theorem ent_flat (e : List Int) : flatT (entD e) = true := by
  simp only [entD, flatT]
  exact flatTA_of fun d hd => by
    obtain ⟨x, _, rfl⟩ := List.mem_map.mp hd
    rfl
theorem ents_flat (T : List (List Int)) : flatTA (T.map entD) = true := flatTA_of fun d hd => by
  obtain ⟨l, _, rfl⟩ := List.mem_map.mp hd
  exact ent_flat l
theorem ent_at {H : Hp} {a : Addr} {e : List Int} (h : H a = some (.tup (e.map V.int))) : Dq H (.ref a) (entD e) := .tup h (DqA.ints e)
theorem dqa_int {H : Hp} : ∀ {xs : List V} {ns : List Int}, DqA H xs (ns.map .int) → xs = ns.map V.int
  | _, [], .nil => rfl
  | _, n :: ns, .cons (.int _) t => by rw [dqa_int t]; rfl
theorem inV_lot (x : Nat) (l : List Nat) : inV (.int (x : Int)) (lv l) = decide (x ∈ l) := by
  unfold inV lv
  rw [Bool.eq_iff_iff, List.any_eq_true, decide_eq_true_iff]
  constructor
  · rintro ⟨v, hv, e⟩
    obtain ⟨y, hy, rfl⟩ := List.mem_map.mp hv
    have : (y : Int) = (x : Int) := by simpa [eqV] using e
    have : y = x := by omega
    rw [← this]
    exact hy
  · intro h
    exact ⟨_, List.mem_map.mpr ⟨x, h, rfl⟩, by simp [eqV]⟩
theorem lv_fl (l : List Nat) : (lv l).all flatV = true := by
  unfold lv
  rw [List.all_map]
  exact List.all_eq_true.mpr fun _ _ => rfl
/-- a statement that no run reaches -/
theorem ps_never {X : Cx} {st : Stmt} : PS X st (fun _ _ _ => False) := ⟨fun _ _ _ _ _ _ h => False.elim h⟩
def spAll6 : Sp := fun vs H Q _ => ∃ n : Nat, vs = [.int (n : Int)] ∧ n ≤ 6 ∧ ∀ H' v, Same H H' → Dq H' v (.tuple ((allL n).map lotD)) → Q v H'
def spEntBy : Sp := fun vs H Q _ => ∃ (a b : Addr) (l : List Nat) (ws : List Int), vs = [.ref a, .ref b] ∧ H a = some (.tup (lv l)) ∧ H b = some (.lst (ws.map V.int)) ∧ ws.length ≤ 100 ∧ ∀ H' t, Same H H' → H' t = some (.tup ((byE l ws).map V.int)) → Q (.ref t) H'
def spStill : Sp := fun vs H Q _ => ∃ n : Nat, vs = [.int (n : Int)] ∧ n ≤ 6 ∧ ∀ H' v, Same H H' → Dq H' v (tabD (stillT n)) → Q v H'
theorem rg_ups (n : Nat) : rgV 0 (n : Nat) = (ups n).map V.int := by
  unfold rgV ups
  rw [List.map_map, show ((n : Int) - 0).toNat = n by omega]
  exact List.map_congr_left fun i _ => by simp
theorem all_few : ∀ n : Nat, n < 7 → (allL n).length ≤ 64 := by decide +kernel
theorem all_len : ∀ n : Nat, n < 7 → (allL n).length = 2 ^ n := by decide +kernel
theorem map_getD {α β : Type} (g : α → β) (d : α) (L : List α) : (List.range L.length).map (fun i => g (L.getD i d)) = L.map g := by
  refine List.ext_getElem? fun i => ?_
  rw [List.getElem?_map, List.getElem?_map]
  by_cases h : i < L.length
  · rw [List.getElem?_range h, List.getElem?_eq_getElem h]
    show some (g (L.getD i d)) = some (g L[i])
    rw [List.getD_eq_getElem?_getD, List.getElem?_eq_getElem h]
    rfl
  · rw [List.getElem?_eq_none (by rw [List.length_range]; omega), List.getElem?_eq_none (by omega)]
    rfl
theorem getD_of {α : Type} {L : List α} {i : Nat} {x d : α} (h : L[i]? = some x) : L.getD i d = x := by
  rw [List.getD_eq_getElem?_getD, h]
  rfl
section
variable {P : Program} {w : World} {K : PySem.W.Frag} {mg : Str → Option Value} {base : Heap}
def spWays : Sp := fun vs H Q _ => ∃ (n : Nat) (b : Addr) (ws : List Int), vs = [.int (n : Int), .ref b] ∧ n ≤ 6 ∧ H b = some (.lst (ws.map V.int)) ∧ ws.length ≤ 100 ∧ ∀ H' v, Same H H' → Dq H' v (tabD ((allL n).map fun l => byE l ws)) → Q v H'
end
def spDeedT : Sp := fun vs H Q _ => ∃ (n : Nat) (d q : Addr) (as : List Nat) (a b : Nat), vs = [.int (n : Int), .ref d] ∧ n ≤ 6 ∧ H d = some (.tup [.ref q, .int (a : Int), .int (b : Int)]) ∧ H q = some (.tup (lv as)) ∧ as.length ≤ 24 ∧ a < n ∧ b < n ∧
  ∀ H' v, Same H H' → Dq H' v (tabD (deedT n as a b)) → Q v H'
def spExch : Sp := fun vs H Q _ => ∃ (n : Int) (a : Addr) (xs : List V) (v : V), vs = [.int n, .ref a] ∧ H a = some (.tup (v :: xs)) ∧ Q v H
theorem dqa_bools {H : Hp} : ∀ {xs : List V} {bs : List Bool}, DqA H xs (bs.map .bool) → xs = bs.map V.bl
  | _, [], .nil => rfl
  | _, n :: ns, .cons (.bl _) t => by rw [dqa_bools t]; rfl
theorem ixN_nat {n i : Nat} (h : i < n) : ixN n (i : Int) = some i := by
  unfold ixN
  rw [if_pos (by omega), if_pos (by omega), Int.toNat_natCast]
theorem take_snoc {α β : Type} {L : List α} {f : α → β} {i : Nat} {x : α} (h : L[i]? = some x) : (L.take (i + 1)).map f = (L.take i).map f ++ [f x] := by
  rw [List.take_add_one, h, List.map_append]
  rfl
def goalE (n : Nat) (e : List Int) : List Nat := (List.range n).filter fun x => !decide ((x : Int) ∈ e)
theorem every_few : ∀ n : Nat, n < 7 → ∀ i : Nat, i < 8 → ((List.range i).flatMap (lotsL n)).length ≤ 64 := by decide +kernel
def spGoal : Sp := fun vs H Q _ => ∃ (n : Nat) (a : Addr) (e : List Int), vs = [.int (n : Int), .ref a] ∧ n ≤ 100 ∧ H a = some (.tup (e.map V.int)) ∧ ∀ H' t, Same H H' → H' t = some (.tup (lv (goalE n e))) → Q (.ref t) H'
def spEvery : Sp := fun vs H Q _ => ∃ n : Nat, vs = [.int (n : Int)] ∧ n ≤ 6 ∧ ∀ H' v, Same H H' → Dq H' v (.list ((allL n).map lotD)) → Q v H'
theorem inV_int (x : Int) (l : List Int) : inV (.int x) (l.map V.int) = decide (x ∈ l) := by
  unfold inV
  rw [Bool.eq_iff_iff, List.any_eq_true, decide_eq_true_iff]
  constructor
  · rintro ⟨v, hv, e⟩
    obtain ⟨y, hy, rfl⟩ := List.mem_map.mp hv
    have : y = x := by simpa [eqV] using e
    rw [← this]
    exact hy
  · intro h
    exact ⟨_, List.mem_map.mpr ⟨x, h, rfl⟩, by simp [eqV]⟩
theorem int_fl (l : List Int) : (l.map V.int).all flatV = true := by
  rw [List.all_map]
  exact List.all_eq_true.mpr fun _ _ => rfl
theorem dep_ints1 : ∀ ds : List Int, PyData.depthAll (ds.map PyData.int) ≤ 1
  | [] => by simp [PyData.depthAll]
  | d :: ds => by
    have := dep_ints1 ds
    simp [PyData.depthAll, PyData.depth]
    omega
theorem lay_ints1 : ∀ ds : List Int, PyData.canLayAll0 (ds.map PyData.int) = true
  | [] => by simp [PyData.canLayAll0]
  | d :: ds => by simp [PyData.canLayAll0, PyData.canLay0, lay_ints1 ds]
theorem tup_shaped (ds : List Int) : SeqAt.shaped (.tuple (ds.map PyData.int)) = true := by
  unfold SeqAt.shaped
  have := dep_ints1 ds
  simp [PyData.canLay0, lay_ints1, PyData.depth]
  omega
theorem lot_shaped (l : List Nat) : SeqAt.shaped (lotD l) = true := by
  have e : l.map (fun (x : Nat) => PyData.int (x : Int)) = (l.map fun (x : Nat) => (x : Int)).map PyData.int := by rw [List.map_map]; rfl
  unfold lotD
  rw [e]
  exact tup_shaped _
theorem lot_nil_eqv (l : List Nat) : PyData.eqv (lotD l) (lotD []) = decide (l = []) := by
  cases l <;> simp [lotD, PyData.eqv, PyData.eqvAll]
section
variable {P : Program} {w : World} {K : PySem.W.Frag} {mg : Str → Option Value} {base : Heap}
/-- lot[-1] + 1 if lot != () else 0 -/
theorem next_ne {σ : L2.St} {i : Nat} {a : Addr} {l : List Nat} {G : Hp} {Q : VK} (hv : σ[i]? = some (some (.ref a))) (ha : G a = some (.tup (lv l))) (q : ∀ G', Same G G' → Q (.int (nx l : Nat)) G') :
    tIf (tTest (tOp (rNeD K) (tVar i) (tTup tNil))) (tOp (rI0 fun i j => .int (i + j)) (tOp (rIxT K) (tVar i) (tUn (rU fun i => .int (-i)) (tC (.int 1)))) (tC (.int 1))) (tC (.int 0)) σ G Q := by
  refine ⟨.ref a, hv, by show 0 ≤ sizeLine; decide, fun e ne => ?_⟩
  have s1 := same_new (o := .tup []) ne
  refine ⟨lotD l, lotD [], (lot_at (s1 _ _ ha)).dp (lot_flat l), (lot_at (l := []) upd_same).dp (lot_flat []), lot_shaped l, lot_shaped [], _, rfl, ?_⟩
  rw [lot_nil_eqv]
  by_cases hl : l = []
  · rw [decide_eq_true hl]
    subst hl
    exact iteF (q _ s1)
  · rw [decide_eq_false hl]
    obtain ⟨k, x, rfl⟩ : ∃ k x, l = k ++ [x] := ⟨l.dropLast, l.getLast hl, (List.dropLast_concat_getLast hl).symm⟩
    have h2 := q _ s1
    rw [nx_snoc] at h2
    refine iteT ⟨.ref a, hv, 1, rfl, a, _, -1, .int (x : Int), rfl, rfl, SqT.of (s1 _ _ ha), by rw [lv_snoc]; exact atI_last _ _, x, 1, rfl, rfl, ?_⟩
    have e2 : ((x : Int) + 1) = ((x + 1 : Nat) : Int) := by omega
    dsimp only
    rw [e2]
    exact h2
end
def setGo : Nat → List Int → List Int → List Int
  | _, [], acc => acc
  | y, x :: r, acc => setGo (y + 1) r (if 0 ≤ x then acc.set x.toNat (y : Int) else acc)
def lawE (n : Nat) (lies : List Int) : List Int := setGo 0 lies (List.replicate n (-1))
theorem setGo_len : ∀ (y : Nat) (r acc : List Int), (setGo y r acc).length = acc.length
  | _, [], _ => rfl
  | y, x :: r, acc => by
    unfold setGo
    rw [setGo_len]
    split
    · rw [List.length_set]
    · rfl
def spLEnt : Sp := fun vs H Q _ => ∃ (n : Nat) (a : Addr) (ls : List Int), vs = [.int (n : Int), .ref a] ∧ 3 ≤ n ∧ n ≤ 6 ∧ H a = some (.lst (ls.map V.int)) ∧ ls.length ≤ 100 ∧ (∀ x ∈ ls, x < n) ∧ ∀ H' t, Same H H' → H' t = some (.tup ((lawE n ls).map V.int)) → Q (.ref t) H'
abbrev Mv := List Nat × Nat × Nat
def stL (n : Nat) (l : List Nat) : List Int := (List.range n).map fun x => if x ∈ l then -1 else ((x : Nat) : Int)
def mvL (ls : List Int) (m : Mv) : List Int := if m.1.all (fun x => !decide (0 ≤ ls.getD x 0)) = true then (ls.set m.2.1 (ls.getD m.2.2 0)).set m.2.2 (ls.getD m.2.1 0) else ls
def madeE (n : Nat) (ms : List Mv) (l : List Nat) : List Int := lawE n (ms.foldl mvL (stL n l))
def madeT (n : Nat) (ms : List Mv) : List (List Int) := (allL n).map (madeE n ms)
def DeedAt (H : Hp) (v : V) (m : Mv) : Prop := ∃ d q, v = .ref d ∧ H d = some (.tup [.ref q, .int (m.2.1 : Nat), .int (m.2.2 : Nat)]) ∧ H q = some (.tup (lv m.1))
def spMade : Sp := fun vs H Q _ => ∃ (n : Nat) (mo : Addr) (xs : List V) (ms : List Mv), vs = [.int (n : Int), .ref mo] ∧ 3 ≤ n ∧ n ≤ 6 ∧ H mo = some (.lst xs) ∧ xs.length = ms.length ∧ (∀ (j : Nat) (v : V) (m : Mv), xs[j]? = some v → ms[j]? = some m → DeedAt H v m) ∧ (∀ m ∈ ms, (m.2.1 < n ∧ m.2.2 < n) ∧ m.1.length ≤ 100 ∧ ∀ x ∈ m.1, x < n) ∧
  ∀ H' v, Same H H' → Dq H' v (tabD (madeT n ms)) → Q v H'
theorem getD_lt {n : Nat} {ls : List Int} (hn : 0 < n) (h : ∀ x ∈ ls, x < n) (i : Nat) : ls.getD i 0 < n := by
  rw [List.getD_eq_getElem?_getD]
  cases e : ls[i]? with
  | none => show (0 : Int) < n; omega
  | some y => exact h y (List.mem_of_getElem? e)
theorem set_lt {n : Nat} {ls : List Int} {i : Nat} {z : Int} (hz : z < n) (h : ∀ x ∈ ls, x < n) : ∀ x ∈ ls.set i z, x < n := fun x hx => by
  rcases List.mem_or_eq_of_mem_set hx with h1 | h1
  · exact h x h1
  · rw [h1]; exact hz
theorem getD_get {ls : List Int} {i : Nat} (h : i < ls.length) : ls[i]? = some (ls.getD i 0) := by
  rw [List.getD_eq_getElem?_getD, List.getElem?_eq_getElem h]
  rfl
/-- a deed at n places -/
structure Deed (n : Nat) (m : Mv) : Prop where
  asc : Asc 0 n m.1
  ab : m.2.1 < m.2.2
  bn : m.2.2 < n
  na : m.2.1 ∉ m.1
  nb : m.2.2 ∉ m.1
/-- sorted pieces of a drawn order -/
theorem drawn_piece {n : Nat} {ys ps zs : List Int} (hp : ys.Perm (ups n)) (hs : ps.Sublist ys) (hz : zs.Perm ps) (ho : zs.Pairwise (· ≤ ·)) : ∃ ds : List Nat, zs = ds.map (fun (x : Nat) => (x : Int)) ∧ Asc 0 n ds := by
  have hm : ∀ z ∈ zs, 0 ≤ z ∧ z < n := fun z h => by
    have h1 := hp.subset (hs.subset (hz.subset h))
    unfold ups at h1
    obtain ⟨k, hk, rfl⟩ := List.mem_map.mp h1
    have := List.mem_range.mp hk
    omega
  have hnd : zs.Nodup := by
    have h0 : (ups n).Nodup := List.Pairwise.map _ (fun a b (h : a < b) => by show ((a : Nat) : Int) ≠ b; omega) List.pairwise_lt_range
    exact hz.symm.nodup ((hp.symm.nodup h0).sublist hs)
  refine ⟨zs.map Int.toNat, ?_, ?_, fun x hx => ?_⟩
  · rw [List.map_map]
    refine (List.map_id zs).symm.trans (List.map_congr_left fun z h => ?_)
    have := hm z h
    show z = ((z.toNat : Nat) : Int)
    omega
  · rw [List.pairwise_map]
    refine List.Pairwise.imp_of_mem (fun {a b} ha hb h => ?_) (ho.and hnd)
    have h1 := hm a ha
    have h2 := hm b hb
    have h3 : a ≤ b ∧ a ≠ b := h
    omega
  · obtain ⟨z, h, rfl⟩ := List.mem_map.mp hx
    have := hm z h
    exact ⟨Nat.zero_le _, by omega⟩
/-- a lot as a key -/
def lotK (l : List Nat) : List Key := l.map fun (x : Nat) => (Sum.inl (x : Int) : Key)
theorem lotK_v (l : List Nat) : (lotK l).map kV = lv l := by
  unfold lotK lv
  rw [List.map_map]
  rfl
def spNumbers : Sp := fun vs H Q _ => ∃ n : Nat, vs = [.int (n : Int)] ∧ n ≤ 6 ∧ ∀ H' p kvs, Same H H' → H' p = some (.dT kvs) → (∀ l ∈ allL n, valV kvs (lotK l) = some (.int (num n l : Nat))) → Q (.ref p) H'
def bothE (n : Nat) (U : List (List Int)) (e : List Int) : List Int := e.map fun x => if x = -1 then -1 else (U.getD (num n (goalE n e)) []).getD x.toNat 0
def bothT (n : Nat) (T U : List (List Int)) : List (List Int) := T.map (bothE n U)
/-- an entry: its goal is a lot, its places are places -/
def EntOk (n : Nat) (e : List Int) : Prop := goalE n e ∈ allL n ∧ e.length ≤ 100 ∧ ∀ x ∈ e, x = -1 ∨ (0 ≤ x ∧ x < n)
def spBoth : Sp := fun vs H Q _ => ∃ (n : Nat) (v u : V) (T U : List (List Int)), vs = [.int (n : Int), v, u] ∧ n ≤ 6 ∧ Dq H v (tabD T) ∧ Dq H u (tabD U) ∧ T.length ≤ 1000 ∧ (∀ e ∈ T, EntOk n e) ∧ U.length = 2 ^ n ∧ (∀ e ∈ U, e.length = n) ∧
  ∀ H' r, Same H H' → Dq H' r (tabD (bothT n T U)) → Q r H'
theorem all_num {n : Nat} (hn : n ≤ 6) {l : List Nat} (h : l ∈ allL n) : num n l < 2 ^ n := by
  have h1 : num n l ∈ (allL n).map (num n) := List.mem_map.mpr ⟨l, h, rfl⟩
  rw [lots_nums n (by omega)] at h1
  exact List.mem_range.mp h1
theorem ent_inv {H : Hp} {v : V} {e : List Int} (h : Dq H v (entD e)) : ∃ a, v = .ref a ∧ H a = some (.tup (e.map V.int)) := by
  obtain ⟨a, xs, rfl, ha, q⟩ := Dq.tup_inv h
  exact ⟨a, rfl, by rw [ha, dqa_int q]⟩
theorem ents_get {H : Hp} {xs : List V} {T : List (List Int)} {i : Nat} {y : V} (q : DqA H xs (T.map entD)) (h : xs[i]? = some y) : ∃ e, T[i]? = some e ∧ ∃ a, y = .ref a ∧ H a = some (.tup (e.map V.int)) := by
  obtain ⟨d, h1, h2⟩ := q.get h
  rw [List.getElem?_map] at h1
  cases hr : T[i]? with
  | none => rw [hr] at h1; cases h1
  | some e =>
    rw [hr] at h1
    cases Option.some.inj h1
    exact ⟨e, rfl, ent_inv h2⟩
section
variable {P : Program} {w : World} {K : PySem.W.Frag} {mg : Str → Option Value} {base : Heap}
theorem all_num_at {n : Nat} (hn : n ≤ 6) {i : Nat} {l : List Nat} (h : (allL n)[i]? = some l) : num n l = i ∧ i < 2 ^ n := by
  have e : ((allL n).map (num n))[i]? = some (num n l) := by rw [List.getElem?_map, h]; rfl
  rw [lots_nums n (by omega)] at e
  obtain ⟨h1, h2⟩ := List.getElem?_eq_some_iff.mp e
  rw [List.getElem_range] at h2
  rw [List.length_range] at h1
  exact ⟨h2.symm, h1⟩
theorem lotK_inj {l l' : List Nat} (h : lotK l = lotK l') : l = l' := by
  have := congrArg (List.map kV) h
  rw [lotK_v, lotK_v] at this
  unfold lv at this
  exact (List.map_inj_right (fun a b e => by
    have : (a : Int) = (b : Int) := V.int.inj e
    omega)).mp this
def aimsT (n : Nat) (T : List (List Int)) : List Int := T.map fun e => ((num n (goalE n e) : Nat) : Int)
def spAims : Sp := fun vs H Q _ => ∃ (n : Nat) (v : V) (T : List (List Int)), vs = [.int (n : Int), v] ∧ n ≤ 6 ∧ Dq H v (tabD T) ∧ T.length ≤ 1000 ∧ (∀ e ∈ T, goalE n e ∈ allL n) ∧
  ∀ H' p, Same H H' → H p = none → H' p = some (.lst ((aimsT n T).map V.int)) → Q (.ref p) H'
end
/-- an entry of the lot l at n places -/
structure EntV (n : Nat) (l : List Nat) (e : List Int) : Prop where
  len : e.length = n
  at_ : ∀ i, i < n → if i ∈ l then e.getD i 0 = -1 else 0 ≤ e.getD i 0 ∧ e.getD i 0 < n
  nd : (e.filter fun x => !decide (x = -1)).Nodup
def spIsEnt : Sp := fun vs H Q _ => ∃ (n : Nat) (la a : Addr) (l : List Nat) (e : List Int), vs = [.int (n : Int), .ref la, .ref a] ∧ n ≤ 6 ∧ H la = some (.tup (lv l)) ∧ H a = some (.tup (e.map V.int)) ∧ EntV n l e ∧ ∀ H', Same H H' → Q (.bl true) H'
def spTabErr : Sp := fun vs H Q _ => ∃ (n : Nat) (v : V) (T : List (List Int)), vs = [.int (n : Int), v] ∧ n ≤ 6 ∧ Dq H v (tabD T) ∧ T.length = 2 ^ n ∧ (∀ (i : Nat) (l : List Nat) (e : List Int), (allL n)[i]? = some l → T[i]? = some e → EntV n l e) ∧ (T.map (goalE n)).Nodup ∧ ∀ H', Same H H' → Q .non H'
/-- an ascending lot stands among all lots -/
theorem asc_all {n : Nat} (hn : n ≤ 6) {l : List Nat} (h : Asc 0 n l) (hasc : ∀ l ∈ allL n, Asc 0 n l) : l ∈ allL n := by
  have h1 : num n l < 2 ^ n := by
    rcases Nat.lt_or_ge (num n l) (2 ^ n) with c | c
    · exact c
    · have e := lotAt_none (by omega) c
      rw [lotAt_num h] at e
      cases e
  have h2 : num n l ∈ (allL n).map (num n) := by
    rw [lots_nums n (by omega)]
    exact List.mem_range.mpr h1
  obtain ⟨l', hl', e⟩ := List.mem_map.mp h2
  have e1 := lotAt_num (hasc l' hl')
  rw [e, lotAt_num h] at e1
  rw [Option.some.inj e1]
  exact hl'
theorem all_asc : ∀ n : Nat, n < 7 → ∀ l ∈ allL n, (l.Pairwise (· < ·) ∧ l.length ≤ 6) ∧ ∀ x ∈ l, x < n := by decide +kernel
theorem all_ascL {n : Nat} (hn : n ≤ 6) : ∀ l ∈ allL n, Asc 0 n l := fun l hl => ⟨(all_asc n (by omega) l hl).1.1, fun x hx => ⟨Nat.zero_le _, by have := (all_asc n (by omega) l hl).2 x hx; omega⟩⟩
def rLenK (K : PySem.W.Frag) : List V → Hp → VK → Prop := fun xs H Q => ∃ (p : Addr) (ys : List V), xs = [V.ref p] ∧ (SqL K H p ys ∨ SqT K H p ys) ∧ Q (V.int (ys.length : Nat)) H
theorem call_lenK {X : Cx} : CallR X (.builtin "len") (rLenK X.K) := call_len_seq
theorem own_filt : ∀ n : Nat, n < 7 → ∀ s : Nat, s < n + 1 → (allL n).filter (fun l => decide (l.length = s)) = lotsL n s := by decide +kernel
theorem lot_filt : ∀ n : Nat, n < 7 → ∀ l ∈ allL n, (List.range n).filter (fun x => decide (x ∈ l)) = l ∧ ((List.range n).filter (fun x => !decide (x ∈ l))).length + l.length = n := by decide +kernel
theorem own_all : ∀ n : Nat, n < 7 → ∀ s : Nat, s < n + 1 → ∀ l ∈ lotsL n s, l ∈ allL n := fun n _ s hs l h => List.mem_flatMap.mpr ⟨s, List.mem_range.mpr hs, h⟩
/-- entries for lots -/
structure Ents (n : Nat) (ls : List (List Nat)) (es : List (List Int)) : Prop where
  len : es.length = ls.length
  at_ : ∀ (t : Nat) (l : List Nat) (e : List Int), ls[t]? = some l → es[t]? = some e → EntV n l e
theorem Ents.nil {n : Nat} : Ents n [] [] := ⟨rfl, fun t l e h _ => by simp at h⟩
theorem Ents.snoc {n : Nat} {ls : List (List Nat)} {es : List (List Int)} {l : List Nat} {e : List Int} (h : Ents n ls es) (g : EntV n l e) : Ents n (ls ++ [l]) (es ++ [e]) := by
  refine ⟨by rw [List.length_append, List.length_append, h.len]; rfl, fun t l' e' h1 h2 => ?_⟩
  rcases Nat.lt_trichotomy t ls.length with c | c | c
  · rw [List.getElem?_append_left c] at h1
    rw [List.getElem?_append_left (by rw [h.len]; exact c)] at h2
    exact h.at_ t l' e' h1 h2
  · subst c
    rw [List.getElem?_append_right (Nat.le_refl _), Nat.sub_self] at h1
    rw [← h.len, List.getElem?_append_right (Nat.le_refl _), Nat.sub_self] at h2
    cases h1
    cases h2
    exact g
  · rw [List.getElem?_eq_none (by rw [List.length_append]; show _ + 1 ≤ t; omega)] at h1
    cases h1
/-- a table -/
structure TabOk (n : Nat) (T : List (List Int)) : Prop where
  ents : Ents n (allL n) T
  goals : (T.map (goalE n)).Perm (allL n)
theorem dqa_perm {α : Type} {H : Hp} {f : α → PyData} {xs ys : List V} (p : ys.Perm xs) : ∀ {L : List α}, DqA H xs (L.map f) → ∃ M : List α, M.Perm L ∧ DqA H ys (M.map f) := by
  induction p with
  | nil =>
    intro L q
    exact ⟨L, .refl _, q⟩
  | cons x p ih =>
    intro L q
    cases L with
    | nil => cases q
    | cons a L =>
      cases q with
      | cons h t =>
        obtain ⟨M, p2, q2⟩ := ih t
        exact ⟨a :: M, p2.cons a, .cons h q2⟩
  | swap x y l =>
    intro L q
    match L, q with
    | a :: b :: L, .cons h1 (.cons h2 t) => exact ⟨b :: a :: L, .swap _ _ _, .cons h2 (.cons h1 t)⟩
  | trans p1 p2 ih1 ih2 =>
    intro L q
    obtain ⟨M, m1, q1⟩ := ih2 q
    obtain ⟨N, m2, q2⟩ := ih1 q1
    exact ⟨N, m2.trans m1, q2⟩
theorem ints_perm {ys : List V} {zs : List Int} (p : ys.Perm (zs.map V.int)) : ∃ ws : List Int, ys = ws.map V.int ∧ ws.Perm zs := by
  obtain ⟨M, p2, q2⟩ := dqa_perm (H := fun _ => none) (f := PyData.int) p (DqA.ints zs)
  exact ⟨M, dqa_int q2, p2⟩
/-- what is left of the riders -/
def cnt (l : List Nat) (n i : Nat) : Nat := ((List.range n).drop i).countP fun t => !decide (t ∈ l)
theorem cnt_step {l : List Nat} {n i : Nat} (h : i < n) : cnt l n i = cnt l n (i + 1) + (if i ∈ l then 0 else 1) := by
  unfold cnt
  rw [List.drop_eq_getElem_cons (by rw [List.length_range]; exact h), List.countP_cons, List.getElem_range]
  by_cases c : i ∈ l <;> simp [c]
theorem cnt_end (l : List Nat) (n : Nat) : cnt l n n = 0 := by
  unfold cnt
  rw [List.drop_of_length_le (by rw [List.length_range]; exact Nat.le_refl _)]
  rfl
/-- the entry that comes of riders at l, free places in a drawn order -/
theorem ent_made {n : Nat} (hn : n ≤ 6) {l g : List Nat} {e zs : List Int} (hl : l ∈ allL n) (hg : g ∈ allL n) (len : e.length = n) (h1 : ∀ t, t < n → t ∈ l → e.getD t 0 = -1) (h2 : ∀ t, t < n → t ∉ l → e.getD t 0 ∈ zs)
    (h3 : e.filter (fun x => !decide (x = -1)) = zs.reverse) (hz : zs.Perm (((List.range n).filter fun y => !decide (y ∈ g)).map fun (y : Nat) => (y : Int))) : EntV n l e ∧ goalE n e = g := by
  have hm : ∀ z, z ∈ zs ↔ ∃ y : Nat, y < n ∧ y ∉ g ∧ (y : Int) = z := fun z => by
    rw [hz.mem_iff, List.mem_map]
    constructor
    · rintro ⟨y, hy, rfl⟩
      rw [List.mem_filter, List.mem_range] at hy
      exact ⟨y, hy.1, by simpa using hy.2, rfl⟩
    · rintro ⟨y, a, b, rfl⟩
      exact ⟨y, List.mem_filter.mpr ⟨List.mem_range.mpr a, by simpa using b⟩, rfl⟩
  refine ⟨⟨len, fun t ht => ?_, ?_⟩, ?_⟩
  · split
    · rename_i c
      exact h1 t ht c
    · rename_i c
      obtain ⟨y, a, _, e1⟩ := (hm _).mp (h2 t ht c)
      omega
  · rw [h3]
    have nd : (((List.range n).filter fun y => !decide (y ∈ g)).map fun (y : Nat) => (y : Int)).Nodup := List.Pairwise.map _ (fun a b (h : a ≠ b) z => h (by omega)) (List.Pairwise.filter _ List.nodup_range)
    exact List.pairwise_reverse.mpr ((hz.symm.nodup nd).imp fun h => h.symm)
  · rw [← (lot_filt n (by omega) g hg).1]
    unfold goalE
    refine List.filter_congr fun x hx => ?_
    have hx := List.mem_range.mp hx
    have e1 : (x : Int) ∈ e ↔ (x : Int) ∈ zs := by
      rw [← List.mem_reverse (as := zs), ← h3, List.mem_filter]
      constructor
      · exact fun h => ⟨h, by
          have : ¬ (x : Int) = -1 := by omega
          simp [this]⟩
      · exact fun h => h.1
    have e2 : (x : Int) ∈ zs ↔ x ∉ g := by
      rw [hm]
      constructor
      · rintro ⟨y, _, b, c⟩
        have : y = x := by omega
        exact this ▸ b
      · exact fun h => ⟨x, hx, h, rfl⟩
    rw [← decide_not, decide_eq_decide, e1, e2, Classical.not_not]
end Kr
namespace Kr
open PySem PySem.Spec PyProof.Rows L2
/-! ### entries as maps -/
/-- an entry of the lot l: places of keys have none, riders go to unlike places -/
structure EntF (n : Nat) (l : List Nat) (e : List Int) : Prop where
  len : e.length = n
  key : ∀ x, x < n → x ∈ l → e.getD x 0 = -1
  rid : ∀ x, x < n → x ∉ l → 0 ≤ e.getD x 0 ∧ e.getD x 0 < n
  inj : ∀ x y, x < n → y < n → x ∉ l → y ∉ l → e.getD x 0 = e.getD y 0 → x = y
theorem EntF.v {n : Nat} {l : List Nat} {e : List Int} (h : EntF n l e) : EntV n l e := by
  refine ⟨h.len, fun i hi => ?_, ?_⟩
  · split
    · rename_i c; exact h.key i hi c
    · rename_i c; exact h.rid i hi c
  · show (e.filter fun x => !decide (x = -1)).Pairwise (· ≠ ·)
    rw [List.pairwise_filter, List.pairwise_iff_getElem]
    intro i j hi hj hij p1 p2 z
    have g : ∀ i, (h : i < e.length) → e[i] = e.getD i 0 := fun i h => by rw [List.getD_eq_getElem?_getD, List.getElem?_eq_getElem h]; rfl
    rw [g i hi] at p1 z
    rw [g j hj] at p2 z
    rw [h.len] at hi hj
    have k1 : i ∉ l := fun c => by rw [h.key i hi c] at p1; exact absurd p1 (by decide)
    have k2 : j ∉ l := fun c => by rw [h.key j hj c] at p2; exact absurd p2 (by decide)
    have := h.inj i j hi hj k1 k2 z
    omega
theorem EntV.f {n : Nat} {l : List Nat} {e : List Int} (h : EntV n l e) : EntF n l e := by
  refine ⟨h.len, fun x hx c => ?_, fun x hx c => ?_, fun x y hx hy cx cy z => ?_⟩
  · have := h.at_ x hx; rwa [if_pos c] at this
  · have := h.at_ x hx; rwa [if_neg c] at this
  · have nd : (e.filter fun x => !decide (x = -1)).Pairwise (· ≠ ·) := h.nd
    rw [List.pairwise_filter, List.pairwise_iff_getElem] at nd
    have g : ∀ i, (h : i < e.length) → e[i] = e.getD i 0 := fun i h => by rw [List.getD_eq_getElem?_getD, List.getElem?_eq_getElem h]; rfl
    have pz : ∀ x, x < n → x ∉ l → (!decide (e.getD x 0 = -1)) = true := fun x hx c => by
      have := h.at_ x hx
      rw [if_neg c] at this
      simp only [Bool.not_eq_true', decide_eq_false_iff_not]
      omega
    have hl := h.len
    rcases Nat.lt_trichotomy x y with c | c | c
    · have := nd x y (by omega) (by omega) c
      rw [g x (by omega), g y (by omega)] at this
      exact absurd z (this (pz x hx cx) (pz y hy cy))
    · exact c
    · have := nd y x (by omega) (by omega) c
      rw [g x (by omega), g y (by omega)] at this
      exact absurd z.symm (this (pz y hy cy) (pz x hx cx))
theorem mem_e {e : List Int} {n : Nat} (h : e.length = n) {z : Int} : z ∈ e ↔ ∃ x, x < n ∧ e.getD x 0 = z := by
  subst h
  constructor
  · intro hz
    obtain ⟨x, hx, ez⟩ := List.getElem_of_mem hz
    exact ⟨x, hx, by rw [List.getD_eq_getElem?_getD, List.getElem?_eq_getElem hx]; exact ez⟩
  · rintro ⟨x, hx, ez⟩
    rw [List.getD_eq_getElem?_getD, List.getElem?_eq_getElem hx] at ez
    exact ez ▸ List.getElem_mem hx
theorem mem_goal {n : Nat} {e : List Int} {y : Nat} : y ∈ goalE n e ↔ y < n ∧ (y : Int) ∉ e := by
  unfold goalE
  rw [List.mem_filter, List.mem_range]
  simp
theorem goal_asc (n : Nat) (e : List Int) : Asc 0 n (goalE n e) := by
  refine ⟨List.Pairwise.filter _ List.pairwise_lt_range, fun x hx => ?_⟩
  have := (mem_goal.mp hx).1
  omega
theorem goal_all {n : Nat} (hn : n ≤ 6) (e : List Int) : goalE n e ∈ allL n := asc_all hn (goal_asc n e) (all_ascL hn)
/-- ascending lots with the same places are one -/
theorem asc_ext {n : Nat} {a b : List Nat} (ha : Asc 0 n a) (hb : Asc 0 n b) (h : ∀ x, x ∈ a ↔ x ∈ b) : a = b := by
  have p : a.Perm b := (List.perm_ext_iff_of_nodup (ha.1.imp fun h => Nat.ne_of_lt h) (hb.1.imp fun h => Nat.ne_of_lt h)).mpr h
  exact p.eq_of_pairwise (fun x y _ _ h1 h2 => absurd h2 (Nat.not_lt_of_lt h1)) ha.1 hb.1
theorem EntF.off {n : Nat} {l : List Nat} {e : List Int} (h : EntF n l e) {x : Nat} (hx : x < n) (c : x ∉ l) : (e.getD x 0).toNat < n ∧ (e.getD x 0).toNat ∉ goalE n e := by
  obtain ⟨h1, h2⟩ := h.rid x hx c
  refine ⟨by omega, fun z => (mem_goal.mp z).2 ((mem_e h.len).mpr ⟨x, hx, by omega⟩)⟩
theorem EntF.from {n : Nat} {l : List Nat} {e : List Int} (h : EntF n l e) {y : Nat} (hy : y < n) (c : y ∉ goalE n e) : ∃ x, x < n ∧ x ∉ l ∧ e.getD x 0 = y := by
  have : (y : Int) ∈ e := Classical.byContradiction fun z => c (mem_goal.mpr ⟨hy, z⟩)
  obtain ⟨x, hx, ex⟩ := (mem_e h.len).mp this
  refine ⟨x, hx, fun k => ?_, ex⟩
  have := h.key x hx k
  omega
theorem EntF.neg {n : Nat} {l : List Nat} {e : List Int} (h : EntF n l e) {x : Nat} (hx : x < n) : e.getD x 0 = -1 ↔ x ∈ l := by
  constructor
  · intro z
    refine Classical.byContradiction fun c => ?_
    have := (h.rid x hx c).1
    omega
  · exact h.key x hx
/-- one entry behind another -/
def cmpE (e u : List Int) : List Int := e.map fun x => if x = -1 then -1 else u.getD x.toNat 0
theorem map_getD_lt {α β : Type} {f : α → β} {L : List α} {i : Nat} {d : α} {d' : β} (h : i < L.length) : (L.map f).getD i d' = f (L.getD i d) := by
  rw [List.getD_eq_getElem?_getD, List.getElem?_map, List.getElem?_eq_getElem h, List.getD_eq_getElem?_getD, List.getElem?_eq_getElem h]
  rfl
theorem cmp_at {e u : List Int} {x : Nat} (h : x < e.length) : (cmpE e u).getD x 0 = if e.getD x 0 = -1 then -1 else u.getD (e.getD x 0).toNat 0 := map_getD_lt h
theorem EntF.cmp {n : Nat} {l : List Nat} {e u : List Int} (h : EntF n l e) (g : EntF n (goalE n e) u) : EntF n l (cmpE e u) ∧ goalE n (cmpE e u) = goalE n u := by
  have hl : (cmpE e u).length = n := by unfold cmpE; rw [List.length_map]; exact h.len
  have at_ : ∀ x, x < n → x ∉ l → (cmpE e u).getD x 0 = u.getD (e.getD x 0).toNat 0 := fun x hx c => by
    rw [cmp_at (by rw [h.len]; exact hx), if_neg (fun z => c ((h.neg hx).mp z))]
  have hf : EntF n l (cmpE e u) := by
    refine ⟨hl, fun x hx c => ?_, fun x hx c => ?_, fun x y hx hy cx cy z => ?_⟩
    · rw [cmp_at (by rw [h.len]; exact hx), if_pos ((h.neg hx).mpr c)]
    · rw [at_ x hx c]
      obtain ⟨p1, p2⟩ := h.off hx c
      exact g.rid _ p1 p2
    · rw [at_ x hx cx, at_ y hy cy] at z
      obtain ⟨p1, p2⟩ := h.off hx cx
      obtain ⟨p3, p4⟩ := h.off hy cy
      have e1 := g.inj _ _ p1 p3 p2 p4 z
      have r1 := h.rid x hx cx
      have r2 := h.rid y hy cy
      exact h.inj x y hx hy cx cy (by omega)
  refine ⟨hf, asc_ext (goal_asc _ _) (goal_asc _ _) fun y => ?_⟩
  rw [mem_goal, mem_goal, mem_e hl, mem_e g.len]
  refine and_congr_right fun hy => not_congr ⟨?_, ?_⟩
  · rintro ⟨x, hx, ex⟩
    by_cases c : x ∈ l
    · rw [hf.key x hx c] at ex
      omega
    · rw [at_ x hx c] at ex
      exact ⟨_, (h.off hx c).1, ex⟩
  · rintro ⟨x, hx, ex⟩
    have c : x ∉ goalE n e := fun c => by
      rw [g.key x hx c] at ex
      omega
    obtain ⟨x', hx', c', ex'⟩ := h.from hx c
    refine ⟨x', hx', ?_⟩
    rw [at_ x' hx' c', ex', Int.toNat_natCast]
    exact ex
theorem list_ext {n : Nat} {a b : List Int} (ha : a.length = n) (hb : b.length = n) (h : ∀ x, x < n → a.getD x 0 = b.getD x 0) : a = b := by
  refine List.ext_getElem (by omega) fun i h1 h2 => ?_
  have := h i (by omega)
  rw [List.getD_eq_getElem?_getD, List.getD_eq_getElem?_getD, List.getElem?_eq_getElem h1, List.getElem?_eq_getElem h2] at this
  exact this
theorem cmp_assoc {n : Nat} {l : List Nat} {e u w : List Int} (h : EntF n l e) (g : EntF n (goalE n e) u) : cmpE (cmpE e u) w = cmpE e (cmpE u w) := by
  have hl : (cmpE e u).length = n := (h.cmp g).1.len
  refine list_ext (n := n) (by unfold cmpE; rw [List.length_map, List.length_map, h.len]) (by unfold cmpE; rw [List.length_map, h.len]) fun x hx => ?_
  rw [cmp_at (by omega), cmp_at (by rw [h.len]; exact hx), cmp_at (by rw [h.len]; exact hx)]
  by_cases c : x ∈ l
  · rw [(h.neg hx).mpr c]
    rfl
  · have ne : ¬ e.getD x 0 = -1 := fun z => c ((h.neg hx).mp z)
    obtain ⟨p1, p2⟩ := h.off hx c
    rw [if_neg ne, if_neg ne, cmp_at (by rw [g.len]; exact p1)]
/-! ### tables as maps -/
def en (n : Nat) (T : List (List Int)) (l : List Nat) : List Int := T.getD (num n l) []
theorem bothE_cmp (n : Nat) (U : List (List Int)) (e : List Int) : bothE n U e = cmpE e (en n U (goalE n e)) := rfl
theorem all_at {n : Nat} (hn : n ≤ 6) {l : List Nat} (h : l ∈ allL n) : (allL n)[num n l]? = some l := by
  obtain ⟨i, hi, e⟩ := List.getElem_of_mem h
  have e1 : (allL n)[i]? = some l := by rw [List.getElem?_eq_getElem hi, e]
  rw [(all_num_at hn e1).1]
  exact e1
theorem en_map {n : Nat} (hn : n ≤ 6) {f : List Nat → List Int} {l : List Nat} (h : l ∈ allL n) : en n ((allL n).map f) l = f l := by
  unfold en
  rw [List.getD_eq_getElem?_getD, List.getElem?_map, all_at hn h]
  rfl
theorem TabOk.len {n : Nat} (hn : n ≤ 6) {T : List (List Int)} (h : TabOk n T) : T.length = 2 ^ n := h.ents.len.trans (all_len n (by omega))
theorem TabOk.get {n : Nat} (hn : n ≤ 6) {T : List (List Int)} (h : TabOk n T) {l : List Nat} (hl : l ∈ allL n) : T[num n l]? = some (en n T l) := by
  have h1 : num n l < T.length := by rw [h.len hn]; exact all_num hn hl
  unfold en
  rw [List.getD_eq_getElem?_getD, List.getElem?_eq_getElem h1]
  rfl
theorem TabOk.ent {n : Nat} (hn : n ≤ 6) {T : List (List Int)} (h : TabOk n T) {l : List Nat} (hl : l ∈ allL n) : EntF n l (en n T l) := (h.ents.at_ _ _ _ (all_at hn hl) (h.get hn hl)).f
theorem TabOk.map {n : Nat} (hn : n ≤ 6) {T : List (List Int)} (h : TabOk n T) : T = (allL n).map (en n T) := by
  refine List.ext_getElem? fun i => ?_
  rw [List.getElem?_map]
  cases e : (allL n)[i]? with
  | none =>
    show T[i]? = none
    rw [List.getElem?_eq_none_iff] at e ⊢
    rw [h.ents.len]
    exact e
  | some l =>
    rw [← (all_num_at hn e).1]
    exact h.get hn (List.mem_of_getElem? e)
theorem TabOk.of_map {n : Nat} (hn : n ≤ 6) {f : List Nat → List Int} (h : ∀ l ∈ allL n, EntF n l (f l)) (g : ((allL n).map fun l => goalE n (f l)).Perm (allL n)) : TabOk n ((allL n).map f) := by
  refine ⟨⟨List.length_map _, fun t l e h1 h2 => ?_⟩, by rw [List.map_map]; exact g⟩
  rw [List.getElem?_map, h1] at h2
  cases Option.some.inj h2
  exact (h l (List.mem_of_getElem? h1)).v
theorem TabOk.goalp {n : Nat} (hn : n ≤ 6) {T : List (List Int)} (h : TabOk n T) : ((allL n).map fun l => goalE n (en n T l)).Perm (allL n) := by
  have := h.goals
  rw [h.map hn, List.map_map] at this
  exact this
theorem both_map {n : Nat} (hn : n ≤ 6) {T U : List (List Int)} (h : TabOk n T) : bothT n T U = (allL n).map fun l => cmpE (en n T l) (en n U (goalE n (en n T l))) := by
  unfold bothT
  conv => lhs; rw [h.map hn]
  rw [List.map_map]
  rfl
theorem en_both {n : Nat} (hn : n ≤ 6) {T U : List (List Int)} (h : TabOk n T) {l : List Nat} (hl : l ∈ allL n) : en n (bothT n T U) l = cmpE (en n T l) (en n U (goalE n (en n T l))) := by
  rw [both_map hn h, en_map hn hl]
theorem TabOk.both {n : Nat} (hn : n ≤ 6) {T U : List (List Int)} (h : TabOk n T) (g : TabOk n U) : TabOk n (bothT n T U) := by
  rw [both_map hn h]
  refine TabOk.of_map hn (fun l hl => ((h.ent hn hl).cmp (g.ent hn (goal_all hn _))).1) ?_
  have e : ((allL n).map fun l => goalE n (cmpE (en n T l) (en n U (goalE n (en n T l))))) = ((allL n).map fun l => goalE n (en n T l)).map fun g => goalE n (en n U g) := by
    rw [List.map_map]
    exact List.map_congr_left fun l hl => ((h.ent hn hl).cmp (g.ent hn (goal_all hn _))).2
  rw [e]
  exact ((h.goalp hn).map _).trans (g.goalp hn)
theorem both_assoc {n : Nat} (hn : n ≤ 6) {T U W : List (List Int)} (h : TabOk n T) (g : TabOk n U) (k : TabOk n W) : bothT n (bothT n T U) W = bothT n T (bothT n U W) := by
  rw [both_map hn (h.both hn g), both_map (U := bothT n U W) hn h]
  refine List.map_congr_left fun l hl => ?_
  have hg := goal_all hn (en n T l)
  rw [en_both hn h hl, en_both hn g hg, ((h.ent hn hl).cmp (g.ent hn hg)).2]
  exact cmp_assoc (h.ent hn hl) (g.ent hn hg)
end Kr
namespace Kr
open PySem PySem.Spec PyProof.Rows L2
theorem ups_len (n : Nat) : (ups n).length = n := by unfold ups; rw [List.length_map, List.length_range]
theorem ups_at {n x : Nat} (h : x < n) : (ups n).getD x 0 = (x : Int) := by
  unfold ups
  rw [List.getD_eq_getElem?_getD, List.getElem?_map, List.getElem?_range h]
  rfl
theorem byE_len (l : List Nat) (w : List Int) : (byE l w).length = w.length := by unfold byE; rw [List.length_map, List.length_range]
theorem byE_at {l : List Nat} {w : List Int} {x : Nat} (h : x < w.length) : (byE l w).getD x 0 = if x ∈ l then -1 else w.getD x 0 := by
  unfold byE
  rw [List.getD_eq_getElem?_getD, List.getElem?_map, List.getElem?_range h]
  rfl
/-! ### ways that are their own contrary -/
structure Way (n : Nat) (w : List Int) (f : Nat → Nat) : Prop where
  len : w.length = n
  at_ : ∀ x, x < n → w.getD x 0 = (f x : Int)
  lt : ∀ x, x < n → f x < n
  inv : ∀ x, x < n → f (f x) = x
theorem way_ups (n : Nat) : Way n (ups n) id := ⟨ups_len n, fun x h => ups_at h, fun _ h => h, fun _ _ => rfl⟩
def sw (a b x : Nat) : Nat := if x = b then a else if x = a then b else x
theorem way_swap {n a b : Nat} (ha : a < n) (hb : b < n) (hab : a ≠ b) : Way n (swapW n a b) (sw a b) := by
  refine ⟨by unfold swapW; rw [List.length_set, List.length_set, ups_len], fun x h => ?_, fun x h => ?_, fun x h => ?_⟩
  · unfold swapW sw
    rw [List.getD_eq_getElem?_getD, List.getElem?_set, List.length_set, ups_len, List.getElem?_set, ups_len]
    by_cases c1 : x = b
    · subst c1
      rw [if_pos rfl, if_pos h, if_pos rfl]
      rfl
    · rw [if_neg (fun z => c1 z.symm), if_neg c1]
      by_cases c2 : x = a
      · subst c2
        rw [if_pos rfl, if_pos h, if_pos rfl]
        rfl
      · rw [if_neg (fun z => c2 z.symm), if_neg c2, ← List.getD_eq_getElem?_getD, ups_at h]
  · unfold sw
    split
    · exact ha
    · split
      · exact hb
      · exact h
  · unfold sw
    by_cases c1 : x = b
    · rw [if_pos c1, if_neg hab, if_pos rfl, c1]
    · rw [if_neg c1]
      by_cases c2 : x = a
      · rw [if_pos c2, if_pos rfl, c2]
      · rw [if_neg c2, if_neg c1, if_neg c2]
theorem Way.ent {n : Nat} {w : List Int} {f : Nat → Nat} (W : Way n w f) (l : List Nat) : EntF n l (byE l w) := by
  have at_ : ∀ x, x < n → x ∉ l → (byE l w).getD x 0 = (f x : Int) := fun x h c => by rw [byE_at (by rw [W.len]; exact h), if_neg c, W.at_ x h]
  refine ⟨(byE_len l w).trans W.len, fun x h c => by rw [byE_at (by rw [W.len]; exact h), if_pos c], fun x h c => ?_, fun x y hx hy cx cy z => ?_⟩
  · rw [at_ x h c]
    have := W.lt x h
    omega
  · rw [at_ x hx cx, at_ y hy cy] at z
    have e : f x = f y := by omega
    rw [← W.inv x hx, e, W.inv y hy]
theorem Way.goal {n : Nat} {w : List Int} {f : Nat → Nat} (W : Way n w f) (l : List Nat) {y : Nat} : y ∈ goalE n (byE l w) ↔ y < n ∧ f y ∈ l := by
  rw [mem_goal, mem_e ((byE_len l w).trans W.len)]
  refine and_congr_right fun hy => ?_
  constructor
  · intro h
    refine Classical.byContradiction fun c => h ⟨f y, W.lt y hy, ?_⟩
    rw [byE_at (by rw [W.len]; exact W.lt y hy), if_neg c, W.at_ _ (W.lt y hy), W.inv y hy]
  · rintro h ⟨x, hx, ex⟩
    rw [byE_at (by rw [W.len]; exact hx)] at ex
    split at ex
    · omega
    · rename_i c
      rw [W.at_ x hx] at ex
      have : f x = y := by omega
      rw [← this, W.inv x hx] at h
      exact c h
theorem goal_ups {n : Nat} {l : List Nat} (h : Asc 0 n l) : goalE n (byE l (ups n)) = l := by
  refine asc_ext (goal_asc _ _) h fun y => ?_
  rw [(way_ups n).goal]
  exact ⟨fun z => z.2, fun z => ⟨by have := (h.2 y z).2; omega, z⟩⟩
theorem cmp_ups {n : Nat} {l : List Nat} {e : List Int} (h : EntF n l e) : cmpE e (byE (goalE n e) (ups n)) = e := by
  refine list_ext (n := n) (by unfold cmpE; rw [List.length_map, h.len]) h.len fun x hx => ?_
  rw [cmp_at (by rw [h.len]; exact hx)]
  by_cases c : x ∈ l
  · rw [(h.neg hx).mpr c]
    rfl
  · obtain ⟨p1, p2⟩ := h.off hx c
    have r := h.rid x hx c
    rw [if_neg (by omega), byE_at (by rw [ups_len]; exact p1), if_neg p2, ups_at p1]
    omega
theorem ups_cmp {n : Nat} {l : List Nat} {e : List Int} (hl : EntF n l e) : cmpE (byE l (ups n)) e = e := by
  refine list_ext (n := n) (by unfold cmpE; rw [List.length_map, byE_len, ups_len]) hl.len fun x hx => ?_
  rw [cmp_at (by rw [byE_len, ups_len]; exact hx), byE_at (by rw [ups_len]; exact hx)]
  by_cases c : x ∈ l
  · rw [if_pos c, if_pos rfl, hl.key x hx c]
  · rw [if_neg c, ups_at hx, if_neg (by omega), Int.toNat_natCast]
/-! ### the calm table -/
theorem still_ok {n : Nat} (hn : n ≤ 6) : TabOk n (stillT n) := by
  refine TabOk.of_map hn (fun l _ => (way_ups n).ent l) ?_
  refine List.Perm.of_eq ?_
  refine (List.map_congr_left fun l hl => ?_).trans (List.map_id _)
  exact goal_ups (all_ascL hn l hl)
theorem en_still {n : Nat} (hn : n ≤ 6) {l : List Nat} (h : l ∈ allL n) : en n (stillT n) l = byE l (ups n) := en_map hn h
theorem both_still {n : Nat} (hn : n ≤ 6) {T : List (List Int)} (h : TabOk n T) : bothT n T (stillT n) = T := by
  rw [both_map hn h]
  conv => rhs; rw [h.map hn]
  refine List.map_congr_left fun l hl => ?_
  rw [en_still hn (goal_all hn _)]
  exact cmp_ups (h.ent hn hl)
theorem still_both {n : Nat} (hn : n ≤ 6) {T : List (List Int)} (h : TabOk n T) : bothT n (stillT n) T = T := by
  rw [both_map hn (still_ok hn)]
  conv => rhs; rw [h.map hn]
  refine List.map_congr_left fun l hl => ?_
  rw [en_still hn hl, goal_ups (all_ascL hn l hl)]
  exact ups_cmp (h.ent hn hl)
/-! ### tables of deeds -/
def isAll (q l : List Nat) : Bool := q.all fun x => decide (x ∈ l)
def dE (n : Nat) (m : Mv) (l : List Nat) : List Int := byE l (if isAll m.1 l = true then swapW n m.2.1 m.2.2 else ups n)
theorem deed_map (n : Nat) (m : Mv) : deedT n m.1 m.2.1 m.2.2 = (allL n).map (dE n m) := rfl
def dF (m : Mv) (l : List Nat) (x : Nat) : Nat := if isAll m.1 l = true then sw m.2.1 m.2.2 x else x
theorem isAll_iff {q l : List Nat} : isAll q l = true ↔ ∀ x ∈ q, x ∈ l := by
  unfold isAll
  rw [List.all_eq_true]
  simp
section
variable {n : Nat} {m : Mv}
theorem Deed.way (d : Deed n m) (l : List Nat) : Way n (if isAll m.1 l = true then swapW n m.2.1 m.2.2 else ups n) (dF m l) := by
  have h1 := d.ab
  have h2 := d.bn
  unfold dF
  by_cases c : isAll m.1 l = true
  · simp only [c, if_true]
    exact way_swap (by omega) h2 (by omega)
  · simp only [c, if_false]
    exact way_ups n
theorem Deed.ent (d : Deed n m) (l : List Nat) : EntF n l (dE n m l) := (d.way l).ent l
theorem Deed.same (d : Deed n m) {l : List Nat} (hl : Asc 0 n l) : isAll m.1 (goalE n (dE n m l)) = isAll m.1 l := by
  have sub : ∀ x ∈ m.1, dF m l x = x := fun x hx => by
    unfold dF sw
    split
    · rw [if_neg (show ¬ x = m.2.2 from fun z => d.nb (z ▸ hx)), if_neg (show ¬ x = m.2.1 from fun z => d.na (z ▸ hx))]
    · rfl
  rw [Bool.eq_iff_iff, isAll_iff, isAll_iff]
  refine forall_congr' fun x => forall_congr' fun hx => ?_
  show x ∈ goalE n (byE l _) ↔ _
  rw [(d.way l).goal, sub x hx]
  have := d.asc.2 x hx
  exact ⟨fun z => z.2, fun z => ⟨by omega, z⟩⟩
theorem Deed.back (d : Deed n m) {l : List Nat} (hl : Asc 0 n l) : goalE n (dE n m (goalE n (dE n m l))) = l ∧ cmpE (dE n m l) (dE n m (goalE n (dE n m l))) = byE l (ups n) := by
  have es := d.same hl
  have ef : dF m (goalE n (dE n m l)) = dF m l := by funext x; unfold dF; rw [es]
  have W := d.way l
  have W2 := d.way (goalE n (dE n m l))
  rw [ef] at W2
  refine ⟨asc_ext (goal_asc _ _) hl fun y => ?_, ?_⟩
  · show y ∈ goalE n (byE _ _) ↔ _
    rw [W2.goal]
    show y < n ∧ dF m l y ∈ goalE n (byE _ _) ↔ _
    rw [W.goal]
    constructor
    · rintro ⟨h1, h2, h3⟩
      rwa [W.inv y h1] at h3
    · intro h
      have h1 : y < n := by have := (hl.2 y h).2; omega
      exact ⟨h1, W.lt y h1, by rw [W.inv y h1]; exact h⟩
  · refine list_ext (n := n) (by unfold cmpE; rw [List.length_map]; exact (d.ent l).len) (by rw [byE_len, ups_len]) fun x hx => ?_
    rw [cmp_at (by rw [(d.ent l).len]; exact hx), byE_at (by rw [ups_len]; exact hx)]
    by_cases c : x ∈ l
    · rw [if_pos c, (d.ent l).key x hx c]
      rfl
    · have e1 : (dE n m l).getD x 0 = (dF m l x : Int) := by
        unfold dE
        rw [byE_at (by rw [W.len]; exact hx), if_neg c, W.at_ x hx]
      obtain ⟨p1, p2⟩ := (d.ent l).off hx c
      rw [e1, Int.toNat_natCast] at p1 p2
      rw [e1, if_neg (by omega), if_neg c, ups_at hx, Int.toNat_natCast]
      show (byE _ _).getD _ 0 = _
      rw [byE_at (by rw [W2.len]; exact p1), if_neg p2, W2.at_ _ p1, W.inv x hx]
theorem perm_inv {α : Type} [DecidableEq α] {L : List α} {g : α → α} (nd : L.Nodup) (cl : ∀ x ∈ L, g x ∈ L) (iv : ∀ x ∈ L, g (g x) = x) : (L.map g).Perm L := by
  have nd2 : (L.map g).Nodup := by
    show (L.map g).Pairwise (· ≠ ·)
    rw [List.pairwise_map]
    refine List.Pairwise.imp_of_mem (fun {a b} ha hb h z => h ?_) nd
    rw [← iv a ha, ← iv b hb, z]
  refine (List.perm_ext_iff_of_nodup nd2 nd).mpr fun a => ⟨fun h => ?_, fun h => ?_⟩
  · obtain ⟨x, hx, rfl⟩ := List.mem_map.mp h
    exact cl x hx
  · exact List.mem_map.mpr ⟨g a, cl a h, iv a h⟩
theorem all_nodup {n : Nat} (hn : n ≤ 6) : (allL n).Nodup := by
  have h : ((allL n).map (num n)).Pairwise (· ≠ ·) := by rw [lots_nums n (by omega)]; exact List.nodup_range
  rw [List.pairwise_map] at h
  exact h.imp fun h z => h (by rw [z])
theorem Deed.ok (d : Deed n m) (hn : n ≤ 6) : TabOk n (deedT n m.1 m.2.1 m.2.2) := by
  rw [deed_map]
  exact TabOk.of_map hn (fun l _ => d.ent l) (perm_inv (g := fun l => goalE n (dE n m l)) (all_nodup hn) (fun l _ => goal_all hn _) fun l hl => (d.back (all_ascL hn l hl)).1)
theorem Deed.twice (d : Deed n m) (hn : n ≤ 6) : bothT n (deedT n m.1 m.2.1 m.2.2) (deedT n m.1 m.2.1 m.2.2) = stillT n := by
  rw [both_map hn (d.ok hn)]
  refine List.map_congr_left fun l hl => ?_
  rw [deed_map, en_map hn hl, en_map hn (goal_all hn _)]
  exact (d.back (all_ascL hn l hl)).2
end
theorem TabOk.gl_inj' {n : Nat} {T : List (List Int)} (hn : n ≤ 6) (h : TabOk n T) {a b : List Nat} (ha : a ∈ allL n) (hb : b ∈ allL n) (e : goalE n (en n T a) = goalE n (en n T b)) : a = b := by
  have nd : ((allL n).map fun l => goalE n (en n T l)).Pairwise (· ≠ ·) := (h.goalp hn).symm.nodup (all_nodup hn)
  rw [List.pairwise_map, List.pairwise_iff_getElem] at nd
  obtain ⟨i, hi, rfl⟩ := List.getElem_of_mem ha
  obtain ⟨j, hj, rfl⟩ := List.getElem_of_mem hb
  rcases Nat.lt_trichotomy i j with c | c | c
  · exact absurd e (nd i j hi hj c)
  · subst c; rfl
  · exact absurd e.symm (nd j i hj hi c)
end Kr
namespace Kr
open PySem PySem.Spec PyProof.Rows L2
/-! ### the law's tables by deeds, deed by deed -/
theorem setGo_keep {x : Nat} : ∀ (k : Nat) (r acc : List Int), (∀ j, j < r.length → r.getD j 0 ≠ (x : Int)) → (setGo k r acc).getD x 0 = acc.getD x 0
  | _, [], _, _ => rfl
  | k, z :: r, acc, h => by
    unfold setGo
    rw [setGo_keep (k + 1) r _ fun j hj => by
      have := h (j + 1) (by rw [List.length_cons]; omega)
      simpa using this]
    have h0 := h 0 (by rw [List.length_cons]; omega)
    have h0 : z ≠ (x : Int) := by simpa using h0
    split
    · rename_i c
      rw [List.getD_eq_getElem?_getD, List.getElem?_set_ne (by omega), ← List.getD_eq_getElem?_getD]
    · rfl
theorem setGo_put {x : Nat} : ∀ (k : Nat) (r acc : List Int) (j : Nat), j < r.length → r.getD j 0 = (x : Int) → (∀ i, i < r.length → r.getD i 0 = (x : Int) → i = j) → x < acc.length → (setGo k r acc).getD x 0 = ((k + j : Nat) : Int)
  | _, [], _, j, h, _, _, _ => by simp at h
  | k, z :: r, acc, 0, h, e, u, hx => by
    unfold setGo
    have e : z = (x : Int) := by simpa using e
    rw [setGo_keep (k + 1) r _ fun i hi ei => by
      have := u (i + 1) (by rw [List.length_cons]; omega) (by simpa using ei)
      omega]
    rw [if_pos (by omega), e, Int.toNat_natCast, List.getD_eq_getElem?_getD, List.getElem?_set_self hx]
    rfl
  | k, z :: r, acc, j + 1, h, e, u, hx => by
    unfold setGo
    rw [setGo_put (k + 1) r _ j (by rw [List.length_cons] at h; omega) (by simpa using e) (fun i hi ei => by
      have := u (i + 1) (by rw [List.length_cons]; omega) (by simpa using ei)
      omega) (by split <;> first | (rw [List.length_set]; exact hx) | exact hx)]
    congr 1
    omega
/-- riders at their places: what lies at each place -/
structure Lies (n : Nat) (l : List Nat) (ls : List Int) : Prop where
  len : ls.length = n
  at_ : ∀ y, y < n → ls.getD y 0 = -1 ∨ ∃ x : Nat, x < n ∧ x ∉ l ∧ ls.getD y 0 = x
  has : ∀ x, x < n → x ∉ l → ∃ y, y < n ∧ ls.getD y 0 = (x : Int)
  one : ∀ y z, y < n → z < n → 0 ≤ ls.getD y 0 → ls.getD y 0 = ls.getD z 0 → y = z
section
variable {n : Nat} {l : List Nat} {ls : List Int}
theorem Lies.put (h : Lies n l ls) {x y : Nat} (hx : x < n) (hy : y < n) (e : ls.getD y 0 = (x : Int)) : (lawE n ls).getD x 0 = (y : Int) := by
  unfold lawE
  rw [setGo_put 0 ls _ y (by rw [h.len]; exact hy) e (fun i hi ei => h.one i y (by rw [← h.len]; exact hi) hy (by omega) (ei.trans e.symm)) (by rw [List.length_replicate]; exact hx), Nat.zero_add]
theorem Lies.keep (h : Lies n l ls) {x : Nat} (hx : x < n) (c : x ∈ l) : (lawE n ls).getD x 0 = -1 := by
  unfold lawE
  rw [setGo_keep 0 ls _ fun j hj ej => ?_]
  · rw [List.getD_eq_getElem?_getD, List.getElem?_replicate, if_pos hx]
    rfl
  · rcases h.at_ j (by rw [← h.len]; exact hj) with z | ⟨x', _, c', z⟩
    · rw [z] at ej; omega
    · rw [z] at ej
      have : x' = x := by omega
      exact c' (this ▸ c)
theorem lawE_len (n : Nat) (ls : List Int) : (lawE n ls).length = n := by unfold lawE; rw [setGo_len, List.length_replicate]
theorem Lies.ent (h : Lies n l ls) : EntF n l (lawE n ls) := by
  refine ⟨lawE_len n ls, fun x hx c => h.keep hx c, fun x hx c => ?_, fun x y hx hy cx cy z => ?_⟩
  · obtain ⟨y, hy, e⟩ := h.has x hx c
    rw [h.put hx hy e]
    omega
  · obtain ⟨u, hu, eu⟩ := h.has x hx cx
    obtain ⟨v, hv, ev⟩ := h.has y hy cy
    rw [h.put hx hu eu, h.put hy hv ev] at z
    have : u = v := by omega
    subst this
    rw [eu] at ev
    omega
theorem Lies.goal (h : Lies n l ls) {y : Nat} (hy : y < n) : y ∈ goalE n (lawE n ls) ↔ ¬ 0 ≤ ls.getD y 0 := by
  rw [mem_goal, mem_e (lawE_len n ls)]
  constructor
  · rintro ⟨_, h2⟩ c
    rcases h.at_ y hy with z | ⟨x, hx, _, z⟩
    · omega
    · exact h2 ⟨x, hx, h.put hx hy z⟩
  · refine fun c => ⟨hy, ?_⟩
    rintro ⟨x, hx, e⟩
    by_cases k : x ∈ l
    · rw [h.keep hx k] at e
      omega
    · obtain ⟨u, hu, eu⟩ := h.has x hx k
      rw [h.put hx hu eu] at e
      have : u = y := by omega
      subst this
      omega
theorem lies_start (n : Nat) (l : List Nat) : Lies n l (stL n l) := by
  have at_ : ∀ x, x < n → (stL n l).getD x 0 = if x ∈ l then -1 else (x : Int) := fun x hx => by
    unfold stL
    rw [List.getD_eq_getElem?_getD, List.getElem?_map, List.getElem?_range hx]
    rfl
  refine ⟨by unfold stL; rw [List.length_map, List.length_range], fun y hy => ?_, fun x hx c => ⟨x, hx, by rw [at_ x hx, if_neg c]⟩, fun y z hy hz p e => ?_⟩
  · rw [at_ y hy]
    by_cases c : y ∈ l
    · rw [if_pos c]; exact .inl rfl
    · rw [if_neg c]; exact .inr ⟨y, hy, c, rfl⟩
  · rw [at_ y hy] at p e
    rw [at_ z hz] at e
    split at e
    · rename_i c
      rw [if_pos c] at p
      omega
    · split at e <;> omega
/-- two places exchanged, or not -/
theorem Lies.moved (h : Lies n l ls) {m : Mv} (d : Deed n m) : Lies n l (mvL ls m) ∧ lawE n (mvL ls m) = cmpE (lawE n ls) (dE n m (goalE n (lawE n ls))) := by
  have hab := d.ab
  have hbn := d.bn
  have hcond : m.1.all (fun x => !decide (0 ≤ ls.getD x 0)) = isAll m.1 (goalE n (lawE n ls)) := by
    rw [Bool.eq_iff_iff, isAll_iff, List.all_eq_true]
    refine forall_congr' fun x => forall_congr' fun hx => ?_
    rw [h.goal (by have := (d.asc.2 x hx).2; omega)]
    simp
  have W := d.way (goalE n (lawE n ls))
  have at_ : ∀ y, y < n → (mvL ls m).getD y 0 = ls.getD (dF m (goalE n (lawE n ls)) y) 0 := fun y hy => by
    unfold mvL dF
    rw [hcond]
    split
    · unfold sw
      rw [List.getD_eq_getElem?_getD, List.getElem?_set, List.length_set, h.len, List.getElem?_set, h.len]
      by_cases c1 : y = m.2.2
      · rw [if_pos c1.symm, if_pos hbn, if_pos c1]
        rfl
      · rw [if_neg (fun z => c1 z.symm), if_neg c1]
        by_cases c2 : y = m.2.1
        · rw [if_pos c2.symm, if_pos (by omega), if_pos c2]
          rfl
        · rw [if_neg (fun z => c2 z.symm), if_neg c2, List.getD_eq_getElem?_getD]
    · rfl
  have hl : (mvL ls m).length = n := by
    unfold mvL
    split
    · rw [List.length_set, List.length_set]; exact h.len
    · exact h.len
  have hL : Lies n l (mvL ls m) := by
    refine ⟨hl, fun y hy => ?_, fun x hx c => ?_, fun y z hy hz p e => ?_⟩
    · rw [at_ y hy]
      exact h.at_ _ (W.lt y hy)
    · obtain ⟨y, hy, e⟩ := h.has x hx c
      exact ⟨_, W.lt y hy, by rw [at_ _ (W.lt y hy), W.inv y hy]; exact e⟩
    · rw [at_ y hy] at p e
      rw [at_ z hz] at e
      have := h.one _ _ (W.lt y hy) (W.lt z hz) p e
      rw [← W.inv y hy, this, W.inv z hz]
  refine ⟨hL, list_ext (n := n) (lawE_len n _) (by unfold cmpE; rw [List.length_map]; exact lawE_len n _) fun x hx => ?_⟩
  rw [cmp_at (by rw [lawE_len]; exact hx)]
  by_cases c : x ∈ l
  · rw [hL.keep hx c, h.keep hx c]
    rfl
  · obtain ⟨y, hy, e⟩ := h.has x hx c
    have e2 := h.put hx hy e
    obtain ⟨p1, p2⟩ := h.ent.off hx c
    rw [e2, Int.toNat_natCast] at p1 p2
    rw [e2, if_neg (by omega), Int.toNat_natCast, hL.put hx (W.lt y hy) (by rw [at_ _ (W.lt y hy), W.inv y hy]; exact e)]
    show _ = (byE _ _).getD _ 0
    rw [byE_at (by rw [W.len]; exact p1), if_neg p2, W.at_ _ p1]
end
theorem lies_all {n : Nat} {l : List Nat} : ∀ (ms : List Mv) (ls : List Int), Lies n l ls → (∀ m ∈ ms, Deed n m) → Lies n l (ms.foldl mvL ls)
  | [], _, h, _ => h
  | m :: ms, ls, h, d => lies_all ms _ (h.moved (d m List.mem_cons_self)).1 fun x hx => d x (List.mem_cons_of_mem _ hx)
theorem made_nil {n : Nat} (hn : n ≤ 6) : madeT n [] = stillT n := by
  refine List.map_congr_left fun l hl => ?_
  show lawE n (stL n l) = _
  have h := lies_start n l
  have at_ : ∀ x, x < n → (stL n l).getD x 0 = if x ∈ l then -1 else (x : Int) := fun x hx => by
    unfold stL
    rw [List.getD_eq_getElem?_getD, List.getElem?_map, List.getElem?_range hx]
    rfl
  refine list_ext (n := n) (lawE_len n _) (by rw [byE_len, ups_len]) fun x hx => ?_
  rw [byE_at (by rw [ups_len]; exact hx)]
  by_cases c : x ∈ l
  · rw [if_pos c, h.keep hx c]
  · rw [if_neg c, ups_at hx, h.put hx hx (by rw [at_ x hx, if_neg c])]
theorem made_ent {n : Nat} {ms : List Mv} (d : ∀ m ∈ ms, Deed n m) (l : List Nat) : EntF n l (madeE n ms l) := (lies_all ms _ (lies_start n l) d).ent
theorem made_snoc {n : Nat} (hn : n ≤ 6) {ms : List Mv} {m : Mv} (d : ∀ x ∈ ms ++ [m], Deed n x) : madeT n (ms ++ [m]) = bothT n (madeT n ms) (deedT n m.1 m.2.1 m.2.2) := by
  unfold madeT bothT
  rw [List.map_map]
  refine List.map_congr_left fun l hl => ?_
  have dm := d m (List.mem_append_right _ List.mem_cons_self)
  have h := (lies_all ms _ (lies_start n l) fun x hx => d x (List.mem_append_left _ hx)).moved dm
  show lawE n ((ms ++ [m]).foldl mvL (stL n l)) = cmpE (madeE n ms l) (en n (deedT n m.1 m.2.1 m.2.2) (goalE n (madeE n ms l)))
  rw [List.foldl_append, deed_map, en_map hn (goal_all hn _)]
  exact h.2
theorem made_ok {n : Nat} (hn : n ≤ 6) {ms : List Mv} (d : ∀ m ∈ ms, Deed n m) : TabOk n (madeT n ms) := by
  have : ∀ k, k ≤ ms.length → TabOk n (madeT n (ms.take k)) := fun k => by
    induction k with
    | zero =>
      intro _
      rw [List.take_zero, made_nil hn]
      exact still_ok hn
    | succ k ih =>
      intro hk
      have e : ms.take (k + 1) = ms.take k ++ [ms[k]] := by rw [List.take_add_one, List.getElem?_eq_getElem (by omega)]; rfl
      have d2 : ∀ x ∈ ms.take k ++ [ms[k]], Deed n x := fun x hx => d x (List.take_subset _ _ (e ▸ hx))
      rw [e, made_snoc hn d2]
      exact (ih (by omega)).both hn ((d2 _ (List.mem_append_right _ List.mem_cons_self)).ok hn)
  have := this ms.length (Nat.le_refl _)
  rwa [List.take_length] at this
theorem made_one {n : Nat} (hn : n ≤ 6) {m : Mv} (d : Deed n m) : madeT n [m] = deedT n m.1 m.2.1 m.2.2 := by
  have := made_snoc (ms := []) (m := m) hn fun x hx => by
    rw [List.nil_append, List.mem_singleton] at hx
    exact hx ▸ d
  rw [List.nil_append, made_nil hn, still_both hn (d.ok hn)] at this
  exact this
end Kr
namespace Kr
open PySem PySem.Spec PyProof.Rows L2
/-! ### defs that may be called by names in the contrary order; defs that are called where no repr is under way -/
structure OkN (P : Program) (w : World) (K : PySem.W.Frag) (mg : Str → Option Value) (base : Heap) (k : Nat) (x : Str) (ps ks : List Str) (sp : Sp) : Prop where
  ex : ∃ f fd, FnOk P w K mg base CX0 k f fd ps sp ∧ PySem.W.keepIn K (.ref f) = true ∧ mg x = some (.ref f) ∧ Binds K fd ps [] ∧ KBn K fd ps 0 ks (fun _ ws => ws.reverse) (fun _ zs => zs.reverse)
structure DfN (K : PySem.W.Frag) (mg : Str → Option Value) (x : Str) (st : Stmt) (ps ks : List Str) : Prop where
  ex : ∃ f fd, Fun K x x st f fd ∧ Binds K fd ps [] ∧ mg x = some (.ref f) ∧ KBn K fd ps 0 ks (fun _ ws => ws.reverse) (fun _ zs => zs.reverse)
structure OkG (P : Program) (w : World) (K : PySem.W.Frag) (mg : Str → Option Value) (base : Heap) (k : Nat) (x : Str) (ps : List Str) (sp : Sp) : Prop where
  ex : ∃ f fd, FnG P w K mg base CX0 k f fd ps sp ∧ PySem.W.keepIn K (.ref f) = true ∧ mg x = some (.ref f) ∧ Binds K fd ps []
section
variable {P : Program} {w : World} {K : PySem.W.Frag} {mg : Str → Option Value} {base : Heap}
theorem OkN.ok {x : Str} {ps ks : List Str} {k : Nat} {sp : Sp} (D : OkN P w K mg base k x ps ks sp) : Ok P w K mg base k x ps sp := let ⟨f, fd, a, b, c, d, _⟩ := D.ex; ⟨f, fd, a, b, c, d⟩
theorem OkN.mono {x : Str} {ps ks : List Str} {j k : Nat} {sp : Sp} (D : OkN P w K mg base j x ps ks sp) (h : j ≤ k) : OkN P w K mg base k x ps ks sp := let ⟨f, fd, a, r⟩ := D.ex; ⟨f, fd, a.mono h, r⟩
theorem DfN.df {x : Str} {st : Stmt} {ps ks : List Str} (D : DfN K mg x st ps ks) : Df K mg x st ps := let ⟨f, fd, a, b, c, _⟩ := D.ex; ⟨f, fd, a, b, c⟩
/-- a promise of the def by place holds by names -/
theorem DfN.okN {x : Str} {st : Stmt} {ps ks : List Str} {k : Nat} {sp : Sp} (D : DfN K mg x st ps ks) (h : ∀ f fd, Fun K x x st f fd → FnOk P w K mg base CX0 k f fd ps sp) : OkN P w K mg base k x ps ks sp := by
  obtain ⟨f, fd, F, b, g, n⟩ := D.ex
  exact ⟨f, fd, h f fd F, F.kp, g, b, n⟩
theorem Df.okG {x : Str} {st : Stmt} {ps : List Str} {k : Nat} {sp : Sp} (D : Df K mg x st ps) (h : ∀ f fd, Fun K x x st f fd → FnG P w K mg base CX0 k f fd ps sp) : OkG P w K mg base k x ps sp := by
  obtain ⟨f, fd, F, b, g⟩ := D.ex
  exact ⟨f, fd, h f fd F, F.kp, g, b⟩
theorem OkG.mono {x : Str} {ps : List Str} {j k : Nat} {sp : Sp} (D : OkG P w K mg base j x ps sp) (h : j ≤ k) : OkG P w K mg base k x ps sp := by
  obtain ⟨f, fd, F, r⟩ := D.ex
  exact ⟨f, fd, F.mono h, r⟩
end
section
variable {X : Cx} {k : Nat} {x : Str} {ps ks : List Str} {sp : Sp} {p pos : Pos} {e : Expr} {es : List Expr} {t : TA} {kws : List Keyword} {tk : TA}
theorem pe_fnN (D : OkN X.prog X.w X.K X.mg X.base k x ps ks sp) (hr : Room k X.A) (hg : Gl X x) (hkw : PK X kws tk)
    (hall : (backToKw pos (keywordEach kws X.env)).all (·.1.isSome) = true := by rfl) (hks : (backToKw pos (keywordEach kws X.env)).filterMap (·.1) = ks := by rfl) (hdb : (x == ("__debug__" : Str)) = false := by decide)
    (hpl : ((backTo pos (starEach [] X.env)).any (·.1) || (backToKw pos (keywordEach kws X.env)).any (·.1.isNone)) = false := by rfl) :
    PE X (.Call (.Name x p) [] kws pos) (tCallN ks.length sp (fun _ zs => zs.reverse) E0 tk) := by
  obtain ⟨f, fd, F, kp, g, b, n⟩ := D.ex
  exact pe_callN F hr hg g kp n pass0 hkw hall hks hdb hpl
theorem pe_fnG (D : OkG X.prog X.w X.K X.mg X.base k x ps sp) (gd : X.A.guards = some []) (hr : Room k X.A) (hg : Gl X x) (ha : PA X (e :: es) t)
    (hdb : (x == ("__debug__" : Str)) = false := by decide) (he : starEach (e :: es) X.env = (false, eval e X.env) :: starEach es X.env := by rfl) (hpl : (backTo pos (starEach es X.env)).any (·.1) = false := by rfl) :
    PE X (.Call (.Name x p) (e :: es) [] pos) (tCall sp [] E0 t) := by
  obtain ⟨f, fd, F, kp, g, b⟩ := D.ex
  exact pe_callG F gd hr hg g kp b .nil pass0 ha hdb he hpl
end
/-! ### what is shown is small -/
theorem Sm.lit {i : Int} (h : i.natAbs < 32) : Sm 1 5 (.int i) := by
  have a := Sm.int (i := i) (by omega)
  refine ⟨a.sh, a.ls, a.dp, ?_⟩
  simp only [PyData.weight]
  split
  · omega
  · rename_i h0
    have h1 : i.natAbs ≠ 0 := fun z => h0 (by simp; omega)
    have : i.natAbs.log2 < 5 := (Nat.log2_lt h1).mpr h
    omega
theorem Sm.strm {x : Str} {m : Nat} (h : (x.cps.toList.all fun c => decide (c < 16 ^ 8)) = true) (hs : x.length ≤ m) : Sm 1 m (.str x) :=
  ⟨by simp [PyData.showable], by simpa [PyData.leavesShort] using h, by simp [PyData.depth], hs⟩
theorem Sm.two {k w : Nat} {a b : PyData} (ha : Sm k w a) (hb : Sm k w b) : Sm (k + 1) ((w + 1) * 2) (.list [a, b]) := Sm.lst (fun d hd => by
  simp only [List.mem_cons, List.not_mem_nil, or_false] at hd
  rcases hd with rfl | rfl
  · exact ha
  · exact hb) (Nat.le_refl _)
/-- repr(e) != repr(e'), as a test -/
theorem ne_repr {te te2 : TE} {σ : L2.St} {H : Hp} {Q : Bool → Hp → Prop} (h : te σ H fun v H1 => rRepr [v] H1 fun x H2 => te2 σ H2 fun v2 H3 => rRepr [v2] H3 fun y H4 => rNe x y H4 fun z H5 => ∃ k, z = .bl k ∧ Q k H5) :
    tTest (tOp rNe (tCB rRepr (tCons te tNil)) (tCB rRepr (tCons te2 tNil))) σ H Q := h
/-- repr(e) != x, x a text in a slot -/
theorem ne_reprV {te te2 : TE} {σ : L2.St} {H : Hp} {Q : Bool → Hp → Prop} (h : te σ H fun v H1 => rRepr [v] H1 fun x H2 => te2 σ H2 fun y H4 => rNe x y H4 fun z H5 => ∃ k, z = .bl k ∧ Q k H5) :
    tTest (tOp rNe (tCB rRepr (tCons te tNil)) te2) σ H Q := h
theorem ret_eq_repr {te te2 : TE} {σ : L2.St} {H : Hp} {D : Ends} (h : te σ H fun v H1 => rRepr [v] H1 fun x H2 => te2 σ H2 fun v2 H3 => rRepr [v2] H3 fun y H4 => rEq x y H4 fun z H5 => D.rt z H5) : tRet (tOp rEq (tCB rRepr (tCons te tNil)) (tCB rRepr (tCons te2 tNil))) D σ H := h
theorem ret_eq_reprV {te te2 : TE} {σ : L2.St} {H : Hp} {D : Ends} (h : te σ H fun v H1 => rRepr [v] H1 fun x H2 => te2 σ H2 fun y H4 => rEq x y H4 fun z H5 => D.rt z H5) : tRet (tOp rEq (tCB rRepr (tCons te tNil)) te2) D σ H := h
/-- repr of small data, the text under a name -/
theorem repr_x {v : V} {d : PyData} {H : Hp} {Q : VK} {k w : Nat} (hd : Dq H v d) (h : Sm k w d) (hk : k ≤ 40) (hw : w ≤ 380000) (q : ∀ x, x = d.shown → Q (.str x) H) : rRepr [v] H Q := repr_sm hd h hk hw (q _ rfl)
theorem repr_ne {v : V} {d : PyData} {H : Hp} {x : Str} {Q : Bool → Hp → Prop} {k w : Nat} (hx : x = d.shown) (hd : Dq H v d) (h : Sm k w d) (hk : k ≤ 40) (hw : w ≤ 380000) (q : Q false H) :
    rRepr [v] H fun y H4 => rNe (.str x) y H4 fun z H5 => ∃ k, z = .bl k ∧ Q k H5 := by
  refine repr_x hd h hk hw fun y hy => ?_
  rw [← hy] at hx
  subst hx
  refine ⟨rfl, _, rfl, ?_⟩
  rw [decide_eq_true rfl]
  exact q
theorem repr_eq {v : V} {d : PyData} {H : Hp} {x : Str} {Q : VK} {k w : Nat} (hx : x = d.shown) (hd : Dq H v d) (h : Sm k w d) (hk : k ≤ 40) (hw : w ≤ 380000) (q : Q (.bl true) H) :
    rRepr [v] H fun y H4 => rEq (.str x) y H4 fun z H5 => Q z H5 := by
  refine repr_x hd h hk hw fun y hy => ?_
  rw [← hy] at hx
  subst hx
  refine ⟨rfl, ?_⟩
  rw [decide_eq_true rfl]
  exact q
theorem txt_eq {x y : Str} {d : PyData} {H : Hp} {Q : VK} (hx : x = d.shown) (hy : y = d.shown) (q : Q (.bl true) H) : rEq (.str x) (.str y) H Q := by
  rw [← hy] at hx
  subst hx
  refine ⟨rfl, ?_⟩
  rw [decide_eq_true rfl]
  exact q
theorem Sm.three {k w : Nat} {a b c : PyData} (ha : Sm k w a) (hb : Sm k w b) (hc : Sm k w c) : Sm (k + 1) ((w + 1) * 3) (.list [a, b, c]) := Sm.lst (fun d hd => by
  simp only [List.mem_cons, List.not_mem_nil, or_false] at hd
  rcases hd with rfl | rfl | rfl
  · exact ha
  · exact hb
  · exact hc) (Nat.le_refl _)
/-- two texts of the same data -/
theorem txt_ne {x y : Str} {d : PyData} {H : Hp} {Q : Bool → Hp → Prop} (hx : x = d.shown) (hy : y = d.shown) (q : Q false H) : rNe (.str x) (.str y) H fun z H5 => ∃ k, z = .bl k ∧ Q k H5 := by
  rw [← hy] at hx
  subst hx
  refine ⟨rfl, _, rfl, ?_⟩
  rw [decide_eq_true rfl]
  exact q
end Kr
namespace Kr
open PySem PySem.Spec PyProof.Rows L2
/-! ### what the laws show of tables -/
theorem tab_flat (T : List (List Int)) : flatT (tabD T) = true := by simp only [tabD, flatT]; exact ents_flat T
def deedD (m : Mv) : PyData := .tuple [lotD m.1, .int (m.2.1 : Nat), .int (m.2.2 : Nat)]
theorem deed_flat (m : Mv) : flatT (deedD m) = true := by simp [deedD, flatT, flatTA, lot_flat]
theorem deed_dq {H : Hp} {v : V} {m : Mv} (h : DeedAt H v m) : Dq H v (deedD m) := by
  obtain ⟨d, q, rfl, h1, h2⟩ := h
  exact .tup h1 (.cons (lot_at h2) (.cons (.int _) (.cons (.int _) .nil)))
theorem DeedAt.upT {H H' : Hp} {v : V} {m : Mv} (s : TS H H') (h : DeedAt H v m) : DeedAt H' v m := by
  obtain ⟨d, q, rfl, h1, h2⟩ := h
  exact ⟨d, q, rfl, s _ _ h1, s _ _ h2⟩
theorem sm_lot {l : List Nat} {m : Nat} (hl : l.length ≤ m) (h : ∀ x ∈ l, x < 24) : Sm 2 (6 * m) (lotD l) := by
  refine Sm.tup (k := 1) (w := 5) (fun d hd => ?_) (by rw [List.length_map]; exact hl)
  obtain ⟨x, hx, rfl⟩ := List.mem_map.mp hd
  exact .lit (by have := h x hx; omega)
theorem sm_ent {e : List Int} (hl : e.length ≤ 6) (h : ∀ x ∈ e, -1 ≤ x ∧ x < 24) : Sm 2 (6 * 6) (entD e) := by
  refine Sm.tup (k := 1) (w := 5) (fun d hd => ?_) (by rw [List.length_map]; exact hl)
  obtain ⟨x, hx, rfl⟩ := List.mem_map.mp hd
  exact .lit (by have := h x hx; omega)
theorem EntF.le {n : Nat} {l : List Nat} {e : List Int} (h : EntF n l e) : ∀ x ∈ e, x = -1 ∨ (0 ≤ x ∧ x < n) := fun z hz => by
  obtain ⟨x, hx, rfl⟩ := (mem_e h.len).mp hz
  by_cases c : x ∈ l
  · exact .inl (h.key x hx c)
  · exact .inr (h.rid x hx c)
theorem sm_entF {n : Nat} (hn : n ≤ 6) {l : List Nat} {e : List Int} (h : EntF n l e) : Sm 2 (6 * 6) (entD e) := sm_ent (by rw [h.len]; exact hn) fun x hx => by
  have := h.le x hx
  omega
theorem TabOk.mem {n : Nat} (hn : n ≤ 6) {T : List (List Int)} (h : TabOk n T) {e : List Int} (he : e ∈ T) : ∃ l ∈ allL n, EntF n l e := by
  rw [h.map hn] at he
  obtain ⟨l, hl, rfl⟩ := List.mem_map.mp he
  exact ⟨l, hl, h.ent hn hl⟩
theorem sm_tab {n : Nat} (hn : n ≤ 6) {T : List (List Int)} (h : TabOk n T) : Sm 3 ((6 * 6 + 1) * 64) (tabD T) := by
  refine Sm.tup (k := 2) (w := 6 * 6) (fun d hd => ?_) (by rw [List.length_map, h.ents.len]; exact all_few n (by omega))
  obtain ⟨e, he, rfl⟩ := List.mem_map.mp hd
  obtain ⟨l, _, f⟩ := h.mem hn he
  exact sm_entF hn f
theorem sm_deed {n : Nat} (hn : n ≤ 6) {m : Mv} (d : Deed n m) : Sm 3 ((36 + 1) * 3) (deedD m) := by
  have h1 := d.ab
  have h2 := d.bn
  refine Sm.tup (k := 2) (w := 36) (fun x hx => ?_) (Nat.le_refl _)
  simp only [List.mem_cons, List.not_mem_nil, or_false] at hx
  rcases hx with rfl | rfl | rfl
  · exact sm_lot (m := 6) (by have := d.asc.len; omega) fun x hx => by have := (d.asc.2 x hx).2; omega
  · exact (Sm.lit (by omega)).mono (by decide) (by decide)
  · exact (Sm.lit (by omega)).mono (by decide) (by decide)
theorem ents_lay : ∀ T : List (List Int), PyData.canLayAll0 (T.map entD) = true ∧ PyData.depthAll (T.map entD) ≤ 2
  | [] => by simp [PyData.canLayAll0, PyData.depthAll]
  | e :: T => by
    obtain ⟨h1, h2⟩ := ents_lay T
    have h3 := dep_ints1 e
    simp only [List.map_cons, PyData.canLayAll0, PyData.depthAll, entD, PyData.canLay0, PyData.depth, h1, lay_ints1]
    refine ⟨by simp, by omega⟩
theorem tab_shaped (T : List (List Int)) : SeqAt.shaped (tabD T) = true := by
  obtain ⟨h1, h2⟩ := ents_lay T
  unfold SeqAt.shaped
  simp only [tabD, PyData.canLay0, PyData.depth, h1, Bool.true_and, decide_eq_true_eq]
  omega
theorem TabOk.uniq {n : Nat} (hn : n ≤ 6) {T : List (List Int)} (h : TabOk n T) {i j : Nat} {e : List Int} (h1 : T[i]? = some e) (h2 : T[j]? = some e) : i = j := by
  have at_ : ∀ {i : Nat}, T[i]? = some e → ∃ l, (allL n)[i]? = some l ∧ EntF n l e := fun {i} hi => by
    have hl : i < (allL n).length := by rw [← h.ents.len]; exact (List.getElem?_eq_some_iff.mp hi).1
    exact ⟨_, List.getElem?_eq_getElem hl, (h.ents.at_ i _ _ (List.getElem?_eq_getElem hl) hi).f⟩
  obtain ⟨a, ha, fa⟩ := at_ h1
  obtain ⟨b, hb, fb⟩ := at_ h2
  have e1 : a = b := asc_ext (all_ascL hn _ (List.mem_of_getElem? ha)) (all_ascL hn _ (List.mem_of_getElem? hb)) fun x => by
    by_cases hx : x < n
    · rw [← fa.neg hx, ← fb.neg hx]
    · exact ⟨fun z => absurd ((all_ascL hn _ (List.mem_of_getElem? ha)).2 x z).2 (by omega), fun z => absurd ((all_ascL hn _ (List.mem_of_getElem? hb)).2 x z).2 (by omega)⟩
  subst e1
  rw [← (all_num_at hn ha).1, ← (all_num_at hn hb).1]
/-! ### what the program's tests ask -/
theorem TabOk.both_in {n : Nat} (hn : n ≤ 6) {T : List (List Int)} (h : TabOk n T) : T.length ≤ 1000 ∧ (∀ e ∈ T, EntOk n e) ∧ T.length = 2 ^ n ∧ ∀ e ∈ T, e.length = n := by
  refine ⟨by rw [h.ents.len]; exact Nat.le_trans (all_few n (by omega)) (by decide), fun e he => ?_, h.len hn, fun e he => ?_⟩
  · obtain ⟨l, _, f⟩ := h.mem hn he
    exact ⟨goal_all hn e, by rw [f.len]; omega, f.le⟩
  · obtain ⟨l, _, f⟩ := h.mem hn he
    exact f.len
theorem TabOk.nd {n : Nat} (hn : n ≤ 6) {T : List (List Int)} (h : TabOk n T) : (T.map (goalE n)).Nodup := h.goals.symm.nodup (all_nodup hn)
theorem all_head : ∀ n : Nat, n < 7 → (allL n)[0]? = some [] := by decide +kernel
theorem TabOk.head {n : Nat} (hn : n ≤ 6) {T : List (List Int)} (h : TabOk n T) : ∃ r, T = en n T [] :: r := by
  have e := all_head n (by omega)
  cases hA : allL n with
  | nil => rw [hA] at e; cases e
  | cons a r =>
    rw [hA] at e
    have ea : a = [] := Option.some.inj e
    subst ea
    have h2 := h.map hn
    rw [hA, List.map_cons] at h2
    exact ⟨_, h2⟩
theorem nil_all {n : Nat} (hn : n ≤ 6) : ([] : List Nat) ∈ allL n := List.mem_of_getElem? (all_head n (by omega))
theorem ints_eqv : ∀ a b : List Int, PyData.eqvAll (a.map .int) (b.map .int) = decide (a = b)
  | [], [] => by simp [PyData.eqvAll]
  | [], _ :: _ => by simp [PyData.eqvAll]
  | _ :: _, [] => by simp [PyData.eqvAll]
  | x :: a, y :: b => by
    have ih := ints_eqv a b
    simp only [List.map_cons, PyData.eqvAll]
    rw [ih, Bool.eq_iff_iff]
    simp [PyData.eqv]
theorem ent_eqv (a b : List Int) : PyData.eqv (entD a) (entD b) = decide (a = b) := by
  unfold entD
  simp only [PyData.eqv]
  exact ints_eqv a b
theorem lot_eqv (a b : List Nat) : PyData.eqv (lotD a) (lotD b) = decide (a = b) := by
  have e : ∀ l : List Nat, lotD l = entD (l.map fun (x : Nat) => (x : Int)) := fun l => by
    unfold lotD entD
    rw [List.map_map]
    rfl
  rw [e, e, ent_eqv, decide_eq_decide]
  exact List.map_inj_right (fun a b z => by omega)
theorem ent_shaped (e : List Int) : SeqAt.shaped (entD e) = true := tup_shaped e
theorem deed_head {n : Nat} {m : Mv} (d : Deed n m) : dE n m [] = byE [] (ups n) ↔ m.1 ≠ [] := by
  have h1 := d.ab
  have h2 := d.bn
  constructor
  · intro e z
    have e1 : dE n m [] = byE [] (swapW n m.2.1 m.2.2) := by
      unfold dE isAll
      rw [z]
      rfl
    rw [e1] at e
    have W := way_swap (n := n) (a := m.2.1) (b := m.2.2) (by omega) h2 (by omega)
    have e2 : (byE [] (swapW n m.2.1 m.2.2)).getD m.2.1 0 = (byE [] (ups n)).getD m.2.1 0 := by rw [e]
    rw [byE_at (by rw [W.len]; omega), byE_at (by rw [ups_len]; omega), if_neg (by simp), if_neg (by simp), W.at_ _ (by omega), ups_at (by omega)] at e2
    unfold sw at e2
    rw [if_neg (by omega), if_pos rfl] at e2
    omega
  · intro h
    unfold dE
    rw [if_neg]
    rw [isAll_iff]
    cases hm : m.1 with
    | nil => exact absurd hm h
    | cons x r => exact fun z => absurd (z x List.mem_cons_self) (by simp)
end Kr
namespace Kr
open PySem PySem.Spec PyProof.Rows L2
/-! ### conditions of while: more may be asked of what follows -/
def MonoE (t : TE) : Prop := ∀ σ H (Q Q' : VK), (∀ v H1, Q v H1 → Q' v H1) → t σ H Q → t σ H Q'
def MonoC (t : TT) : Prop := ∀ σ H (Q Q' : Bool → Hp → Prop), (∀ v H1, Q v H1 → Q' v H1) → t σ H Q → t σ H Q'
def MonoR (r : R2) : Prop := ∀ x y H (Q Q' : VK), (∀ v H1, Q v H1 → Q' v H1) → r x y H Q → r x y H Q'
theorem mono_var (i : Nat) : MonoE (tVar i) := fun _ _ _ _ h ⟨v, e, q⟩ => ⟨v, e, h _ _ q⟩
theorem mono_c (v : V) : MonoE (tC v) := fun _ _ _ _ h q => h _ _ q
theorem mono_op {r : R2} {a b : TE} (hr : MonoR r) (ha : MonoE a) (hb : MonoE b) : MonoE (tOp r a b) := fun σ _ _ _ h q => ha _ _ _ _ (fun _ _ q => hb _ _ _ _ (fun _ _ q => hr _ _ _ _ _ h q) q) q
theorem mono_rI0 (g : Int → Int → V) : MonoR (rI0 g) := fun _ _ _ _ _ h ⟨i, j, a, b, q⟩ => ⟨i, j, a, b, h _ _ q⟩
theorem mono_rI (C : Int → Int → Prop) (g : Int → Int → V) : MonoR (rI C g) := fun _ _ _ _ _ h ⟨i, j, a, b, c, q⟩ => ⟨i, j, a, b, c, h _ _ q⟩
theorem mono_ixT (K : PySem.W.Frag) : MonoR (rIxT K) := fun _ _ _ _ _ h ⟨p, xs, i, v, a, b, c, d, q⟩ => ⟨p, xs, i, v, a, b, c, d, h _ _ q⟩
theorem mono_ixL (K : PySem.W.Frag) : MonoR (rIxL K) := fun _ _ _ _ _ h ⟨p, xs, i, v, a, b, c, d, q⟩ => ⟨p, xs, i, v, a, b, c, d, h _ _ q⟩
theorem mono_din {a b : TE} (ha : MonoE a) (hb : MonoE b) : MonoE (tDIn a b) := fun σ _ _ _ h q => ha _ _ _ _ (fun _ _ q => hb _ _ _ _ (fun _ _ ⟨x, o, e, g, q⟩ => ⟨x, o, e, g, h _ _ q⟩) q) q
theorem mono_dnotin {a b : TE} (ha : MonoE a) (hb : MonoE b) : MonoE (tDNotIn a b) := fun σ _ _ _ h q => ha _ _ _ _ (fun _ _ q => hb _ _ _ _ (fun _ _ ⟨x, o, e, g, q⟩ => ⟨x, o, e, g, h _ _ q⟩) q) q
theorem mono_B {a : TE} (ha : MonoE a) : MonoC (tB a) := fun _ _ _ _ h q => ha _ _ _ _ (fun _ _ ⟨c, e, q⟩ => ⟨c, e, h _ _ q⟩) q
theorem mono_test {a : TE} (ha : MonoE a) : MonoC (tTest a) := fun _ _ _ _ h q => ha _ _ _ _ (fun _ _ ⟨c, e, q⟩ => ⟨c, e, h _ _ q⟩) q
theorem mono_and {a b : TT} (ha : MonoC a) (hb : MonoC b) : MonoC (tAnd a b) := fun _ _ _ _ h q => ha _ _ _ _ (fun c _ q => by
  cases c with
  | true => exact hb _ _ _ _ h q
  | false => exact h _ _ q) q
def MonoA (t : TA) : Prop := ∀ σ H (Q Q' : List V → Hp → Prop), (∀ v H1, Q v H1 → Q' v H1) → t σ H Q → t σ H Q'
def MonoL (r : List V → Hp → VK → Prop) : Prop := ∀ vs H (Q Q' : VK), (∀ v H1, Q v H1 → Q' v H1) → r vs H Q → r vs H Q'
theorem mono_nil : MonoA tNil := fun _ _ _ _ h q => h _ _ q
theorem mono_cons {t : TE} {u : TA} (a : MonoE t) (b : MonoA u) : MonoA (tCons t u) := fun _ _ _ _ h q => a _ _ _ _ (fun _ _ q => b _ _ _ _ (fun _ _ q => h _ _ q) q) q
theorem mono_cb {r : List V → Hp → VK → Prop} {t : TA} (hr : MonoL r) (a : MonoA t) : MonoE (tCB r t) := fun _ _ _ _ h q => a _ _ _ _ (fun _ _ q => hr _ _ _ _ h q) q
theorem mono_eq : MonoR rEq := fun _ _ _ _ _ h ⟨a, q⟩ => ⟨a, h _ _ q⟩
theorem mono_int : MonoL (fun xs H Q => (∃ i, xs = [.int i] ∧ Q (.int i) H) ∨ ∃ k, xs = [.bl k] ∧ Q (.int (if k then 1 else 0)) H) := fun _ _ _ _ h q => q.elim (fun ⟨i, e, q⟩ => .inl ⟨i, e, h _ _ q⟩) fun ⟨i, e, q⟩ => .inr ⟨i, e, h _ _ q⟩
end Kr
namespace Kr
open PySem PySem.Spec PyProof.Rows L2
/-! ### terms of programs -/
inductive Tm where
  | doo (d : Mv)
  | part (j : Nat)
  | row (ts : List Tm)
  | back (t : Tm)
  | times (t : Tm) (k : Nat)
mutual
def tmD : Tm → PyData
  | .doo d => .tuple [.str "do", deedD d]
  | .part j => .tuple [.str "part", .int (j : Int)]
  | .row ts => .tuple [.str "row", .tuple (tmDs ts)]
  | .back t => .tuple [.str "back", tmD t]
  | .times t k => .tuple [.str "times", tmD t, .int (k : Int)]
def tmDs : List Tm → List PyData
  | [] => []
  | t :: ts => tmD t :: tmDs ts
end
mutual
def dep : Tm → Nat
  | .doo _ => 1
  | .part _ => 1
  | .row ts => depL ts + 1
  | .back t => dep t + 1
  | .times t _ => dep t + 1
def depL : List Tm → Nat
  | [] => 0
  | t :: ts => max (dep t) (depL ts)
end
theorem tmDs_map : ∀ ts : List Tm, tmDs ts = ts.map tmD
  | [] => rfl
  | t :: ts => by
    simp only [tmDs, List.map_cons]
    rw [tmDs_map ts]
theorem depL_le : ∀ {ts : List Tm} {t : Tm}, t ∈ ts → dep t ≤ depL ts
  | u :: ts, t, h => by
    simp only [depL]
    rcases List.mem_cons.mp h with rfl | h
    · exact Nat.le_max_left _ _
    · exact Nat.le_trans (depL_le h) (Nat.le_max_right _ _)
/-- what a measure tells -/
structure Mea (α : Type) where
  oD : Mv → α
  oR : List α → α
  oB : α → α
  oT : α → Nat → α
section
variable {α : Type}
mutual
def worth (M : Mea α) (ws : List α) : Tm → α
  | .doo d => M.oD d
  | .part j => ws.getD j (M.oR [])
  | .row ts => M.oR (worthL M ws ts)
  | .back t => M.oB (worth M ws t)
  | .times t k => M.oT (worth M ws t) k
def worthL (M : Mea α) (ws : List α) : List Tm → List α
  | [] => []
  | t :: ts => worth M ws t :: worthL M ws ts
end
theorem worthL_map (M : Mea α) (ws : List α) : ∀ ts : List Tm, worthL M ws ts = ts.map (worth M ws)
  | [] => rfl
  | t :: ts => by
    simp only [worthL, List.map_cons]
    rw [worthL_map M ws ts]
mutual
/-- a term that may stand behind k others, of deeds that are right, its rows of at most r terms -/
def okTm (D : Mv → Prop) (r k : Nat) : Tm → Prop
  | .doo d => D d
  | .part j => j < k
  | .row ts => ts.length ≤ r ∧ okTms D r k ts
  | .back t => okTm D r k t
  | .times t n => n ≤ 10 ^ 30 ∧ okTm D r k t
def okTms (D : Mv → Prop) (r k : Nat) : List Tm → Prop
  | [] => True
  | t :: ts => okTm D r k t ∧ okTms D r k ts
end
theorem okTms_mem {D : Mv → Prop} {r k : Nat} : ∀ {ts : List Tm}, okTms D r k ts → ∀ t ∈ ts, okTm D r k t
  | [], _, _, h => nomatch h
  | u :: ts, h, t, ht => by
    simp only [okTms] at h
    rcases List.mem_cons.mp ht with rfl | ht
    · exact h.1
    · exact okTms_mem h.2 t ht
/-- a measure, its worths as values, its object -/
structure MeaR (α : Type) extends Mea α where
  rep : α → V → Hp → Prop
  flds : List (Str × V) → Prop
  ok : α → Prop
  okD : Mv → Prop
  most : Nat
  up : ∀ {a : α} {v : V} {H H' : Hp}, TS H H' → rep a v H → rep a v H'
  cD : ∀ {d : Mv}, okD d → ok (oD d)
  cR : ∀ {as : List α}, (∀ a ∈ as, ok a) → as.length ≤ most → ok (oR as)
  cB : ∀ {a : α}, ok a → ok (oB a)
  cT : ∀ {a : α} {k : Nat}, ok a → k ≤ 10 ^ 30 → ok (oT a k)
  nD : ∀ {fs}, flds fs → fs.lookup ("of_deed" : Str) = none
  nR : ∀ {fs}, flds fs → fs.lookup ("of_row" : Str) = none
  nB : ∀ {fs}, flds fs → fs.lookup ("of_back" : Str) = none
  nT : ∀ {fs}, flds fs → fs.lookup ("of_times" : Str) = none
def MeaR.obj (R : MeaR α) (C : Addr) (m : V) (H : Hp) : Prop := ∃ a dx fs, m = .ref a ∧ H a = some (.ins C dx fs) ∧ R.flds fs
theorem MeaR.objUp {R : MeaR α} {C : Addr} {m : V} {H H' : Hp} (h : R.obj C m H) (s : Same H H') : R.obj C m H' := let ⟨a, dx, fs, e, f, g⟩ := h; ⟨a, dx, fs, e, s _ _ f, g⟩
def MeaR.spD (R : MeaR α) (C : Addr) : Sp := fun vs H Q _ => ∃ (m v : V) (d : Mv), vs = [m, v] ∧ R.obj C m H ∧ Dq H v (deedD d) ∧ R.okD d ∧ ∀ H' r, Same H H' → R.rep (R.oD d) r H' → Q r H'
def MeaR.spR (R : MeaR α) (C : Addr) : Sp := fun vs H Q _ => ∃ (m : V) (a : Addr) (us : List V) (as : List α), vs = [m, .ref a] ∧ R.obj C m H ∧ H a = some (.lst us) ∧ us.length = as.length ∧ as.length ≤ R.most ∧ (∀ (i : Nat) u x, us[i]? = some u → as[i]? = some x → R.rep x u H) ∧ (∀ x ∈ as, R.ok x) ∧ ∀ H' r, Same H H' → R.rep (R.oR as) r H' → Q r H'
def MeaR.spB (R : MeaR α) (C : Addr) : Sp := fun vs H Q _ => ∃ (m v : V) (x : α), vs = [m, v] ∧ R.obj C m H ∧ R.rep x v H ∧ R.ok x ∧ ∀ H' r, Same H H' → R.rep (R.oB x) r H' → Q r H'
def MeaR.spT (R : MeaR α) (C : Addr) : Sp := fun vs H Q _ => ∃ (m v : V) (x : α) (k : Nat), vs = [m, v, .int (k : Int)] ∧ R.obj C m H ∧ R.rep x v H ∧ R.ok x ∧ k ≤ 10 ^ 30 ∧ ∀ H' r, Same H H' → R.rep (R.oT x k) r H' → Q r H'
mutual
theorem worth_ok (R : MeaR α) {ws : List α} (hw : ∀ a ∈ ws, R.ok a) : ∀ t : Tm, okTm R.okD R.most ws.length t → R.ok (worth R.toMea ws t)
  | .doo d, h => by
    simp only [okTm] at h
    simp only [worth]
    exact R.cD h
  | .part j, h => by
    simp only [okTm] at h
    simp only [worth]
    rw [List.getD_eq_getElem?_getD, List.getElem?_eq_getElem h]
    exact hw _ (List.getElem_mem h)
  | .row ts, h => by
    simp only [okTm] at h
    simp only [worth]
    refine R.cR (worthL_ok R hw ts h.2) ?_
    rw [worthL_map, List.length_map]
    exact h.1
  | .back t, h => by
    simp only [okTm] at h
    simp only [worth]
    exact R.cB (worth_ok R hw t h)
  | .times t k, h => by
    simp only [okTm] at h
    simp only [worth]
    exact R.cT (worth_ok R hw t h.2) h.1
theorem worthL_ok (R : MeaR α) {ws : List α} (hw : ∀ a ∈ ws, R.ok a) : ∀ ts : List Tm, okTms R.okD R.most ws.length ts → ∀ x ∈ worthL R.toMea ws ts, R.ok x
  | [], _, x, h => by
    simp only [worthL] at h
    exact nomatch h
  | t :: ts, h, x, hx => by
    simp only [okTms] at h
    simp only [worthL] at hx
    rcases List.mem_cons.mp hx with rfl | hx
    · exact worth_ok R hw t h.1
    · exact worthL_ok R hw ts h.2 x hx
end
end
end Kr
namespace Kr
open PySem PySem.Spec PyProof.Rows L2
section
variable {P : Program} {w : World} {K : PySem.W.Frag} {mg : Str → Option Value} {base : Heap} {α : Type}
/-- the class of a measure, as it stands -/
structure MeaT (P : Program) (w : World) (K : PySem.W.Frag) (mg : Str → Option Value) (base : Heap) (R : MeaR α) (C : Addr) (km : Nat) (fD fR fB fT : Addr) (dD dR dB dT : FuncData) (pD pR pB pT : List Str) : Prop where
  cl : Cls K C
  mD : Meth K C "of_deed" fD
  mR : Meth K C "of_row" fR
  mB : Meth K C "of_back" fB
  mT : Meth K C "of_times" fT
  gD : FnOk P w K mg base CX0 km fD dD pD (R.spD C)
  gR : FnOk P w K mg base CX0 km fR dR pR (R.spR C)
  gB : FnOk P w K mg base CX0 km fB dB pB (R.spB C)
  gT : FnOk P w K mg base CX0 km fT dT pT (R.spT C)
  bD : Binds K dD pD []
  bR : Binds K dR pR []
  bB : Binds K dB pB []
  bT : Binds K dT pT []
def spTW (R : MeaR α) (C : Addr) (n : Nat) : Sp := fun vs H Q _ => ∃ (v : V) (W : Addr) (m : V) (t : Tm) (ws : List V) (as : List α), vs = [v, .ref W, m] ∧ R.obj C m H ∧ Dq H v (tmD t) ∧ dep t ≤ n ∧ R.most ≤ 400 ∧ okTm R.okD R.most as.length t ∧ H W = some (.lst ws) ∧ ws.length = as.length ∧ (∀ (i : Nat) u x, ws[i]? = some u → as[i]? = some x → R.rep x u H) ∧ (∀ x ∈ as, R.ok x) ∧
  ∀ H' r, Same H H' → R.rep (worth R.toMea as t) r H' → Q r H'
theorem dep_pos : ∀ t : Tm, 1 ≤ dep t
  | .doo _ => by simp only [dep]; omega
  | .part _ => by simp only [dep]; omega
  | .row _ => by simp only [dep]; omega
  | .back _ => by simp only [dep]; omega
  | .times _ _ => by simp only [dep]; omega
abbrev nTw : List Str := ["term", "worths", "measure", "word", "inner", "worth"]
theorem scTw : FnScope nTw ["term", "worths", "measure"] (defScope sTermWorth) := ⟨rfl, rfl, rfl, by decide +kernel, rfl, by decide +kernel, by decide +kernel⟩
theorem o_termWorth {R : MeaR α} {C : Addr} {km : Nat} {fD fR fB fT : Addr} {dD dR dB dT : FuncData} {pD pR pB pT : List Str} (D0 : Df K mg "term_worth" sTermWorth ["term", "worths", "measure"]) (B : Bi mg) (T : MeaT P w K mg base R C km fD fR fB fT dD dR dB dT pD pR pB pT) :
    ∀ n, Ok P w K mg base (km + n) "term_worth" ["term", "worths", "measure"] (spTW R C n)
  | 0 => D0.ok fun f fd F => by
    have no : ∀ vs H Q E, ¬ spTW R C 0 vs H Q E := fun vs H Q E h => by
      obtain ⟨_, _, _, t, _, _, _, _, _, hd, _⟩ := h
      have := dep_pos t
      omega
    exact ⟨fun vs H Q E h => absurd h (no vs H Q E), fun A outer s H args us vs Q E _ _ _ _ h => absurd h (no vs H Q E)⟩
  | n + 1 => by
    have ih := o_termWorth (R := R) D0 B T n
    refine D0.ok fun f fd F => F.ok scTw (fun vs H Q E h => ?_) (fun cdv A outer s H vs Q E hr h => ?_)
    · obtain ⟨_, _, _, _, _, _, rfl, _⟩ := h
      rfl
    · obtain ⟨v, W, m, t, ws, as, rfl, hob, hv, hdp, hmo, hok, hW, hwl, hrep, hoa, q⟩ := h
      have hm := hr.mono (show km ≤ km + n by omega)
      refine ⟨_, pss_cons (ps_set (i := 3) scTw.nd rfl (.inl rfl) (pe_ix ix_tup (pv 0) pe_int (fun _ _ => rfl)))
      (pss_cons (ps_if (pt_cmpR op_eq (pv 3) pe_str (nomark _)) (pss_one (ps_ret (pe_meth (pv 2) T.cl T.mD T.gD hm T.bD .nil pass0 (pa_cons (pe_ix ix_tup (pv 0) pe_int (fun _ _ => rfl)) pa_nil)))) pss_nil)
      (pss_cons (ps_if (pt_cmpR op_eq (pv 3) pe_str (nomark _)) (pss_one (ps_ret (pe_ix ix_list (pv 1) (pe_ix ix_tup (pv 0) pe_int (fun _ _ => rfl)) (fun _ _ => rfl)))) pss_nil)
      (pss_cons (ps_if (pt_cmpR op_eq (pv 3) pe_str (nomark _)) (pss_one (ps_ret (pe_meth (pv 2) T.cl T.mR T.gR hm T.bR .nil pass0 (pa_cons (pe_lc (own := [("inner", 4)]) (g := gName 4) (tt := tYes) rfl scTw.nd (pi_tup (pe_ix ix_tup (pv 0) pe_int (fun _ _ => rfl))) (blkOk_by (own := [("inner", 4)]) (N := nTw) (sc := defScope sTermWorth) (by decide +kernel)) (fun _ _ _ _ _ => pg_name (i := 4) scTw.nd rfl (.inl rfl)) (fun _ _ _ _ _ => pts_nil) (fun _ _ _ _ _ => (pe_fn ih hr (by rfl) (pa_cons (pv 4) (pa_cons (pv 1) (pa_cons (pv 2) pa_nil)))))) pa_nil)))) pss_nil)
      (pss_cons (ps_set (i := 5) scTw.nd rfl (.inl rfl) (pe_fn ih hr (by rfl) (pa_cons (pe_ix ix_tup (pv 0) pe_int (fun _ _ => rfl)) (pa_cons (pv 1) (pa_cons (pv 2) pa_nil)))))
      (pss_cons (ps_if (pt_cmpR op_eq (pv 3) pe_str (nomark _)) (pss_one (ps_ret (pe_meth (pv 2) T.cl T.mB T.gB hm T.bB .nil pass0 (pa_cons (pv 5) pa_nil)))) pss_nil)
      (pss_one (ps_ret (pe_meth (pv 2) T.cl T.mT T.gT hm T.bT .nil pass0 (pa_cons (pv 5) (pa_cons (pe_ix ix_tup (pv 0) pe_int (fun _ _ => rfl)) pa_nil)))))))))), ?_⟩
      cases t with
      | doo d =>
        simp only [tmD] at hv
        simp only [okTm] at hok
        obtain ⟨a, xs, rfl, ha, qx⟩ := Dq.tup_inv hv
        cases qx with
        | cons q1 qx =>
        cases qx with
        | cons q2 qx =>
        cases qx
        cases q1
        refine ⟨.ref a, rfl, a, _, ((0 : Nat) : Int), _, rfl, rfl, SqT.of ha, atI_nat (j := 0) rfl, ?_⟩
        dsimp only [tNext]
        refine ⟨_, rfl, rfl, _, rfl, ?_⟩
        rw [decide_eq_true rfl]
        refine iteT ?_
        obtain ⟨ma, dx, fs, rfl, hm1, hfs⟩ := hob
        refine ⟨.ref ma, rfl, ma, dx, fs, rfl, hm1, R.nD hfs, .ref a, rfl, a, _, ((1 : Nat) : Int), _, rfl, rfl, SqT.of ha, atI_nat (j := 1) rfl, ?_⟩
        refine ⟨.ref ma, _, d, rfl, ⟨ma, dx, fs, rfl, hm1, hfs⟩, q2, hok, fun H' r s1 h1 => q H' r s1 ?_⟩
        simp only [worth]
        exact h1
      | part j =>
        simp only [tmD] at hv
        simp only [okTm] at hok
        obtain ⟨a, xs, rfl, ha, qx⟩ := Dq.tup_inv hv
        cases qx with
        | cons q1 qx =>
        cases qx with
        | cons q2 qx =>
        cases qx
        cases q1
        cases q2
        refine ⟨.ref a, rfl, a, _, ((0 : Nat) : Int), _, rfl, rfl, SqT.of ha, atI_nat (j := 0) rfl, ?_⟩
        dsimp only [tNext]
        refine ⟨_, rfl, rfl, _, rfl, ?_⟩
        rw [decide_eq_false (by decide)]
        refine iteF ?_
        dsimp only [tNext]
        refine ⟨_, rfl, rfl, _, rfl, ?_⟩
        rw [decide_eq_true rfl]
        obtain ⟨u, hu⟩ : ∃ u, ws[j]? = some u := ⟨_, List.getElem?_eq_getElem (by omega)⟩
        refine iteT ⟨.ref W, rfl, .ref a, rfl, a, _, ((1 : Nat) : Int), _, rfl, rfl, SqT.of ha, atI_nat (j := 1) rfl, W, ws, j, u, rfl, rfl, SqL.of hW, atI_nat hu, q H u (Same.refl _) ?_⟩
        simp only [worth]
        rw [List.getD_eq_getElem?_getD, List.getElem?_eq_getElem hok]
        exact hrep j u _ hu (List.getElem?_eq_getElem hok)
      | row ts =>
        simp only [tmD] at hv
        simp only [okTm] at hok
        simp only [dep] at hdp
        obtain ⟨a, xs, rfl, ha, qx⟩ := Dq.tup_inv hv
        cases qx with
        | cons q1 qx =>
        cases qx with
        | cons q2 qx =>
        cases qx
        cases q1
        obtain ⟨b, ys, rfl, hb, qy⟩ := Dq.tup_inv q2
        rw [tmDs_map] at qy
        refine ⟨.ref a, rfl, a, _, ((0 : Nat) : Int), _, rfl, rfl, SqT.of ha, atI_nat (j := 0) rfl, ?_⟩
        dsimp only [tNext]
        refine ⟨_, rfl, rfl, _, rfl, ?_⟩
        rw [decide_eq_false (by decide)]
        refine iteF ?_
        dsimp only [tNext]
        refine ⟨_, rfl, rfl, _, rfl, ?_⟩
        rw [decide_eq_false (by decide)]
        refine iteF ?_
        dsimp only [tNext]
        refine ⟨_, rfl, rfl, _, rfl, ?_⟩
        rw [decide_eq_true rfl]
        refine iteT ?_
        obtain ⟨ma, dx, fs, rfl, hm1, hfs⟩ := hob
        have hyl : ys.length = ts.length := by rw [qy.len, List.length_map]
        refine ⟨.ref ma, rfl, ma, dx, fs, rfl, hm1, R.nR hfs, .ref a, rfl, a, _, ((1 : Nat) : Int), _, rfl, rfl, SqT.of ha, atI_nat (j := 1) rfl, b, rfl, ⟨_, SqT.of hb⟩, fun D nD => ?_⟩
        refine lc_it (walk_tup (K := K) (a := b) (xs := ys)) (fun i G => ∃ us : List V, G D = some (.lst us) ∧ Same H G ∧ us.length = i ∧ ∀ (k : Nat) u t, us[k]? = some u → ts[k]? = some t → R.rep (worth R.toMea as t) u G) ⟨[], upd_same, same_new nD, rfl, fun k u t h _ => by simp at h⟩ (fun _ _ _ ⟨_, _, sm, _, _⟩ => SqT.of (sm _ _ hb)) ?_ ?_
        · rintro i x _ G hi ⟨us, hD, sm, hul, hus⟩ ⟨rfl, hx⟩
          obtain ⟨d0, hd0, qd⟩ := qy.get hx
          rw [List.getElem?_map] at hd0
          obtain ⟨t, ht, rfl⟩ := Option.map_eq_some_iff.mp hd0
          have htm := List.mem_of_getElem? ht
          have htd : dep t ≤ n := by have := depL_le htm; omega
          refine ⟨rfl, ?_⟩
          dsimp only [tYes]
          rw [if_pos rfl]
          refine ⟨x, rfl, .ref W, rfl, .ref ma, rfl, x, W, .ref ma, t, ws, as, rfl, ⟨ma, dx, fs, rfl, sm _ _ hm1, hfs⟩, qd.up sm, htd, hmo, okTms_mem hok.2 t htm, sm _ _ hW, hwl, (fun k u y h1 h2 => R.up (TS.of sm) (hrep k u y h1 h2)), hoa, fun H' r s1 h1 => ?_⟩
          have hD' := s1 _ _ hD
          refine ⟨us, hD', szm (by omega), us ++ [r], upd_same, fun c o hc => ?_, by rw [List.length_append, hul]; rfl, fun k u t' hk ht' => ?_⟩
          · rw [upd_ne (ne_of_none hc nD)]
            exact s1 _ _ (sm _ _ hc)
          · have ts' : TS H' (upd H' D (.lst (us ++ [r]))) := TS.lst hD'
            rcases Nat.lt_trichotomy k us.length with c | c | c
            · rw [List.getElem?_append_left c] at hk
              exact R.up ts' (R.up (TS.of s1) (hus k u t' hk ht'))
            · subst c
              rw [List.getElem?_append_right (Nat.le_refl _), Nat.sub_self] at hk
              cases Option.some.inj hk
              rw [hul, ht] at ht'
              cases Option.some.inj ht'
              exact R.up ts' h1
            · rw [List.getElem?_eq_none (by rw [List.length_append]; show _ + 1 ≤ _; omega)] at hk
              cases hk
        · rintro G ⟨us, hD, sm, hul, hus⟩
          refine ⟨.ref ma, D, us, ts.map (worth R.toMea as), rfl, ⟨ma, dx, fs, rfl, sm _ _ hm1, hfs⟩, hD, by rw [List.length_map, hul, hyl], by rw [List.length_map]; exact hok.1, (fun k u x h1 h2 => ?_), (fun x hx => ?_), fun H' r s1 h1 => q H' r (sm.trans s1) ?_⟩
          · rw [List.getElem?_map] at h2
            obtain ⟨t, ht, rfl⟩ := Option.map_eq_some_iff.mp h2
            exact hus k u t h1 ht
          · obtain ⟨t, ht, rfl⟩ := List.mem_map.mp hx
            exact worth_ok R hoa t (okTms_mem hok.2 t ht)
          · simp only [worth]
            rw [worthL_map]
            exact h1
      | back t =>
        simp only [tmD] at hv
        simp only [okTm] at hok
        simp only [dep] at hdp
        obtain ⟨a, xs, rfl, ha, qx⟩ := Dq.tup_inv hv
        cases qx with
        | cons q1 qx =>
        cases qx with
        | @cons y _ _ _ q2 qx =>
        cases qx
        cases q1
        refine ⟨.ref a, rfl, a, _, ((0 : Nat) : Int), _, rfl, rfl, SqT.of ha, atI_nat (j := 0) rfl, ?_⟩
        dsimp only [tNext]
        refine ⟨_, rfl, rfl, _, rfl, ?_⟩
        rw [decide_eq_false (by decide)]
        refine iteF ?_
        dsimp only [tNext]
        refine ⟨_, rfl, rfl, _, rfl, ?_⟩
        rw [decide_eq_false (by decide)]
        refine iteF ?_
        dsimp only [tNext]
        refine ⟨_, rfl, rfl, _, rfl, ?_⟩
        rw [decide_eq_false (by decide)]
        refine iteF ?_
        dsimp only [tNext]
        refine ⟨.ref a, rfl, a, _, ((1 : Nat) : Int), _, rfl, rfl, SqT.of ha, atI_nat (j := 1) rfl, .ref W, rfl, m, rfl, _, W, m, t, ws, as, rfl, hob, q2, by omega, hmo, hok, hW, hwl, hrep, hoa, fun H1 r s1 h1 => ?_⟩
        dsimp only [tNext]
        refine ⟨_, rfl, rfl, _, rfl, ?_⟩
        rw [decide_eq_true rfl]
        obtain ⟨ma, dx, fs, rfl, hm1, hfs⟩ := hob
        refine iteT ⟨.ref ma, rfl, ma, dx, fs, rfl, s1 _ _ hm1, R.nB hfs, r, rfl, .ref ma, r, _, rfl, ⟨ma, dx, fs, rfl, s1 _ _ hm1, hfs⟩, h1, worth_ok R hoa t hok, fun H' r' s2 h2 => q H' r' (s1.trans s2) ?_⟩
        simp only [worth]
        exact h2
      | times t k =>
        simp only [tmD] at hv
        simp only [okTm] at hok
        simp only [dep] at hdp
        obtain ⟨a, xs, rfl, ha, qx⟩ := Dq.tup_inv hv
        cases qx with
        | cons q1 qx =>
        cases qx with
        | @cons y _ _ _ q2 qx =>
        cases qx with
        | cons q3 qx =>
        cases qx
        cases q1
        cases q3
        refine ⟨.ref a, rfl, a, _, ((0 : Nat) : Int), _, rfl, rfl, SqT.of ha, atI_nat (j := 0) rfl, ?_⟩
        dsimp only [tNext]
        refine ⟨_, rfl, rfl, _, rfl, ?_⟩
        rw [decide_eq_false (by decide)]
        refine iteF ?_
        dsimp only [tNext]
        refine ⟨_, rfl, rfl, _, rfl, ?_⟩
        rw [decide_eq_false (by decide)]
        refine iteF ?_
        dsimp only [tNext]
        refine ⟨_, rfl, rfl, _, rfl, ?_⟩
        rw [decide_eq_false (by decide)]
        refine iteF ?_
        dsimp only [tNext]
        refine ⟨.ref a, rfl, a, _, ((1 : Nat) : Int), _, rfl, rfl, SqT.of ha, atI_nat (j := 1) rfl, .ref W, rfl, m, rfl, _, W, m, t, ws, as, rfl, hob, q2, by omega, hmo, hok.2, hW, hwl, hrep, hoa, fun H1 r s1 h1 => ?_⟩
        dsimp only [tNext]
        refine ⟨_, rfl, rfl, _, rfl, ?_⟩
        rw [decide_eq_false (by decide)]
        obtain ⟨ma, dx, fs, rfl, hm1, hfs⟩ := hob
        refine iteF ?_
        dsimp only [tNext]
        refine ⟨.ref ma, rfl, ma, dx, fs, rfl, s1 _ _ hm1, R.nT hfs, r, rfl, .ref a, rfl, a, _, ((2 : Nat) : Int), _, rfl, rfl, SqT.of (s1 _ _ ha), atI_nat (j := 2) rfl, .ref ma, r, _, k, rfl, ⟨ma, dx, fs, rfl, s1 _ _ hm1, hfs⟩, h1, worth_ok R hoa t hok.2, hok.1, fun H' r' s2 h2 => q H' r' (s1.trans s2) ?_⟩
        simp only [worth]
        exact h2
end
end Kr
namespace Kr
open PySem PySem.Spec PyProof.Rows L2
/-! ### worths of programs -/
section
variable {α : Type}
def wsAll (M : Mea α) : List Tm → List α → List α
  | [], ws => ws
  | t :: ts, ws => wsAll M ts (ws ++ [worth M ws t])
theorem wsAll_app (M : Mea α) : ∀ (a b : List Tm) (ws : List α), wsAll M (a ++ b) ws = wsAll M b (wsAll M a ws)
  | [], _, _ => rfl
  | t :: a, b, ws => wsAll_app M a b _
theorem wsAll_len (M : Mea α) : ∀ (a : List Tm) (ws : List α), (wsAll M a ws).length = ws.length + a.length
  | [], _ => rfl
  | t :: a, ws => by
    show (wsAll M a _).length = _
    rw [wsAll_len M a]
    simp only [List.length_append, List.length_cons, List.length_nil]
    omega
/-- the worth of a program -/
def progW (M : Mea α) (p : List Tm) : α := (wsAll M p []).getLastD (M.oR [])
/-- a program whose terms are at most so deep -/
structure PrOk (D : Mv → Prop) (r n : Nat) (p : List Tm) : Prop where
  ne : 0 < p.length
  len : p.length ≤ 400
  tm : ∀ (i : Nat) t, p[i]? = some t → okTm D r i t ∧ dep t ≤ n
theorem wsAll_take (M : Mea α) {p : List Tm} {i : Nat} {t : Tm} (h : p[i]? = some t) : wsAll M (p.take (i + 1)) [] = wsAll M (p.take i) [] ++ [worth M (wsAll M (p.take i) []) t] := by
  rw [List.take_add_one, h, wsAll_app]
  rfl
theorem wsAll_ok (R : MeaR α) {n : Nat} {p : List Tm} (h : PrOk R.okD R.most n p) : ∀ i, i ≤ p.length → ∀ a ∈ wsAll R.toMea (p.take i) [], R.ok a
  | 0, _, a, ha => nomatch ha
  | i + 1, hi, a, ha => by
    obtain ⟨t, ht⟩ : ∃ t, p[i]? = some t := ⟨_, List.getElem?_eq_getElem (by omega)⟩
    rw [wsAll_take _ ht] at ha
    have ih := wsAll_ok R h i (by omega)
    rcases List.mem_append.mp ha with c | c
    · exact ih a c
    · rw [List.mem_singleton.mp c]
      refine worth_ok R ih t ?_
      rw [wsAll_len, List.length_take]
      have := (h.tm i t ht).1
      rwa [show [].length + min i p.length = i by show 0 + _ = _; omega]
end
section
variable {P : Program} {w : World} {K : PySem.W.Frag} {mg : Str → Option Value} {base : Heap} {α : Type}
def spPW (R : MeaR α) (C : Addr) (n : Nat) : Sp := fun vs H Q _ => ∃ (v m : V) (p : List Tm), vs = [v, m] ∧ R.obj C m H ∧ Dq H v (.tuple (p.map tmD)) ∧ R.most ≤ 400 ∧ PrOk R.okD R.most n p ∧ ∀ H' r, Same H H' → R.rep (progW R.toMea p) r H' → Q r H'
abbrev nPw : List Str := ["program", "measure", "worths", "term"]
theorem o_progWorth {R : MeaR α} {C : Addr} {km n : Nat} (D0 : Df K mg "program_worth" sProgramWorth ["program", "measure"]) (B : Bi mg) (tw : Ok P w K mg base (km + n) "term_worth" ["term", "worths", "measure"] (spTW R C n)) : Ok P w K mg base (km + n + 1) "program_worth" ["program", "measure"] (spPW R C n) := by
  have scPw : FnScope nPw ["program", "measure"] (defScope sProgramWorth) := ⟨rfl, rfl, rfl, by decide +kernel, rfl, by decide +kernel, by decide +kernel⟩
  refine D0.ok fun f fd F => F.ok scPw (fun vs H Q E h => ?_) (fun cdv A outer s H vs Q E hr h => ?_)
  · obtain ⟨_, _, _, rfl, _⟩ := h
    rfl
  · obtain ⟨v, m, p, rfl, hob, hv, hmo, hp, q⟩ := h
    refine ⟨_, pss_cons (ps_set (i := 2) scPw.nd rfl (.inl rfl) (pe_lst pa_nil))
      (pss_cons (ps_for PassesOwn.never rfl (pi_tup (pv 0)) (pg_name (i := 3) scPw.nd rfl (.inl rfl))
        (pss_one (ps_expr (pe_bm PySem.F.plainAttrs_list PySem.F.slot_list_append PySem.F.type_list_append mt_append (pv 2) (pa_cons (pe_fn tw hr (by rfl) (pa_cons (pv 3) (pa_cons (pv 2) (pa_cons (pv 1) pa_nil)))) pa_nil)))))
      (pss_one (ps_ret (pe_ix ix_list (pv 2) (pe_un un_neg pe_int) (fun _ _ => rfl))))), ?_⟩
    obtain ⟨pa, xs, rfl, hpa, qx⟩ := Dq.tup_inv hv
    have hxl : xs.length = p.length := by rw [qx.len, List.length_map]
    refine ⟨by show 0 ≤ sizeLine; decide, fun W nW => ?_⟩
    have s1 := same_new (o := .lst []) nW
    have hW : upd H W (.lst []) W = some (.lst []) := upd_same
    have nf : ∀ b o, H b = some o → b ≠ W := fun b o hb => ne_of_none hb nW
    generalize upd H W (.lst []) = H1 at s1 hW
    dsimp only [tNext]
    refine ⟨.ref pa, rfl, pa, rfl, ⟨_, SqT.of (s1 _ _ hpa)⟩, for_it (walk_tup (K := K) (a := pa) (xs := xs)) (fun i σ G => ∃ (v3 : Option V) (us : List V), σ = [some (.ref pa), some m, some (.ref W), v3] ∧ Same H G ∧ G W = some (.lst us) ∧ us.length = i ∧ ∀ (k : Nat) u a, us[k]? = some u → (wsAll R.toMea (p.take i) [])[k]? = some a → R.rep a u G)
      ⟨_, [], rfl, s1, hW, rfl, fun k u a h _ => by simp at h⟩ (fun _ _ _ _ ⟨_, _, _, sm, _⟩ => SqT.of (sm _ _ hpa)) ?_ ?_⟩
    · rintro i x σ _ G hi ⟨v3, us, rfl, sm, hG, hul, hus⟩ ⟨rfl, hx⟩
      obtain ⟨d0, hd0, qd⟩ := qx.get hx
      rw [List.getElem?_map] at hd0
      obtain ⟨t, ht, rfl⟩ := Option.map_eq_some_iff.mp hd0
      obtain ⟨h1, h2⟩ := hp.tm i t ht
      have hwl : (wsAll R.toMea (p.take i) []).length = i := by
        rw [wsAll_len, List.length_take]
        show 0 + _ = _
        omega
      have hpl := hp.len
      refine ⟨.ref W, rfl, .inl ⟨rfl, _, SqL.of hG⟩, x, rfl, .ref W, rfl, m, rfl, x, W, m, t, us, wsAll R.toMea (p.take i) [], rfl, MeaR.objUp hob sm, qd.up sm, h2, hmo, by rw [hwl]; exact h1, hG, by rw [hul, hwl], hus, wsAll_ok R hp i (by omega), fun H' r s2 hr' => ?_⟩
      have hG' := s2 _ _ hG
      refine ⟨W, us, r, rfl, rfl, hG', szl (by omega), _, us ++ [r], rfl, fun b o hb => ?_, upd_same, by rw [List.length_append, hul]; rfl, fun k u a hk ha => ?_⟩
      · rw [upd_ne (nf b o hb)]
        exact s2 _ _ (sm _ _ hb)
      · have ts : TS H' (upd H' W (.lst (us ++ [r]))) := TS.lst hG'
        rw [wsAll_take _ ht] at ha
        rcases Nat.lt_trichotomy k us.length with c | c | c
        · rw [List.getElem?_append_left c] at hk
          rw [List.getElem?_append_left (by rw [hwl]; omega)] at ha
          exact R.up ts (R.up (TS.of s2) (hus k u a hk ha))
        · subst c
          rw [List.getElem?_append_right (Nat.le_refl _), Nat.sub_self] at hk
          cases Option.some.inj hk
          rw [List.getElem?_append_right (by rw [hwl]; omega), hwl, hul, Nat.sub_self] at ha
          cases Option.some.inj ha
          exact R.up ts hr'
        · rw [List.getElem?_eq_none (by rw [List.length_append]; show _ + 1 ≤ _; omega)] at hk
          cases hk
    · rintro σ G ⟨v3, us, rfl, sm, hG, hul, hus⟩
      rw [hxl, List.take_length] at hus
      rw [hxl] at hul
      have hne := hp.ne
      obtain ⟨u, hu⟩ : ∃ u, us[p.length - 1]? = some u := ⟨_, List.getElem?_eq_getElem (by omega)⟩
      have hal : (wsAll R.toMea p []).length = p.length := by rw [wsAll_len]; show 0 + _ = _; omega
      obtain ⟨a, ha⟩ : ∃ a, (wsAll R.toMea p [])[p.length - 1]? = some a := ⟨_, List.getElem?_eq_getElem (by omega)⟩
      have el : progW R.toMea p = a := by
        unfold progW
        rw [List.getLastD_eq_getLast?, List.getLast?_eq_getElem?, hal, ha]
        rfl
      have hul2 : p.length - 1 < us.length := by omega
      have eu : us = us.take (p.length - 1) ++ [u] := by
        have h1 := List.take_append_drop (p.length - 1) us
        rw [List.drop_eq_getElem_cons hul2, List.drop_eq_nil_of_le (by omega)] at h1
        rw [List.getElem?_eq_getElem hul2] at hu
        rw [Option.some.inj hu] at h1
        exact h1.symm
      refine ⟨.ref W, rfl, _, rfl, W, us, -1, u, rfl, rfl, SqL.of hG, by rw [eu]; exact atI_last _ _, q G u sm ?_⟩
      rw [el]
      exact hus _ u a hu ha
end
end Kr
namespace Kr
open PySem PySem.Spec PyProof.Rows L2
/-! ### zip of a list and a tuple -/
section
variable {prog : Program} {w : World} {A : Around} {E : Value → Shared → Prop} {s : Shared}
abbrev Rest (h h' : Heap) (z TO i1 i2 : Addr) : Prop := ∀ c o, c ≠ z → c ≠ TO → c ≠ i1 → c ≠ i2 → h.get? c = some o → h'.get? c = some o
theorem zlt_item {z TI TO i1 i2 l1 l2 : Addr} {k : Nat} {xs ys : Array Value} {x y a b : Value} {W : Value → Shared → Prop} (D : ZipApart z TI TO i1 i2 l1 l2) (gz : IsZip s.heap z TI TO .none) (gI : IsPair s.heap TI (.ref i1) (.ref i2)) (gO : IsPair s.heap TO a b)
    (f1 : s.heap.IsListIter i1 l1 k) (f2 : s.heap.IsTupleIter i2 l2 k) (c1 : s.heap.IsList l1 xs) (c2 : s.heap.IsTuple l2 ys) (ex : xs[k]? = some x) (ey : ys[k]? = some y)
    (fin : ∀ h', IsZip h' z TI TO (rawInt s.heap.objs.size) → IsPair h' TO x y → h'.IsListIter i1 l1 (k + 1) → h'.IsTupleIter i2 l2 (k + 1) → IsPair h' s.heap.objs.size x y → h'.objs.size = s.heap.objs.size + 1 → Rest s.heap h' z TO i1 i2 → W (.ref s.heap.objs.size) { s with heap := h' }) :
    wpAny (model prog w) A (Builtin.«zip.__next__» ⟨[.ref z], []⟩) (fun f s' => ∃ v, f = .done (.ret v) ∧ W v s') E s := by
  show wpAny _ _ (field (.ref z) 2 >>= _) _ _ _; refine wpAny_bind (wpAny_field gz rfl (x := .bool false) rfl ?_)
  show wpAny _ _ (field (.ref z) 3 >>= _) _ _ _; refine wpAny_bind (wpAny_field gz rfl (x := .ref TI) rfl (wpAny_bind (wpAny_seqItems gI rfl ?_)))
  show wpAny _ _ (Builtin.SmallTypes.ownedTupleIsFree (.ref z) >>= _) _ _ _; refine wpAny_bind ?_; unfold Builtin.SmallTypes.ownedTupleIsFree
  refine wpAny_bind (wpAny_field gz rfl (x := .none) rfl (wpAny_pure ?_)); simp only [if_true]
  refine wpAny_bind (wpAny_rule (wpAny_bind (wpAny_field gz rfl (x := .ref TO) rfl (wpAny_bind (wpAny_setField_rec gz (by simp) fun ha ga ea => ?_)))))
  replace ga : IsZip ha z TI TO .ellipsis := ga
  refine wpAny_bind ?_; simp only [List.zipIdx_cons, List.zipIdx_nil, List.forIn_cons, List.forIn_nil]
  refine wpAny_bind (wpAny_bind (wpAny_onRaise ?_)); show wpAny _ _ (Builtin.SmallTypes.nextOf (.ref i1) >>= _) _ _ _
  refine wpAny_bind (wpAny_nextOf_list_item (f1.extBut ea.extBut D.i1z) (c1.extBut ea.extBut D.l1z) ex fun hb fb eb => wpAny_pure ?_)
  have gb : IsPair hb TO a b := eb.extBut _ _ D.TOi1 (ea.extBut _ _ D.TOz gO)
  refine wpAny_bind (wpAny_seqItems gb rfl (wpAny_bind (wpAny_updateSeq_pair gb fun hc gc ec => wpAny_bind (wpAny_letGo (wpAny_pure ?_)))))
  replace gc : IsPair hc TO x b := gc
  refine wpAny_bind (wpAny_bind (wpAny_onRaise ?_)); show wpAny _ _ (Builtin.SmallTypes.nextOf (.ref i2) >>= _) _ _ _
  refine wpAny_bind (RZ.nextOf_tuple_item (((f2.extBut ea.extBut D.i2z).extBut eb.extBut D.i12.symm).extBut ec.extBut D.TOi2.symm) (((c2.extBut ea.extBut D.l2z).extBut eb.extBut D.l2i1).extBut ec.extBut D.l2TO) ey fun hd fd ed => wpAny_pure ?_)
  have gd : IsPair hd TO x b := ed.extBut _ _ D.TOi2 gc
  refine wpAny_bind (wpAny_seqItems gd rfl (wpAny_bind (wpAny_updateSeq_pair gd fun he ge ee => wpAny_bind (wpAny_letGo (wpAny_pure (wpAny_pure ?_))))))
  replace ge : IsPair he TO x y := ge
  refine wpAny_bind (wpAny_seqItems ge rfl (wpAny_bind (wpAny_newTuple ?_)))
  have size0 : he.objs.size = s.heap.objs.size := by rw [ee.1, ed.1, ec.1, eb.1, ea.1]
  have gz5 : IsZip he z TI TO .ellipsis := ee.extBut _ _ D.TOz.symm (ed.extBut _ _ D.i2z.symm (ec.extBut _ _ D.TOz.symm (eb.extBut _ _ D.i1z.symm ga)))
  have rest5 : Rest s.heap he z TO i1 i2 := fun c o n1 n2 n3 n4 q => ee.extBut _ _ n2 (ed.extBut _ _ n4 (ec.extBut _ _ n2 (eb.extBut _ _ n3 (ea.extBut _ _ n1 q))))
  have fa5 : he.IsListIter i1 l1 (k + 1) := ((fb.extBut ec.extBut D.TOi1.symm).extBut ed.extBut D.i12).extBut ee.extBut D.TOi1.symm
  have fb5 : he.IsTupleIter i2 l2 (k + 1) := fd.extBut ee.extBut D.TOi2.symm
  have ltz : z < he.objs.size := Heap.lt_size gz5
  show wpAny _ _ (Builtin.SmallTypes.ownedTupleHandOut (.ref z) (.ref he.objs.size) >>= _) _ _ _; refine wpAny_bind ?_; unfold Builtin.SmallTypes.ownedTupleHandOut
  have gz6 : IsZip (he.push { cls := .type "tuple", data := .seq #[x, y] }) z TI TO .ellipsis := Heap.get?_push_of_some _ gz5
  refine wpAny_bind (wpAny_setField_rec gz6 (by simp) fun hf gf ef => ?_)
  replace gf : IsZip hf z TI TO (rawInt he.objs.size) := gf
  refine wpAny_setField_rec gf (by simp) fun hg gg eg => ?_
  replace gg : IsZip hg z TI TO (rawInt he.objs.size) := gg
  have lift : ∀ c o, c ≠ z → he.get? c = some o → hg.get? c = some o := fun c o n q => eg.extBut _ _ n (ef.extBut _ _ n (Heap.get?_push_of_some _ q))
  have gT : IsPair hg he.objs.size x y := eg.extBut _ _ (Nat.ne_of_gt ltz) (ef.extBut _ _ (Nat.ne_of_gt ltz) (Heap.get?_push_size _ rfl))
  have sz8 : hg.objs.size = he.objs.size + 1 := by rw [eg.1, ef.1, Heap.size_push]
  rw [size0] at gg gT sz8
  refine wpAny_pure ⟨_, rfl, ?_⟩; show W (.ref he.objs.size) _; rw [size0]
  exact fin hg gg (lift _ _ D.TOz ge) (fa5.at fun o q => lift _ o D.i1z q) (fb5.at fun o q => lift _ o D.i2z q) gT sz8 fun c o n1 n2 n3 n4 q => lift c o n1 (rest5 c o n1 n2 n3 n4 q)
theorem zlt_end {z TI TO i1 i2 l1 l2 : Addr} {k : Nat} {xs ys : Array Value} {a b : Value} {W : Fin → Shared → Prop} (hh : A.handled = none) (D : ZipApart z TI TO i1 i2 l1 l2) (gz : IsZip s.heap z TI TO .none) (gI : IsPair s.heap TI (.ref i1) (.ref i2)) (gO : IsPair s.heap TO a b)
    (f1 : s.heap.IsListIter i1 l1 k) (f2 : s.heap.IsTupleIter i2 l2 k) (c1 : s.heap.IsList l1 xs) (c2 : s.heap.IsTuple l2 ys) (stop : xs[k]? = none ∨ ys[k]? = none)
    (out : ∀ h' e, Rest s.heap h' z TO i1 i2 → (∃ o, h'.get? e = some o ∧ o.cls = .type "StopIteration") → E (.ref e) { s with heap := h' }) : wpAny (model prog w) A (Builtin.«zip.__next__» ⟨[.ref z], []⟩) W E s := by
  show wpAny _ _ (field (.ref z) 2 >>= _) _ _ _; refine wpAny_bind (wpAny_field gz rfl (x := .bool false) rfl ?_)
  show wpAny _ _ (field (.ref z) 3 >>= _) _ _ _; refine wpAny_bind (wpAny_field gz rfl (x := .ref TI) rfl (wpAny_bind (wpAny_seqItems gI rfl ?_)))
  show wpAny _ _ (Builtin.SmallTypes.ownedTupleIsFree (.ref z) >>= _) _ _ _; refine wpAny_bind ?_; unfold Builtin.SmallTypes.ownedTupleIsFree
  refine wpAny_bind (wpAny_field gz rfl (x := .none) rfl (wpAny_pure ?_)); simp only [if_true]
  refine wpAny_bind (wpAny_rule (wpAny_bind (wpAny_field gz rfl (x := .ref TO) rfl (wpAny_bind (wpAny_setField_rec gz (by simp) fun ha ga ea => ?_)))))
  replace ga : IsZip ha z TI TO .ellipsis := ga
  refine wpAny_bind ?_; simp only [List.zipIdx_cons, List.zipIdx_nil, List.forIn_cons, List.forIn_nil]
  refine wpAny_bind (wpAny_bind (wpAny_onRaise ?_)); show wpAny _ _ (Builtin.SmallTypes.nextOf (.ref i1) >>= _) _ _ _
  cases ex : xs[k]? with
  | none =>
    refine wpAny_bind (wpAny_nextOf_list_end hh (f1.extBut ea.extBut D.i1z) (c1.extBut ea.extBut D.l1z) ex fun hb e eb stp => ?_)
    obtain ⟨oe, goe, ce⟩ := stp
    have gb : IsZip hb z TI TO .ellipsis := eb _ _ D.i1z.symm ga
    have nez : e ≠ z := fun q => by subst q; rw [gb] at goe; cases goe; simp at ce
    exact wpAny_setField_rec gb (by simp) fun hc _ ec => out hc e (fun c o n1 _ n3 _ q => ec.extBut _ _ n1 (eb _ _ n3 (ea.extBut _ _ n1 q))) ⟨oe, ec.extBut _ _ nez goe, ce⟩
  | some x =>
    have ey : ys[k]? = none := by rcases stop with q | q; rw [ex] at q; cases q; exact q
    refine wpAny_bind (wpAny_nextOf_list_item (f1.extBut ea.extBut D.i1z) (c1.extBut ea.extBut D.l1z) ex fun hb fb eb => wpAny_pure ?_)
    have gb : IsPair hb TO a b := eb.extBut _ _ D.TOi1 (ea.extBut _ _ D.TOz gO)
    refine wpAny_bind (wpAny_seqItems gb rfl (wpAny_bind (wpAny_updateSeq_pair gb fun hc gc ec => wpAny_bind (wpAny_letGo (wpAny_pure ?_)))))
    refine wpAny_bind (wpAny_bind (wpAny_onRaise ?_)); show wpAny _ _ (Builtin.SmallTypes.nextOf (.ref i2) >>= _) _ _ _
    refine wpAny_bind (RZ.nextOf_tuple_end hh (((f2.extBut ea.extBut D.i2z).extBut eb.extBut D.i12.symm).extBut ec.extBut D.TOi2.symm) (((c2.extBut ea.extBut D.l2z).extBut eb.extBut D.l2i1).extBut ec.extBut D.l2TO) ey fun hd e ed stp => ?_)
    obtain ⟨oe, goe, ce⟩ := stp
    have gd : IsZip hd z TI TO .ellipsis := ed _ _ D.i2z.symm (ec.extBut _ _ D.TOz.symm (eb.extBut _ _ D.i1z.symm ga))
    have nez : e ≠ z := fun q => by subst q; rw [gd] at goe; cases goe; simp at ce
    exact wpAny_setField_rec gd (by simp) fun he _ ee => out he e (fun c o n1 n2 n3 n4 q => ee.extBut _ _ n1 (ed _ _ n4 (ec.extBut _ _ n2 (eb.extBut _ _ n3 (ea.extBut _ _ n1 q))))) ⟨oe, ee.extBut _ _ nez goe, ce⟩
/-- the zip object -/
abbrev q1 (h : Heap) (l1 : Addr) : Heap := h.push { cls := .type "list_iterator", data := .fields #[.ref l1, .int 0 0] }
abbrev q2 (h : Heap) (l1 l2 : Addr) : Heap := (q1 h l1).push { cls := .type "tuple_iterator", data := .fields #[.ref l2, .int 0 0] }
abbrev q3 (h : Heap) (l1 l2 : Addr) : Heap := (q2 h l1 l2).push { cls := .type "tuple", data := .seq #[.ref h.objs.size, .ref (q1 h l1).objs.size] }
abbrev q4 (h : Heap) (l1 l2 : Addr) : Heap := (q3 h l1 l2).push { cls := .type "tuple", data := .seq #[.none, .none] }
abbrev q5 (h : Heap) (l1 l2 : Addr) : Heap := (q4 h l1 l2).push { cls := .type "zip", data := .fields #[.none, .bool false, .bool false, .ref (q2 h l1 l2).objs.size, .ref (q3 h l1 l2).objs.size] }
theorem meets_zlt (l1 l2 : Addr) (xs ys : Array Value) : Meets (Builtin.«zip.__new__» ⟨[.type "zip", .ref l1, .ref l2], []⟩) (fun _ R s => s.heap.IsList l1 xs ∧ s.heap.IsTuple l2 ys ∧ R (.ok (.ret (.ref (q4 s.heap l1 l2).objs.size))) { s with heap := q5 s.heap l1 l2 }) :=
  .of_wp fun prog w A R s h => by
    obtain ⟨hp, g, d, tk, os⟩ := s; obtain ⟨c1, c2, h⟩ := h
    have hsub := sub_zip
    have L1 : Heap.IsList (Shared.heap ⟨hp, g, d, tk, os⟩) l1 xs := c1
    have L2 : Heap.IsTuple (Shared.heap ⟨hp.push { cls := .type "list_iterator", data := .fields #[.ref l1, .int 0 0] }, g, d, tk, os⟩) l2 ys := Heap.IsTuple.push c2 _
    wp_walk using wpAny_pyIter_list L1, wpAny_pyIter_tuple L2
    exact ⟨_, rfl, h⟩
theorem call_zlt {l1 l2 : Addr} {xs ys : Array Value} {W : Value → Shared → Prop} (c1 : s.heap.IsList l1 xs) (c2 : s.heap.IsTuple l2 ys)
    (h : ∀ h', IsZip h' (s.heap.objs.size + 4) (s.heap.objs.size + 2) (s.heap.objs.size + 3) .none → IsPair h' (s.heap.objs.size + 2) (.ref s.heap.objs.size) (.ref (s.heap.objs.size + 1)) → IsPair h' (s.heap.objs.size + 3) .none .none → h'.IsListIter s.heap.objs.size l1 0 → h'.IsTupleIter (s.heap.objs.size + 1) l2 0 →
      (∀ c o, s.heap.get? c = some o → h'.get? c = some o) → W (.ref (s.heap.objs.size + 4)) { s with heap := h' }) : wpAny (model prog w) A (call (.type "zip") [.ref l1, .ref l2]) W E s := by
  refine callType_new F.called_zip (by decide) (F.typeCall_zip_2 _ _) (F.newCall_zip_2 _ _) (fun ob => F.args_object_init_3 ob _ _) F.entry_zip_new (meets_zlt l1 l2 xs ys) ⟨c1, c2, ?_⟩
  have n1 : (q1 s.heap l1).objs.size = s.heap.objs.size + 1 := Heap.size_push ..
  have n2 : (q2 s.heap l1 l2).objs.size = s.heap.objs.size + 2 := by rw [Heap.size_push, n1]
  have n3 : (q3 s.heap l1 l2).objs.size = s.heap.objs.size + 3 := by rw [Heap.size_push, n2]
  have n4 : (q4 s.heap l1 l2).objs.size = s.heap.objs.size + 4 := by rw [Heap.size_push, n3]
  have p5 : (q5 s.heap l1 l2).get? (q4 s.heap l1 l2).objs.size = some _ := Heap.get?_push_size _ rfl
  have p4 : (q5 s.heap l1 l2).get? (q3 s.heap l1 l2).objs.size = some _ := Heap.get?_push_of_some _ (Heap.get?_push_size _ rfl)
  have p3 : (q5 s.heap l1 l2).get? (q2 s.heap l1 l2).objs.size = some _ := Heap.get?_push_of_some _ (Heap.get?_push_of_some _ (Heap.get?_push_size _ rfl))
  have p2 : (q5 s.heap l1 l2).get? (q1 s.heap l1).objs.size = some _ := Heap.get?_push_of_some _ (Heap.get?_push_of_some _ (Heap.get?_push_of_some _ (Heap.get?_push_size _ rfl)))
  have p1 : (q5 s.heap l1 l2).get? s.heap.objs.size = some _ := Heap.get?_push_of_some _ (Heap.get?_push_of_some _ (Heap.get?_push_of_some _ (Heap.get?_push_of_some _ (Heap.get?_push_size _ rfl))))
  show _ ∧ _; rw [n2, n3, n4] at p5; rw [n1, n2] at p3; rw [n3] at p4; rw [n1] at p2; rw [n4]
  exact ⟨⟨_, p5, rfl⟩, h _ p5 p3 p4 ⟨_, p1, rfl, rfl⟩ ⟨_, p2, rfl, rfl⟩ fun c o x => Heap.get?_push_of_some _ (Heap.get?_push_of_some _ (Heap.get?_push_of_some _ (Heap.get?_push_of_some _ (Heap.get?_push_of_some _ x))))⟩
end
/-- the walk of it: a new pair each turn -/
def ItzM (K : PySem.W.Frag) (a b : Addr) : It :=
  ⟨fun i H => ∃ (xs ys : List V) (x y : V), SqL K H a xs ∧ SqT K H b ys ∧ xs[i]? = some x ∧ ys[i]? = some y,
    fun i H v H' => ∃ T x y, v = .ref T ∧ H T = none ∧ H' = upd H T (.tup [x, y]) ∧ (∀ xs, SqL K H a xs → xs[i]? = some x) ∧ ∀ ys, SqT K H b ys → ys[i]? = some y,
    fun i H => ∃ xs ys : List V, SqL K H a xs ∧ SqT K H b ys ∧ (xs.length ≤ i ∨ ys.length ≤ i)⟩
theorem turn_zlt {P : Program} {w : World} {K : PySem.W.Frag} {elts : List Expr} {kk : Nat} {tpos : Pos} {a b z TI TO i1 i2 : Addr} (D : ZipApart z TI TO i1 i2 a b) :
    Turn P w K (.Tuple elts kk tpos) (ItzM K a b) [z, TI, TO, i1, i2] z (fun i h => IsZip h z TI TO .none ∧ IsPair h TI (.ref i1) (.ref i2) ∧ (∃ x y, IsPair h TO x y) ∧ h.IsListIter i1 a i ∧ h.IsTupleIter i2 b i) where
  mem := by simp
  obj := fun i h st c hc => by
    obtain ⟨gz, gI, ⟨x, y, gO⟩, ⟨o1, e1, _, d1⟩, ⟨o2, e2, _, d2⟩⟩ := st
    have cases5 : c = z ∨ c = TI ∨ c = TO ∨ c = i1 ∨ c = i2 := by simpa using hc
    exact cases5.elim (fun e => e ▸ ⟨_, gz, fun v q => nomatch q⟩) fun r => r.elim (fun e => e ▸ ⟨_, gI, fun v q => nomatch q⟩) fun r => r.elim (fun e => e ▸ ⟨_, gO, fun v q => nomatch q⟩) fun r => r.elim (fun e => e ▸ ⟨o1, e1, fun v q => by rw [d1] at q; cases q⟩) fun e => e ▸ ⟨o2, e2, fun v q => by rw [d2] at q; cases q⟩
  keep := fun i h h' ⟨gz, gI, ⟨x, y, gO⟩, f1, f2⟩ k => ⟨k z (by simp) _ gz, k TI (by simp) _ gI, ⟨x, y, k TO (by simp) _ gO⟩, f1.at fun o q => k i1 (by simp) o q, f2.at fun o q => k i2 (by simp) o q⟩
  item := by
    intro X eP ew eK calm i pins s σ H E I fp st hg
    subst eP ew eK
    obtain ⟨gz, gI, ⟨x0, y0, gO⟩, f1, f2⟩ := st
    obtain ⟨xs, ys, x, y, qx, qy, ex, ey⟩ := hg
    obtain ⟨its, rv, p, _⟩ := I.list qx
    obtain ⟨its2, rv2, p2, _⟩ := I.tuple qy
    obtain ⟨u, hu, ru⟩ := rv.get ex
    obtain ⟨u2, hu2, ru2⟩ := rv2.get ey
    have zl : z < s.heap.objs.size := Heap.lt_size gz
    have hT : s.TypeIs (.ref z) "zip" := ⟨_, gz, rfl⟩
    unfold pyNext
    refine wpAny_bind (wpAny_attempt (wpAny_callSpecial?_slot (name := Str.ofString "__next__") hT F.slot_zip_next (wpAny_call_entry F.slot_zip_next hT F.entry_zip_next (zlt_item D gz gI gO f1 f2 p.isList p2 (x := u) (y := u2) (by simpa using hu) (by simpa using hu2) fun h' z' o' w1 w2 gT gs rst => wpAny_pure ?_) (F.args_zip_next_1 _))))
    refine ⟨_, rfl, wpAny_letOwnedTupleGo_zip (s := { s with heap := h' }) z' fun h'' z'' sb => ?_⟩
    have gT2 : h''.get? s.heap.objs.size = some { cls := .type "tuple", data := .seq #[u, u2] } := (sb.2 _ (Nat.ne_of_gt zl)).trans gT
    have rst2 : ∀ c o, c ∉ [z, TI, TO, i1, i2] → s.heap.get? c = some o → h''.get? c = some o := fun c o nb q => by
      simp only [List.mem_cons, List.not_mem_nil, or_false, not_or] at nb
      exact (sb.2 c nb.1).trans (rst c o nb.1 nb.2.2.1 nb.2.2.2.1 nb.2.2.2.2 q)
    have I1 : Inv X pins σ (upd H s.heap.objs.size (.tup [x, y])) { s with heap := h'' } :=
      I.turnedNew (t' := s.toks) (ch := [z, TI, TO, i1, i2]) rst2 fp (Nat.le_refl _) ⟨by show 2 ≤ sizeLine; decide, [u, u2], .cons ru (.cons ru2 .nil), ⟨_, gT2, rfl, _, rfl⟩⟩
    refine ⟨.ref s.heap.objs.size, _, I1, rfl, ⟨_, x, y, rfl, I.hok.fresh (Nat.le_refl _), rfl, fun l hl => by rw [I.list_inj hl qx]; exact ex, fun l hl => by rw [I.tuple_inj hl qy]; exact ey⟩, ⟨z'', (sb.2 _ D.TIz).trans (rst _ _ D.TIz D.TITO D.TIi1 D.TIi2 gI), ⟨u, u2, (sb.2 _ D.TOz).trans o'⟩, w1.at fun o q => (sb.2 _ D.i1z).trans q, w2.at fun o q => (sb.2 _ D.i2z).trans q⟩, fun c hcm => ?_⟩
    have lt : c < s.heap.objs.size := by
      have cases5 : c = z ∨ c = TI ∨ c = TO ∨ c = i1 ∨ c = i2 := by simpa using hcm
      obtain ⟨_, e1, _⟩ := f1
      obtain ⟨_, e2, _⟩ := f2
      exact cases5.elim (fun e => e ▸ zl) fun r => r.elim (fun e => e ▸ Heap.lt_size gI) fun r => r.elim (fun e => e ▸ Heap.lt_size gO) fun r => r.elim (fun e => e ▸ Heap.lt_size e1) fun e => e ▸ Heap.lt_size e2
    rw [upd_ne (Nat.ne_of_lt lt)]
    exact (fp c hcm).1
  done := by
    intro X eP ew eK calm i pins s σ H E I fp st hg
    subst eP ew eK
    obtain ⟨gz, gI, ⟨x0, y0, gO⟩, f1, f2⟩ := st
    obtain ⟨xs, ys, qx, qy, stop⟩ := hg
    obtain ⟨its, rv, p, _⟩ := I.list qx
    obtain ⟨its2, rv2, p2, _⟩ := I.tuple qy
    have l1 := rv.length
    have l2 := rv2.length
    have he : its.toArray[i]? = none ∨ its2.toArray[i]? = none := stop.elim (fun q => .inl (by simp; omega)) fun q => .inr (by simp; omega)
    have hT : s.TypeIs (.ref z) "zip" := ⟨_, gz, rfl⟩
    unfold pyNext
    refine wpAny_bind (wpAny_attempt (wpAny_callSpecial?_slot (name := Str.ofString "__next__") hT F.slot_zip_next (wpAny_call_entry F.slot_zip_next hT F.entry_zip_next (zlt_end (I.ok.hd calm) D gz gI gO f1 f2 p.isList p2 he fun h' e rst stp => ?_) (F.args_zip_next_1 _))))
    obtain ⟨o, ho, hc⟩ := stp
    refine wpAny_bind (wpAny_isInstance (T := "StopIteration") (b := true) ⟨o, ho, hc⟩ isSubtype_stop (wpAny_pure ⟨rfl, I.turnedL (t' := s.toks) (ch := [z, TI, TO, i1, i2]) (fun c o nb q => ?_) fp⟩))
    simp only [List.mem_cons, List.not_mem_nil, or_false, not_or] at nb
    exact rst c o nb.1 nb.2.2.1 nb.2.2.2.1 nb.2.2.2.2 q
  self := fun A i s Q E st h => wpAny_pyIter_zip st.1 h
def iZipM (K : PySem.W.Frag) (ta : TA) : TI := fun σ H R => ta σ H fun vs H1 => ∃ a b xs ys, vs = [.ref a, .ref b] ∧ SqL K H1 a xs ∧ SqT K H1 b ys ∧ R (ItzM K a b) H1
theorem pi_zipM {X : Cx} {e e2 : Expr} {ta : TA} {p pos tpos : Pos} {elts : List Expr} {kk : Nat} (hg : Gl X "zip") (hm : X.mg "zip" = none) (ha : PA X [e, e2] ta)
    (hs : starEach [e, e2] X.env = (false, eval e X.env) :: starEach [e2] X.env := by rfl) (hpl : (backTo pos (starEach [e2] X.env)).any (·.1) = false := by rfl) : PI X (.Tuple elts kk tpos) (.Call (.Name "zip" p) [e, e2] [] pos) (iZipM X.K ta) := by
  refine ⟨fun pn sh st hp R Iv hh => Call_ (ld_blt Iv hg hm PyProof.Rows.boot_zip (PyProof.Rows.callWith_type1 (thn (ha.run pos pn sh st hp _ Iv hh) fun us s1 ⟨vs, H1, I1, r1, q1⟩ => ?_) hs hpl))⟩
  obtain ⟨a, b, xs, ys, rfl, qx, qy, q⟩ := q1
  cases r1 with
  | cons r rr =>
    cases rr with
    | cons r' rr =>
      cases rr; cases r; cases r'
      obtain ⟨its, rv, p1, _⟩ := I1.list qx
      obtain ⟨its2, rv2, p2, _⟩ := I1.tuple qy
      obtain ⟨o2, ho2, _⟩ := id p2
      refine call_zlt p1.isList p2 fun h' gz gI gO f1 f2 hk => wpAny_pyIter_zip gz ?_
      have I2 : Inv X pn st H1 { s1 with heap := h' } := I1.kept (t' := s1.toks) hk
      refine ⟨s1.heap.objs.size + 4, [s1.heap.objs.size + 4, s1.heap.objs.size + 2, s1.heap.objs.size + 3, s1.heap.objs.size, s1.heap.objs.size + 1], _, _, H1, rfl, I2, turn_zlt (PySem.W.ktu_apart s1.heap.objs.size a b p1.lt (Heap.lt_size ho2)), ⟨gz, gI, ⟨_, _, gO⟩, f1, f2⟩, fun c hcm => ?_, q⟩
      have le : s1.heap.objs.size ≤ c := by
        have cases5 : c = s1.heap.objs.size + 4 ∨ c = s1.heap.objs.size + 2 ∨ c = s1.heap.objs.size + 3 ∨ c = s1.heap.objs.size ∨ c = s1.heap.objs.size + 1 := by simpa using hcm
        rcases cases5 with q | q | q | q | q <;> rw [q] <;> first | exact Nat.le_add_right _ _ | exact Nat.le_refl _
      exact I1.fpOk le (I1.hok.fresh le)
theorem walk_zlt {K : PySem.W.Frag} {a b : Addr} {xs ys : List V} {n : Nat} (hn : n = min xs.length ys.length) : Walk (ItzM K a b) n (fun H => SqL K H a xs ∧ SqT K H b ys) (YPair (fun i => xs[i]?) (fun i => ys[i]?)) := by
  subst hn
  refine ⟨fun i _ hi q => ?_, fun _ ⟨g1, g2⟩ => ⟨xs, ys, g1, g2, (by omega)⟩, fun i H v H' _ ⟨g1, g2⟩ ⟨T, x, z, t1, t2, t3, t4, t5⟩ => ⟨T, x, z, t1, t2, t3, t4 _ g1, t5 _ g2⟩⟩
  obtain ⟨m1, m2⟩ := Nat.lt_min.mp hi
  exact ⟨xs, ys, xs[i], ys[i], q.1, q.2, List.getElem?_eq_getElem m1, List.getElem?_eq_getElem m2⟩
end Kr
namespace Kr
open PySem PySem.Spec PyProof.Rows L2
section
variable {P : Program} {w : World} {K : PySem.W.Frag} {mg : Str → Option Value} {base : Heap}
abbrev nBo : List Str := ["n", "one", "other", "entries", "aim", "entry", "onward", "place"]
theorem f_both {f : Addr} {fd : FuncData} (F : Fun K "both" "both" sBoth f fd) (B : Bi mg) (ai : Ok P w K mg base 4 "aims_of" ["n", "table"] spAims) : FnOk P w K mg base CX0 5 f fd ["n", "one", "other"] spBoth := by
  have scBo : FnScope nBo ["n", "one", "other"] (defScope sBoth) := ⟨rfl, rfl, rfl, by decide +kernel, rfl, by decide +kernel, by decide +kernel⟩
  refine F.ok scBo (fun vs H Q E h => ?_) (fun cdv A outer s H vs Q E hr h => ?_)
  · obtain ⟨n, v, u, T, U, rfl, _⟩ := h
    rfl
  · obtain ⟨n, v, u, T, U, rfl, hn, hv, hu', hTl, hT, hUl, hU, q⟩ := h
    refine ⟨_, pss_cons (ps_set (i := 3) scBo.nd rfl (.inl rfl) (pe_lst pa_nil))
      (pss_cons (ps_for PassesOwn.never rfl (pi_zipM (by rfl) B.zip (pa_cons (pe_fn ai hr (by rfl) (pa_cons (pv 0) (pa_cons (pv 1) pa_nil))) (pa_cons (pv 1) pa_nil))) (pg_tup rfl (pgs_cons (pg_name (i := 4) scBo.nd rfl (.inl rfl)) (pgs_cons (pg_name (i := 5) scBo.nd rfl (.inl rfl)) pgs_nil)))
        (pss_cons (ps_set (i := 6) scBo.nd rfl (.inr rfl) (pe_ix ix_tup (pv 2) (pv 4) (fun _ _ => rfl)))
        (pss_one (ps_expr (pe_bm PySem.F.plainAttrs_list PySem.F.slot_list_append PySem.F.type_list_append mt_append (pv 3) (pa_cons (pe_callTy call_tuple_of (by rfl) B.tuple (by decide +kernel) (pa_cons
          (pe_lc (own := [("place", 7)]) (g := gName 7) (tt := tYes) rfl scBo.nd (pi_tup (pv 5)) (blkOk_by (own := [("place", 7)]) (N := nBo) (sc := defScope sBoth) (by decide +kernel)) (fun _ _ _ _ _ => pg_name (i := 7) scBo.nd rfl (.inl rfl)) (fun _ _ _ _ _ => pts_nil)
            (fun _ _ _ _ _ => pe_ifExp (pt_cmpR op_eq (pv 7) (pe_un un_neg pe_int) (nomark _)) (pe_un un_neg pe_int) (pe_ix (r := rIxT K) ix_tup (pv 6) (pv 7) (fun _ _ => rfl)))) pa_nil)) pa_nil))))))
      (pss_one (ps_ret (pe_callTy call_tuple_of (by rfl) B.tuple (by decide +kernel) (pa_cons (pv 3) pa_nil))))), ?_⟩
    refine ⟨by show 0 ≤ sizeLine; decide, fun en nen => ?_⟩
    have s1 := same_new (o := .lst []) nen
    have hen : upd H en (.lst []) en = some (.lst []) := upd_same
    have nf : ∀ b o, H b = some o → b ≠ en := fun b o hb => ne_of_none hb nen
    generalize upd H en (.lst []) = H1 at hen s1
    refine ⟨.int n, rfl, v, rfl, n, v, T, rfl, hn, hv.up s1, hTl, fun e he => (hT e he).1, fun H2 ad s2 nad had => ?_⟩
    have s12 := s1.trans s2
    have hen2 := s2 _ _ hen
    have hv2 := hv.up s12
    have hu2 := hu'.up s12
    obtain ⟨va, xs, rfl, hva, qx⟩ := Dq.tup_inv hv2
    obtain ⟨ua, us, rfl, hua, qu⟩ := Dq.tup_inv hu2
    have nva : va ≠ en := ne_of hva hen2 (by intro z; cases z)
    have nua : ua ≠ en := ne_of hua hen2 (by intro z; cases z)
    have nad2 : ad ≠ en := (ne_of_none hen nad).symm
    have hxl : xs.length = T.length := by rw [qx.len, List.length_map]
    have hul : us.length = 2 ^ n := by rw [qu.len, List.length_map, hUl]
    have hail : ((aimsT n T).map V.int).length = T.length := by unfold aimsT; rw [List.length_map, List.length_map]
    refine ⟨.ref va, rfl, ad, va, _, xs, rfl, SqL.of had, SqT.of hva, for_it (walk_zlt (n := T.length) (by omega)) (fun i σ G => ∃ (v4 v5 v6 : Option V) (acc : List V), σ = [some (.int n), some (.ref va), some (.ref ua), some (.ref en), v4, v5, v6, none] ∧
        (∀ b o, b ≠ en → H2 b = some o → G b = some o) ∧ G en = some (.lst acc) ∧ DqA G acc ((T.take i).map fun e => entD (bothE n U e)))
      ⟨_, _, _, [], rfl, fun _ _ _ h => h, hen2, .nil⟩ (fun i σ G _ ⟨_, _, _, _, _, k, _⟩ => ⟨SqL.of (k _ _ nad2 had), SqT.of (k _ _ nva hva)⟩) ?_ ?_⟩
    · rintro i _ σ G _ hi ⟨v4, v5, v6, acc, rfl, k, hG, qac⟩ ⟨t0, x1, x2, rfl, nt0, rfl, e1, e2⟩
      obtain ⟨e, he, ea, rfl, hea⟩ := ents_get qx e2
      have e3 : x1 = .int ((num n (goalE n e) : Nat) : Int) := by
        have e4 : ((aimsT n T).map V.int)[i]? = some x1 := e1
        unfold aimsT at e4
        rw [List.getElem?_map, List.getElem?_map, he] at e4
        exact (Option.some.inj e4).symm
      subst e3
      have st0 := same_new (o := .tup [.int ((num n (goalE n e) : Nat) : Int), .ref ea]) nt0
      have nea : ea ≠ en := ne_of hea hen2 (by intro z; cases z)
      have hea' := st0 _ _ (k _ _ nea hea)
      obtain ⟨hgo, hel, hex⟩ := hT e (List.mem_of_getElem? he)
      have hnum := all_num hn hgo
      have acl : acc.length = i := by
        rw [qac.len, List.length_map, List.length_take]
        omega
      have hG0 := st0 _ _ hG
      have qac0 := qac.up st0
      refine ⟨t0, [.int ((num n (goalE n e) : Nat) : Int), .ref ea], rfl, SqT.of upd_same, rfl, .int ((num n (goalE n e) : Nat) : Int), [.ref ea], rfl, .ref ea, [], rfl, rfl, ?_⟩
      have k0 : ∀ b o, b ≠ en → H2 b = some o → upd G t0 (.tup [.int ((num n (goalE n e) : Nat) : Int), .ref ea]) b = some o := fun b o hb ho => st0 _ _ (k _ _ hb ho)
      generalize upd G t0 (.tup [.int ((num n (goalE n e) : Nat) : Int), .ref ea]) = G1 at hea' hG0 qac0 k0
      obtain ⟨uv, huv⟩ : ∃ uv, us[num n (goalE n e)]? = some uv := ⟨_, List.getElem?_eq_getElem (by omega)⟩
      obtain ⟨ue, hue, uea, rfl, huea⟩ := ents_get qu huv
      have hue2 : U.getD (num n (goalE n e)) [] = ue := getD_of hue
      have huel := hU ue (List.mem_of_getElem? hue)
      have nuea : uea ≠ en := ne_of huea hen2 (by intro z; cases z)
      refine ⟨.ref ua, rfl, .int ((num n (goalE n e) : Nat) : Int), rfl, ua, us, (num n (goalE n e) : Nat), .ref uea, rfl, rfl, SqT.of (k0 _ _ nua hua), atI_nat huv, ?_⟩
      have hue3 := k0 _ _ nuea huea
      dsimp only [tNext]
      refine ⟨.ref en, rfl, .inl ⟨rfl, _, SqL.of hG0⟩, .ref ea, rfl, ea, rfl, ⟨_, SqT.of hea'⟩, fun D nD => ?_⟩
      refine lc_itF (walk_tup (K := K) (a := ea) (xs := e.map V.int)) (fun j => .int (if e.getD j 0 = -1 then -1 else ue.getD (e.getD j 0).toNat 0)) nD (by rw [List.length_map]; omega) (fun _ _ => rfl) (fun G s => SqT.of (s _ _ hea')) (fun j y G3 G3' C Cn hj s4 hy c => ?_) (fun G4 bs s4 hD qb => ?_)
      · obtain ⟨rfl, hy⟩ := hy
        rw [List.length_map] at hj
        have ey : y = .int (e.getD j 0) := by
          rw [List.getElem?_map, getD_get hj] at hy
          exact (Option.some.inj hy).symm
        subst ey
        have hxe := hex _ (List.mem_of_getElem? (getD_get hj))
        generalize e.getD j 0 = z at c hxe
        refine ⟨rfl, ?_⟩
        dsimp only [tYes]
        rw [if_pos rfl]
        refine ⟨.int z, rfl, 1, rfl, rfl, _, rfl, ?_⟩
        by_cases hz : z = -1
        · rw [decide_eq_true (show V.int z = V.int (-1) by rw [hz])]
          rw [if_pos hz] at c
          exact iteT ⟨1, rfl, c _ _ (Same.refl _) (.int _)⟩
        · rw [decide_eq_false (fun y => hz (V.int.inj y))]
          rw [if_neg hz] at c
          have hz2 := hxe.resolve_left hz
          obtain ⟨m, rfl⟩ : ∃ m : Nat, z = m := ⟨z.toNat, by omega⟩
          rw [Int.toNat_natCast] at c
          exact iteF ⟨.ref uea, rfl, .int m, rfl, uea, _, m, .int (ue.getD m 0), rfl, rfl, SqT.of (s4 _ _ hue3), atI_nat (by rw [List.getElem?_map, getD_get (by omega)]; rfl), c _ _ (Same.refl _) (.int _)⟩
      have em := map_getD (fun (z : Int) => PyData.int (if z = -1 then -1 else ue.getD z.toNat 0)) 0 e
      rw [List.length_map, em] at qb
      have ebs : bs = (bothE n U e).map V.int := dqa_int (by
        unfold bothE
        rw [hue2, List.map_map]
        exact qb)
      subst ebs
      refine ⟨D, _, rfl, .inl ⟨SqL.of hD, fun t2 nt2 => ?_⟩⟩
      have s5 := same_new (o := .tup ((bothE n U e).map V.int)) nt2
      have ht2 : upd G4 t2 (.tup ((bothE n U e).map V.int)) t2 = some (.tup ((bothE n U e).map V.int)) := upd_same
      have hG5 := s5 _ _ (s4 _ _ hG0)
      generalize upd G4 t2 (.tup ((bothE n U e).map V.int)) = G5 at s5 ht2 hG5
      have ts : TS G5 (upd G5 en (.lst (acc ++ [.ref t2]))) := TS.lst hG5
      refine ⟨en, acc, .ref t2, rfl, rfl, hG5, szl (by omega), _, _, _, _, rfl, fun b o hb ho => ?_, upd_same, ?_⟩
      · rw [upd_ne hb]
        exact s5 _ _ (s4 _ _ (k0 _ _ hb ho))
      · rw [take_snoc he]
        refine dqa_snoc (DqA.upT ts (flatTA_of fun d hd => ?_) ((qac0.up s4).up s5)) (Dq.upT ts (ent_flat _) (ent_at ht2))
        obtain ⟨l', _, rfl⟩ := List.mem_map.mp hd
        exact ent_flat _
    · rintro σ G ⟨v4, v5, v6, acc, rfl, k, hG, qac⟩
      rw [List.take_length] at qac
      refine ⟨.ref en, rfl, en, acc, rfl, .inl ⟨SqL.of hG, fun t nt => q _ _ (fun b' o hb => same_new nt _ _ (k _ _ (nf _ _ hb) (s12 _ _ hb))) (.tup upd_same ?_)⟩⟩
      unfold bothT
      rw [List.map_map]
      exact qac.up (same_new nt)
end
end Kr
namespace Kr
open PySem PySem.Spec PyProof.Rows L2
section
variable {P : Program} {w : World} {K : PySem.W.Frag} {mg : Str → Option Value} {base : Heap}
theorem f_still {f : Addr} {fd : FuncData} (F : Fun K "still" "still" sStill f fd) (B : Bi mg) (wt : Ok P w K mg base 3 "ways_table" ["n", "ways"] spWays) : FnOk P w K mg base CX0 4 f fd ["n"] spStill := by
  have scSt : FnScope ["n"] ["n"] (defScope sStill) := ⟨rfl, rfl, rfl, by decide +kernel, rfl, by decide +kernel, by decide +kernel⟩
  refine F.ok scSt (fun vs H Q E h => ?_) (fun cdv A outer s H vs Q E hr h => ?_)
  · obtain ⟨n, rfl, _⟩ := h
    rfl
  · obtain ⟨n, rfl, hn, q⟩ := h
    refine ⟨_, pss_one (ps_ret (pe_fn wt hr (by rfl) (pa_cons (pv 0) (pa_cons (pe_listRg rfl (by rfl) B.list (prg_1 (by rfl) B.range (pv 0))) pa_nil)))), ?_⟩
    refine ⟨.int n, rfl, .int n, rfl, (n : Int), rfl, RgOk.of_le (Int.le_refl _) (by omega) (by decide) (by omega), fun r nr => ?_⟩
    rw [rg_ups]
    exact ⟨n, r, ups n, rfl, hn, upd_same, by unfold ups; rw [List.length_map, List.length_range]; omega, fun H' v s hv => q _ _ ((same_new nr).trans s) hv⟩
end
end Kr
namespace Kr
open PySem PySem.Spec PyProof.Rows L2
section
variable {P : Program} {w : World} {K : PySem.W.Frag} {mg : Str → Option Value} {base : Heap}
abbrev nDt : List Str := ["n", "deed", "asked", "a", "b", "staying", "exchanged", "entries", "lot", "comes_about", "place"]
theorem scDt : FnScope nDt ["n", "deed"] (defScope sDeedTable) := ⟨rfl, rfl, rfl, by decide +kernel, rfl, by decide +kernel, by decide +kernel⟩
theorem f_deedTable {f : Addr} {fd : FuncData} (F : Fun K "deed_table" "deed_table" sDeedTable f fd) (B : Bi mg) (al : Ok P w K mg base 2 "all_lots" ["n"] spAll6) (eb : Ok P w K mg base 1 "_entry_by" ["lot", "ways"] spEntBy) : FnOk P w K mg base CX0 3 f fd ["n", "deed"] spDeedT := by
  refine F.ok scDt (fun vs H Q E h => ?_) (fun cdv A outer s H vs Q E hr h => ?_)
  · obtain ⟨n, d, q, as, a, b, rfl, _⟩ := h
    rfl
  · obtain ⟨n, d, qa, as, a, b, rfl, hn, hd, hq, has, han, hbn, q⟩ := h
    have hr1 := hr.mono (show 1 ≤ 2 by decide)
    refine ⟨_, pss_cons (ps_asg (pv 1) (pg_tup rfl (pgs_cons (pg_name (i := 2) scDt.nd rfl (.inl rfl)) (pgs_cons (pg_name (i := 3) scDt.nd rfl (.inl rfl)) (pgs_cons (pg_name (i := 4) scDt.nd rfl (.inl rfl)) pgs_nil)))))
      (pss_cons (ps_set (i := 5) scDt.nd rfl (.inl rfl) (pe_listRg rfl (by rfl) B.list (prg_1 (by rfl) B.range (pv 0))))
      (pss_cons (ps_set (i := 6) scDt.nd rfl (.inl rfl) (pe_callTy call_list_of (by rfl) B.list (by decide +kernel) (pa_cons (pv 5) pa_nil)))
      (pss_cons (ps_asg (pv 4) (pg_sub (pv 6) (pv 3) set_list))
      (pss_cons (ps_asg (pv 3) (pg_sub (pv 6) (pv 4) set_list))
      (pss_cons (ps_set (i := 7) scDt.nd rfl (.inl rfl) (pe_lst pa_nil))
      (pss_cons (ps_for PassesOwn.never rfl (pi_tup (pe_fn al hr (by rfl) (pa_cons (pv 0) pa_nil))) (pg_name (i := 8) scDt.nd rfl (.inr rfl))
        (pss_cons (ps_set (i := 9) scDt.nd rfl (.inl rfl) (pe_callB (cr_all rfl) (by rfl) B.all (by decide +kernel) (pa_cons
          (pe_lc (own := [("place", 10)]) (g := gName 10) (tt := tYes) rfl scDt.nd (pi_tup (pv 2)) (blkOk_by (own := [("place", 10)]) (N := nDt) (sc := defScope sDeedTable) (by decide +kernel)) (fun _ _ _ _ _ => pg_name (i := 10) scDt.nd rfl (.inl rfl)) (fun _ _ _ _ _ => pts_nil)
            (fun _ _ _ _ _ => pe_cmpR (r := rIn K false) op_in_seq (pv 10) (pv 8) rfl)) pa_nil)))
        (pss_one (ps_expr (pe_bm PySem.F.plainAttrs_list PySem.F.slot_list_append PySem.F.type_list_append mt_append (pv 7) (pa_cons (pe_fn eb hr1 (by rfl) (pa_cons (pv 8) (pa_cons (pe_ifExp (pt_val (pv 9)) (pv 6) (pv 5)) pa_nil))) pa_nil))))))
      (pss_one (ps_ret (pe_callTy call_tuple_of (by rfl) B.tuple (by decide +kernel) (pa_cons (pv 7) pa_nil)))))))))), ?_⟩
    refine ⟨.ref d, rfl, d, _, rfl, SqT.of hd, rfl, .ref qa, [.int a, .int b], rfl, .int a, [.int b], rfl, .int b, [], rfl, rfl, ?_⟩
    dsimp only
    refine ⟨.int n, rfl, (n : Int), rfl, RgOk.of_le (Int.le_refl _) (by omega) (by decide) (by omega), fun st nst => ?_⟩
    rw [rg_ups]
    have s1 := same_new (o := .lst ((ups n).map V.int)) nst
    have hst : upd H st (.lst ((ups n).map V.int)) st = some (.lst ((ups n).map V.int)) := upd_same
    generalize upd H st (.lst ((ups n).map V.int)) = H1 at s1 hst
    refine ⟨.ref st, rfl, st, _, rfl, .inl (SqL.of hst), fun ex nex => ?_⟩
    have hul : (ups n).length = n := by unfold ups; rw [List.length_map, List.length_range]
    refine ⟨.int b, rfl, .ref ex, rfl, .int a, rfl, ex, _, a, a, rfl, rfl, upd_same, ixN_nat (by rw [List.length_map, hul]; exact han), ?_⟩
    rw [upd_upd]
    dsimp only
    refine ⟨.int a, rfl, .ref ex, rfl, .int b, rfl, ex, _, b, b, rfl, rfl, upd_same, ixN_nat (by rw [List.length_set, List.length_map, hul]; exact hbn), ?_⟩
    rw [upd_upd]
    have e6 : (((ups n).map V.int).set a (.int b)).set b (.int a) = (swapW n a b).map V.int := by
      unfold swapW
      rw [List.map_set, List.map_set]
    rw [e6]
    have s2 := same_new (o := .lst ((swapW n a b).map V.int)) nex
    have hex : upd H1 ex (.lst ((swapW n a b).map V.int)) ex = some (.lst ((swapW n a b).map V.int)) := upd_same
    have hst2 := s2 _ _ hst
    have s12 := s1.trans s2
    generalize upd H1 ex (.lst ((swapW n a b).map V.int)) = H2 at hex hst2 s12
    clear s1 s2 nex nst
    dsimp only
    refine ⟨by show 0 ≤ sizeLine; decide, fun en nen => ?_⟩
    have s3 := same_new (o := .lst []) nen
    have hen : upd H2 en (.lst []) en = some (.lst []) := upd_same
    have nexe : ex ≠ en := ne_of_none hex nen
    have nste : st ≠ en := ne_of_none hst2 nen
    have neno : ∀ b o, H b = some o → b ≠ en := fun b o hb => ne_of_none (s12 _ _ hb) nen
    have hex3 := s3 _ _ hex
    have hst3 := s3 _ _ hst2
    have s13 := s12.trans s3
    generalize upd H2 en (.lst []) = H3 at hen hex3 hst3 s13
    refine ⟨.int n, rfl, n, rfl, hn, fun H4 v s4 hv => ?_⟩
    obtain ⟨la, xs, rfl, hla, qx⟩ := Dq.tup_inv hv
    have hxl : xs.length = (allL n).length := by rw [qx.len, List.length_map]
    have hal := all_few n (by omega)
    have hen4 := s4 _ _ hen
    have nla : la ≠ en := ne_of hla hen4 (by intro z; cases z)
    refine ⟨la, rfl, ⟨xs, SqT.of hla⟩, for_it (walk_tup (K := K) (a := la) (xs := xs)) (fun i σ G => ∃ (v8 v9 : Option V) (acc : List V), σ = [some (.int n), some (.ref d), some (.ref qa), some (.int a), some (.int b), some (.ref st), some (.ref ex), some (.ref en), v8, v9, none] ∧
        (∀ b o, b ≠ en → H4 b = some o → G b = some o) ∧ G en = some (.lst acc) ∧ DqA G acc (((allL n).take i).map fun l => entD (byE l (if as.all (fun x => decide (x ∈ l)) = true then swapW n a b else ups n))))
      ⟨_, _, [], rfl, fun _ _ _ h => h, hen4, .nil⟩ (fun i σ G _ ⟨_, _, _, _, k, _⟩ => SqT.of (k _ _ nla hla)) ?_ ?_⟩
    · rintro i x σ G G' hi ⟨v8, v9, acc, rfl, k, hG, qac⟩ ⟨rfl, hx⟩
      obtain ⟨l, hl, lb, rfl, hlb⟩ := lots_get qx hx
      have nlb : lb ≠ en := ne_of hlb hen4 (by intro z; cases z)
      have hlb' := k _ _ nlb hlb
      have hq' := k _ _ (neno _ _ hq) (s4 _ _ (s13 _ _ hq))
      refine ⟨.ref qa, rfl, qa, rfl, ⟨_, SqT.of hq'⟩, fun D nD => ?_⟩
      refine lc_itF (walk_tup (K := K) (a := qa) (xs := lv as)) (fun i => .bool (decide (as.getD i 0 ∈ l))) nD (by rw [lv_len]; omega) (fun _ _ => rfl) (fun G s => SqT.of (s _ _ hq')) (fun j x G2 G2' C Cn hj s5 y c => ?_) (fun G3 bs s5 hD qb => ?_)
      · obtain ⟨rfl, hx⟩ := y
        obtain ⟨z, hz, rfl⟩ : ∃ z, as[j]? = some z ∧ V.int (z : Nat) = x := by
          unfold lv at hx
          rw [List.getElem?_map] at hx
          cases e : as[j]? with
          | none => rw [e] at hx; cases hx
          | some y => rw [e] at hx; exact ⟨y, rfl, Option.some.inj hx⟩
        rw [getD_of hz] at c
        refine ⟨rfl, ?_⟩
        dsimp only [tYes]
        rw [if_pos rfl]
        refine ⟨.int z, rfl, .ref lb, rfl, lb, lv l, rfl, .inr (SqT.of (s5 _ _ hlb')), rfl, lv_fl l, ?_⟩
        rw [inV_lot]
        exact c _ _ (Same.refl _) (.bl _)
      rw [lv_len, map_getD (fun z => PyData.bool (decide (z ∈ l)))] at qb
      have ebs : bs = (as.map fun z => decide (z ∈ l)).map V.bl := dqa_bools (by rw [List.map_map]; exact qb)
      subst ebs
      refine ⟨D, _, rfl, SqL.of hD, ?_⟩
      have eall : (as.map fun z => decide (z ∈ l)).all id = as.all (fun x => decide (x ∈ l)) := by rw [List.all_map]; rfl
      rw [eall]
      have hG3 := s5 _ _ hG
      have hlb3 := s5 _ _ hlb'
      have hst5 := s5 _ _ (k _ _ nste (s4 _ _ hst3))
      have hex5 := s5 _ _ (k _ _ nexe (s4 _ _ hex3))
      refine ⟨.ref en, rfl, .inl ⟨rfl, _, SqL.of hG3⟩, .ref lb, rfl, .bl _, rfl, _, rfl, ?_⟩
      have acl : acc.length = i := by
        rw [qac.len, List.length_map, List.length_take]
        omega
      have put : ∀ (G6 : Hp) (t : Addr) (ws : List Int), Same G3 G6 → ws = (if as.all (fun x => decide (x ∈ l)) = true then swapW n a b else ups n) → G6 t = some (.tup ((byE l ws).map V.int)) →
          (∀ b' o, b' ≠ en → H4 b' = some o → upd G6 en (.lst (acc ++ [.ref t])) b' = some o) ∧ upd G6 en (.lst (acc ++ [.ref t])) en = some (.lst (acc ++ [.ref t])) ∧
          DqA (upd G6 en (.lst (acc ++ [.ref t]))) (acc ++ [.ref t]) (((allL n).take (i + 1)).map fun l => entD (byE l (if as.all (fun x => decide (x ∈ l)) = true then swapW n a b else ups n))) := fun G6 t ws s6 ew ht => by
        have ts : TS G6 (upd G6 en (.lst (acc ++ [.ref t]))) := TS.lst (s6 _ _ hG3)
        refine ⟨fun b' o hb ho => ?_, upd_same, ?_⟩
        · rw [upd_ne hb]
          exact s6 _ _ (s5 _ _ (k _ _ hb ho))
        · rw [take_snoc hl]
          refine dqa_snoc (DqA.upT ts (flatTA_of fun d hd => ?_) ((qac.up s5).up s6)) (Dq.upT ts (ent_flat _) (ent_at ?_))
          · obtain ⟨l', _, rfl⟩ := List.mem_map.mp hd
            exact ent_flat _
          · rw [← ew]
            exact ht
      cases hc : as.all (fun x => decide (x ∈ l)) with
      | true =>
        rw [hc] at put
        refine iteT ⟨.ref ex, rfl, lb, ex, l, swapW n a b, rfl, hlb3, hex5, by unfold swapW; rw [List.length_set, List.length_set, hul]; omega, fun G6 t s6 ht => ?_⟩
        obtain ⟨p1, p2, p3⟩ := put G6 t (swapW n a b) s6 rfl ht
        exact ⟨en, acc, .ref t, rfl, rfl, s6 _ _ hG3, szl (by omega), _, _, _, rfl, p1, p2, p3⟩
      | false =>
        rw [hc] at put
        refine iteF ⟨.ref st, rfl, lb, st, l, ups n, rfl, hlb3, hst5, by rw [hul]; omega, fun G6 t s6 ht => ?_⟩
        obtain ⟨p1, p2, p3⟩ := put G6 t (ups n) s6 rfl ht
        exact ⟨en, acc, .ref t, rfl, rfl, s6 _ _ hG3, szl (by omega), _, _, _, rfl, p1, p2, p3⟩
    · rintro σ G ⟨v8, v9, acc, rfl, k, hG, qac⟩
      rw [hxl, List.take_length] at qac
      refine ⟨.ref en, rfl, en, acc, rfl, .inl ⟨SqL.of hG, fun t nt => q _ _ (fun b' o hb => same_new nt _ _ (k _ _ (neno _ _ hb) (s4 _ _ (s13 _ _ hb)))) (.tup upd_same ?_)⟩⟩
      unfold deedT
      rw [List.map_map]
      exact qac.up (same_new nt)
end
end Kr
namespace Kr
open PySem PySem.Spec PyProof.Rows L2
/-! ### tables turned back -/
theorem EntF.lies {n : Nat} {l : List Nat} {e : List Int} (h : EntF n l e) : Lies n (goalE n e) e := by
  refine ⟨h.len, fun y hy => ?_, fun x hx c => ?_, fun y z hy hz p q => ?_⟩
  · by_cases c : y ∈ l
    · exact .inl (h.key y hy c)
    · obtain ⟨p1, p2⟩ := h.off hy c
      have := h.rid y hy c
      exact .inr ⟨_, p1, p2, by omega⟩
  · obtain ⟨y, hy, _, e1⟩ := h.from hx c
    exact ⟨y, hy, e1⟩
  · have cy : y ∉ l := fun c => by rw [h.key y hy c] at p; omega
    have cz : z ∉ l := fun c => by rw [q, h.key z hz c] at p; omega
    exact h.inj y z hy hz cy cz q
/-- the entry that leads back -/
theorem EntF.back {n : Nat} {l : List Nat} {e : List Int} (hl : Asc 0 n l) (h : EntF n l e) : EntF n (goalE n e) (lawE n e) ∧ goalE n (lawE n e) = l := by
  refine ⟨h.lies.ent, asc_ext (goal_asc _ _) hl fun y => ?_⟩
  by_cases hy : y < n
  · rw [h.lies.goal hy]
    constructor
    · intro c
      refine Classical.byContradiction fun k => c (h.rid y hy k).1
    · intro k
      rw [h.key y hy k]
      decide
  · exact ⟨fun c => absurd (mem_goal.mp c).1 hy, fun c => absurd (by have := (hl.2 y c).2; omega) hy⟩
theorem back_at {n : Nat} {l : List Nat} {e : List Int} (h : EntF n l e) {x : Nat} (hx : x < n) (c : x ∉ l) : (lawE n e).getD (e.getD x 0).toNat 0 = (x : Int) := by
  obtain ⟨p1, p2⟩ := h.off hx c
  have := h.rid x hx c
  exact h.lies.put p1 hx (by omega)
theorem cmp_back {n : Nat} {l : List Nat} {e : List Int} (h : EntF n l e) : cmpE e (lawE n e) = byE l (ups n) := by
  refine list_ext (n := n) (by unfold cmpE; rw [List.length_map, h.len]) (by rw [byE_len, ups_len]) fun x hx => ?_
  rw [cmp_at (by rw [h.len]; exact hx), byE_at (by rw [ups_len]; exact hx)]
  by_cases c : x ∈ l
  · rw [if_pos c, (h.neg hx).mpr c, if_pos rfl]
  · rw [if_neg c, if_neg (fun z => c ((h.neg hx).mp z)), back_at h hx c, ups_at hx]
theorem back_back {n : Nat} {l : List Nat} {e : List Int} (hl : Asc 0 n l) (h : EntF n l e) : lawE n (lawE n e) = e := by
  obtain ⟨g, eg⟩ := h.back hl
  obtain ⟨k, ek⟩ := g.back (goal_asc _ _)
  rw [eg] at k
  refine list_ext (n := n) (lawE_len _ _) h.len fun x hx => ?_
  by_cases c : x ∈ l
  · rw [k.key x hx c, h.key x hx c]
  · obtain ⟨p1, p2⟩ := h.off hx c
    have e1 := back_at g p1 p2
    rw [back_at h hx c, Int.toNat_natCast] at e1
    have := h.rid x hx c
    rw [e1]
    omega
theorem back_cmp {n : Nat} {l : List Nat} {e : List Int} (hl : Asc 0 n l) (h : EntF n l e) : cmpE (lawE n e) e = byE (goalE n e) (ups n) := by
  have := cmp_back (h.back hl).1
  rwa [back_back hl h] at this
/-- the lot that is led to g -/
def srcL (n : Nat) (T : List (List Int)) (g : List Nat) : List Nat := ((allL n).find? fun l => decide (goalE n (en n T l) = g)).getD []
def turnT (n : Nat) (T : List (List Int)) : List (List Int) := (allL n).map fun g => lawE n (en n T (srcL n T g))
section
variable {n : Nat} {T U : List (List Int)}
theorem TabOk.src (hn : n ≤ 6) (h : TabOk n T) {g : List Nat} (hg : g ∈ allL n) : srcL n T g ∈ allL n ∧ goalE n (en n T (srcL n T g)) = g := by
  have hm : g ∈ (allL n).map fun l => goalE n (en n T l) := (h.goalp hn).symm.subset hg
  obtain ⟨l, hl, e⟩ := List.mem_map.mp hm
  unfold srcL
  cases hf : (allL n).find? fun l => decide (goalE n (en n T l) = g) with
  | none =>
    have := List.find?_eq_none.mp hf l hl
    exact absurd (decide_eq_true e) this
  | some z =>
    have p := List.find?_some hf
    exact ⟨List.mem_of_find?_eq_some hf, of_decide_eq_true p⟩
theorem TabOk.src_goal (hn : n ≤ 6) (h : TabOk n T) {l : List Nat} (hl : l ∈ allL n) : srcL n T (goalE n (en n T l)) = l := by
  obtain ⟨h1, h2⟩ := h.src hn (goal_all hn (en n T l))
  exact h.gl_inj' hn h1 hl h2
theorem en_turn (hn : n ≤ 6) {g : List Nat} (hg : g ∈ allL n) : en n (turnT n T) g = lawE n (en n T (srcL n T g)) := en_map hn hg
theorem TabOk.turn_ent (hn : n ≤ 6) (h : TabOk n T) {g : List Nat} (hg : g ∈ allL n) : EntF n g (lawE n (en n T (srcL n T g))) ∧ goalE n (lawE n (en n T (srcL n T g))) = srcL n T g := by
  obtain ⟨h1, h2⟩ := h.src hn hg
  have := (h.ent hn h1).back (all_ascL hn _ h1)
  rwa [h2] at this
theorem TabOk.turn (hn : n ≤ 6) (h : TabOk n T) : TabOk n (turnT n T) := by
  refine TabOk.of_map hn (fun g hg => (h.turn_ent hn hg).1) ?_
  have e : ((allL n).map fun g => goalE n (lawE n (en n T (srcL n T g)))) = (allL n).map (srcL n T) := List.map_congr_left fun g hg => (h.turn_ent hn hg).2
  rw [e]
  have p := ((h.goalp hn).symm.map (srcL n T))
  refine p.trans (List.Perm.of_eq ?_)
  rw [List.map_map]
  exact (List.map_congr_left fun l hl => h.src_goal hn hl).trans (List.map_id _)
theorem both_turn (hn : n ≤ 6) (h : TabOk n T) : bothT n T (turnT n T) = stillT n := by
  rw [both_map hn h]
  refine List.map_congr_left fun l hl => ?_
  rw [en_turn hn (goal_all hn _), h.src_goal hn hl]
  exact cmp_back (h.ent hn hl)
theorem turn_both (hn : n ≤ 6) (h : TabOk n T) : bothT n (turnT n T) T = stillT n := by
  rw [both_map hn (h.turn hn)]
  refine List.map_congr_left fun g hg => ?_
  obtain ⟨h1, h2⟩ := h.src hn hg
  rw [en_turn hn hg, (h.turn_ent hn hg).2]
  have := back_cmp (all_ascL hn _ h1) (h.ent hn h1)
  rwa [h2] at this
theorem inv_one (hn : n ≤ 6) (h : TabOk n T) {W : List (List Int)} (hW : TabOk n W) (e : bothT n T W = stillT n) : W = turnT n T := by
  rw [← still_both hn hW, ← turn_both hn h, both_assoc hn (h.turn hn) h hW, e, both_still hn (h.turn hn)]
theorem turn_turn (hn : n ≤ 6) (h : TabOk n T) : turnT n (turnT n T) = T := (inv_one hn (h.turn hn) h (turn_both hn h)).symm
theorem turn_of_both (hn : n ≤ 6) (h : TabOk n T) (g : TabOk n U) : turnT n (bothT n T U) = bothT n (turnT n U) (turnT n T) := by
  refine (inv_one hn (h.both hn g) ((g.turn hn).both hn (h.turn hn)) ?_).symm
  rw [both_assoc hn h g ((g.turn hn).both hn (h.turn hn)), ← both_assoc hn g (g.turn hn) (h.turn hn), both_turn hn g, still_both hn (h.turn hn), both_turn hn h]
/-! ### lists that are filled place by place -/
def putAll {α : Type} (ps : List (Nat × α)) (L : List α) : List α := ps.foldl (fun L p => L.set p.1 p.2) L
theorem putAll_len {α : Type} : ∀ (ps : List (Nat × α)) (L : List α), (putAll ps L).length = L.length
  | [], _ => rfl
  | p :: ps, L => by
    unfold putAll
    rw [List.foldl_cons]
    exact (putAll_len ps _).trans List.length_set
theorem putAll_keep {α : Type} {i : Nat} : ∀ (ps : List (Nat × α)) (L : List α), (∀ p ∈ ps, p.1 ≠ i) → (putAll ps L)[i]? = L[i]?
  | [], _, _ => rfl
  | p :: ps, L, h => by
    unfold putAll
    rw [List.foldl_cons]
    refine (putAll_keep ps _ fun q hq => h q (List.mem_cons_of_mem _ hq)).trans ?_
    exact List.getElem?_set_ne (h p List.mem_cons_self)
theorem putAll_at {α : Type} {i : Nat} {v : α} : ∀ (ps : List (Nat × α)) (L : List α), (ps.map (·.1)).Nodup → (i, v) ∈ ps → i < L.length → (putAll ps L)[i]? = some v
  | p :: ps, L, nd, h, hi => by
    have nd2 : p.1 ∉ ps.map (·.1) ∧ (ps.map (·.1)).Nodup := by simpa using nd
    unfold putAll
    rw [List.foldl_cons]
    rcases List.mem_cons.mp h with c | c
    · subst c
      refine (putAll_keep ps _ fun q hq z => nd2.1 (List.mem_map.mpr ⟨q, hq, z⟩)).trans ?_
      exact List.getElem?_set_self hi
    · exact putAll_at ps _ nd2.2 c (by rw [List.length_set]; exact hi)
theorem putAll_snoc {α : Type} (ps : List (Nat × α)) (p : Nat × α) (L : List α) : putAll (ps ++ [p]) L = (putAll ps L).set p.1 p.2 := by
  unfold putAll
  rw [List.foldl_append]
  rfl
theorem putAll_mem {α : Type} {d : α} : ∀ (ps : List (Nat × α)) (L : List α), d ∈ putAll ps L → d ∈ L ∨ ∃ p ∈ ps, d = p.2
  | [], _, h => .inl h
  | p :: ps, L, h => by
    unfold putAll at h
    rw [List.foldl_cons] at h
    rcases putAll_mem ps _ h with c | ⟨q, hq, e⟩
    · rcases List.mem_or_eq_of_mem_set c with k | k
      · exact .inl k
      · exact .inr ⟨p, List.mem_cons_self, k⟩
    · exact .inr ⟨q, List.mem_cons_of_mem _ hq, e⟩
def backP (n : Nat) (e : List Int) : Nat × PyData := (num n (goalE n e), entD (lawE n e))
theorem put_flat (n k : Nat) (T : List (List Int)) : flatTA (putAll (T.map (backP n)) (List.replicate k (.tuple []))) = true := flatTA_of fun d hd => by
  rcases putAll_mem _ _ hd with c | ⟨p, hp, rfl⟩
  · rw [List.eq_of_mem_replicate c]
    rfl
  · obtain ⟨e, _, rfl⟩ := List.mem_map.mp hp
    exact ent_flat _
theorem turn_put (hn : n ≤ 6) (h : TabOk n T) : putAll (T.map (backP n)) (List.replicate (2 ^ n) (.tuple [])) = (turnT n T).map entD := by
  have hT := h.map hn
  have nd : ((T.map (backP n)).map (·.1)).Nodup := by
    rw [List.map_map]
    have e : (T.map ((fun x : Nat × PyData => x.1) ∘ backP n)) = (T.map (goalE n)).map (num n) := by rw [List.map_map]; rfl
    rw [e]
    have := (h.goals.map (num n))
    rw [lots_nums n (by omega)] at this
    exact this.symm.nodup List.nodup_range
  refine List.ext_getElem? fun i => ?_
  by_cases hi : i < 2 ^ n
  · obtain ⟨g, hg⟩ : ∃ g, (allL n)[i]? = some g := ⟨_, List.getElem?_eq_getElem (by rw [all_len n (by omega)]; exact hi)⟩
    have hga := List.mem_of_getElem? hg
    obtain ⟨h1, h2⟩ := h.src hn hga
    have hmem : (i, entD (lawE n (en n T (srcL n T g)))) ∈ T.map (backP n) := by
      refine List.mem_map.mpr ⟨en n T (srcL n T g), List.mem_of_getElem? (h.get hn h1), ?_⟩
      unfold backP
      rw [h2, (all_num_at hn hg).1]
    rw [putAll_at _ _ nd hmem (by rw [List.length_replicate]; exact hi)]
    unfold turnT
    rw [List.getElem?_map, List.getElem?_map, hg]
    rfl
  · rw [List.getElem?_eq_none (by rw [putAll_len, List.length_replicate]; omega), List.getElem?_eq_none (by rw [List.length_map, (h.turn hn).len hn]; omega)]
end
def spUndone : Sp := fun vs H Q _ => ∃ (n : Nat) (v : V) (T : List (List Int)), vs = [.int (n : Int), v] ∧ n ≤ 6 ∧ Dq H v (tabD T) ∧ TabOk n T ∧ ∀ H' r, Same H H' → Dq H' r (tabD (turnT n T)) → Q r H'
def spTurnB : Sp := fun vs H Q _ => ∃ (n : Nat) (a : Addr) (l : List Nat) (e : List Int), vs = [.ref a] ∧ n ≤ 6 ∧ H a = some (.tup (e.map V.int)) ∧ EntF n l e ∧ ∀ H' t, Same H H' → H' t = some (.tup ((lawE n e).map V.int)) → Q (.ref t) H'
end Kr
namespace Kr
open PySem PySem.Spec PyProof.Rows L2
section
variable {P : Program} {w : World} {K : PySem.W.Frag} {mg : Str → Option Value} {base : Heap}
theorem rep_one (v : V) (k : Nat) : (List.replicate k [v]).flatten = List.replicate k v := by
  induction k with
  | zero => rfl
  | succ k ih => rw [List.replicate_succ, List.flatten_cons, ih]; rfl
abbrev nTb : List Str := ["entry", "back", "place", "way"]
theorem o_turnedBack (D0 : Df K mg "turned_back" sTurnedBack ["entry"]) (B : Bi mg) : Ok P w K mg base 1 "turned_back" ["entry"] spTurnB := by
  have scTb : FnScope nTb ["entry"] (defScope sTurnedBack) := ⟨rfl, rfl, rfl, by decide +kernel, rfl, by decide +kernel, by decide +kernel⟩
  refine D0.ok fun f fd F => F.ok scTb (fun vs H Q E h => ?_) (fun cdv A outer s H vs Q E hr h => ?_)
  · obtain ⟨n, a, l, e, rfl, _⟩ := h
    rfl
  · obtain ⟨n, a, l, e, rfl, hn, ha, hE, q⟩ := h
    have hel := hE.len
    refine ⟨_, pss_cons (ps_set (i := 1) scTb.nd rfl (.inl rfl) (pe_op op_rep (pe_lst (pa_cons (pe_un un_neg pe_int) pa_nil)) (pe_callB call_len_seq (by rfl) B.len boot_len (pa_cons (pv 0) pa_nil))))
      (pss_cons (ps_for PassesOwn.never rfl (pi_enumT (by rfl) B.enumerate (pa_cons (pv 0) pa_nil)) (pg_tup rfl (pgs_cons (pg_name (i := 2) scTb.nd rfl (.inl rfl)) (pgs_cons (pg_name (i := 3) scTb.nd rfl (.inl rfl)) pgs_nil)))
        (pss_one (ps_if (pt_cmpR op_ne (pv 3) (pe_un un_neg pe_int) (nomark _)) (pss_one (ps_asg (pv 2) (pg_sub (pv 1) (pv 3) set_list))) pss_nil)))
      (pss_one (ps_ret (pe_callTy call_tuple_of (by rfl) B.tuple (by decide +kernel) (pa_cons (pv 1) pa_nil))))), ?_⟩
    refine ⟨1, rfl, by show 1 ≤ sizeLine; decide, fun l1 nl1 => ?_⟩
    have s1 := same_new (o := .lst [.int (-1)]) nl1
    refine ⟨.ref a, rfl, a, _, rfl, .inr (SqT.of (s1 _ _ ha)), ?_⟩
    rw [List.length_map, hel]
    refine ⟨l1, (n : Int), [.int (-1)], rfl, rfl, upd_same, by omega, by omega, by show 1 * _ ≤ sizeLine; exact sz (by omega), fun fo nfo => ?_⟩
    rw [Int.toNat_natCast, rep_one]
    have s2 := same_new (o := .lst (List.replicate n (V.int (-1)))) nfo
    have hfo : upd (upd H l1 (.lst [.int (-1)])) fo (.lst (List.replicate n (V.int (-1)))) fo = some (.lst ((List.replicate n (-1)).map V.int)) := by rw [upd_same, List.map_replicate]
    have s12 := s1.trans s2
    have nf : ∀ b o, H b = some o → b ≠ fo := fun b o hb => ne_of_none (s1 _ _ hb) nfo
    generalize upd (upd H l1 (.lst [.int (-1)])) fo (.lst (List.replicate n (V.int (-1)))) = H2 at hfo s12
    refine ⟨.ref a, rfl, a, _, rfl, SqT.of (s12 _ _ ha), for_it walk_enumT (fun i σ G => ∃ (acc : List Int) (v3 v4 : Option V), σ = [some (.ref a), some (.ref fo), v3, v4] ∧ (∀ b o, H b = some o → G b = some o) ∧ G fo = some (.lst (acc.map V.int)) ∧ acc.length = n ∧ setGo i (e.drop i) acc = lawE n e)
      ⟨_, none, none, rfl, s12, hfo, List.length_replicate, rfl⟩ (fun i σ G _ ⟨_, _, _, _, k, _⟩ => SqT.of (k _ _ ha)) ?_ ?_⟩
    · rintro i _ σ G _ hi ⟨acc, v3, v4, rfl, k, hG, hal, eg⟩ ⟨T, x1, x2, rfl, nT, rfl, e1, e2⟩
      cases Option.some.inj e1
      rw [List.length_map] at hi
      have e3 : x2 = .int (e.getD i 0) := by
        have e4 : (e.map V.int)[i]? = some x2 := e2
        rw [List.getElem?_map, getD_get hi] at e4
        exact (Option.some.inj e4).symm
      subst e3
      have ed : e.drop i = e.getD i 0 :: e.drop (i + 1) := by
        rw [List.drop_eq_getElem_cons hi, List.getD_eq_getElem?_getD, List.getElem?_eq_getElem hi]
        rfl
      rw [ed] at eg
      have hz : e.getD i 0 = -1 ∨ (0 ≤ e.getD i 0 ∧ e.getD i 0 < n) := by
        by_cases c : i ∈ l
        · exact .inl (hE.key i (by omega) c)
        · exact .inr (hE.rid i (by omega) c)
      generalize e.getD i 0 = z at eg hz
      have sT := same_new (o := .tup [.int (i : Nat), .int z]) nT
      have hGT := sT _ _ hG
      simp only [setGo] at eg
      refine ⟨T, [.int (i : Nat), .int z], rfl, SqT.of upd_same, rfl, .int (i : Nat), [.int z], rfl, .int z, [], rfl, rfl, ?_⟩
      refine ⟨.int z, rfl, 1, rfl, rfl, _, rfl, ?_⟩
      by_cases hc : z = -1
      · rw [decide_eq_true (show V.int z = V.int (-1) by rw [hc])]
        rw [if_neg (by omega)] at eg
        exact iteF ⟨acc, _, _, rfl, fun b o hb => sT _ _ (k _ _ hb), hGT, hal, eg⟩
      · rw [decide_eq_false (fun y => hc (V.int.inj y))]
        rw [if_pos (by omega)] at eg
        obtain ⟨m, rfl⟩ : ∃ m : Nat, z = m := ⟨z.toNat, by omega⟩
        rw [Int.toNat_natCast] at eg
        refine iteT ⟨.int (i : Nat), rfl, .ref fo, rfl, .int m, rfl, fo, _, m, m, rfl, rfl, hGT, ixN_nat (by rw [List.length_map, hal]; omega), acc.set m (i : Int), _, _, rfl, fun b o hb => ?_, ?_, by rw [List.length_set]; exact hal, eg⟩
        · rw [upd_ne (nf b o hb)]
          exact sT _ _ (k _ _ hb)
        · rw [upd_same, List.map_set]
    · rintro σ G ⟨acc, v3, v4, rfl, k, hG, hal, eg⟩
      rw [List.length_map, List.drop_of_length_le (Nat.le_refl _)] at eg
      have ea : acc = lawE n e := eg
      rw [ea] at hG
      exact ⟨.ref fo, rfl, fo, _, rfl, .inl ⟨SqL.of hG, fun t nt => q _ t (fun b o hb => same_new nt _ _ (k _ _ hb)) upd_same⟩⟩
end
end Kr
namespace Kr
open PySem PySem.Spec PyProof.Rows L2
section
variable {P : Program} {w : World} {K : PySem.W.Frag} {mg : Str → Option Value} {base : Heap}
abbrev nUn : List Str := ["n", "table", "entries", "aim", "entry"]
theorem scUn : FnScope nUn ["n", "table"] (defScope sUndone) := ⟨rfl, rfl, rfl, by decide +kernel, rfl, by decide +kernel, by decide +kernel⟩
theorem f_undone {f : Addr} {fd : FuncData} (F : Fun K "undone" "undone" sUndone f fd) (B : Bi mg) (ai : Ok P w K mg base 4 "aims_of" ["n", "table"] spAims) (tb : Ok P w K mg base 1 "turned_back" ["entry"] spTurnB) : FnOk P w K mg base CX0 5 f fd ["n", "table"] spUndone := by
  refine F.ok scUn (fun vs H Q E h => ?_) (fun cdv A outer s H vs Q E hr h => ?_)
  · obtain ⟨n, v, T, rfl, _⟩ := h
    rfl
  · obtain ⟨n, v, T, rfl, hn, hv, hT, q⟩ := h
    have hr1 := hr.mono (show 1 ≤ 4 by decide)
    refine ⟨_, pss_cons (ps_set (i := 2) scUn.nd rfl (.inl rfl) (pe_op op_rep (pe_lst (pa_cons (pe_tup pa_nil) pa_nil)) (pe_callB call_len_seq (by rfl) B.len boot_len (pa_cons (pv 1) pa_nil))))
      (pss_cons (ps_for PassesOwn.never rfl (pi_zipM (by rfl) B.zip (pa_cons (pe_fn ai hr (by rfl) (pa_cons (pv 0) (pa_cons (pv 1) pa_nil))) (pa_cons (pv 1) pa_nil))) (pg_tup rfl (pgs_cons (pg_name (i := 3) scUn.nd rfl (.inl rfl)) (pgs_cons (pg_name (i := 4) scUn.nd rfl (.inl rfl)) pgs_nil)))
        (pss_one (ps_asg (pe_fn tb hr1 (by rfl) (pa_cons (pv 4) pa_nil)) (pg_sub (pv 2) (pv 3) set_list))))
      (pss_one (ps_ret (pe_callTy call_tuple_of (by rfl) B.tuple (by decide +kernel) (pa_cons (pv 2) pa_nil))))), ?_⟩
    obtain ⟨hTl, hTe, hT2, _⟩ := hT.both_in hn
    have hp64 : 2 ^ n ≤ 64 := by have := all_few n (by omega); rw [all_len n (by omega)] at this; exact this
    refine ⟨by show 0 ≤ sizeLine; decide, fun e ne => ⟨by show 1 ≤ sizeLine; decide, fun l1 nl1 => ?_⟩⟩
    have s1 := same_new (o := .tup []) ne
    have he := (same_new (o := .lst [.ref e]) nl1) _ _ (show upd H e (.tup []) e = some (.tup []) from upd_same)
    have s2 := s1.trans (same_new (o := .lst [.ref e]) nl1)
    have hl1 : upd (upd H e (.tup [])) l1 (.lst [.ref e]) l1 = some (.lst [.ref e]) := upd_same
    generalize upd (upd H e (.tup [])) l1 (.lst [.ref e]) = H1 at he s2 hl1
    have hv1 := hv.up s2
    obtain ⟨va, xs, rfl, hva, qx⟩ := Dq.tup_inv hv1
    have hxl : xs.length = 2 ^ n := by rw [qx.len, List.length_map, hT2]
    refine ⟨.ref va, rfl, va, _, rfl, .inr (SqT.of hva), ?_⟩
    rw [hxl]
    refine ⟨l1, ((2 ^ n : Nat) : Int), [.ref e], rfl, rfl, hl1, by omega, by omega, by show 1 * _ ≤ sizeLine; exact sz (by omega), fun en nen => ?_⟩
    rw [Int.toNat_natCast, rep_one]
    have s3 := same_new (o := .lst (List.replicate (2 ^ n) (V.ref e))) nen
    have hen : upd H1 en (.lst (List.replicate (2 ^ n) (V.ref e))) en = some (.lst (List.replicate (2 ^ n) (V.ref e))) := upd_same
    have q0 : DqA (upd H1 en (.lst (List.replicate (2 ^ n) (V.ref e)))) (List.replicate (2 ^ n) (V.ref e)) (List.replicate (2 ^ n) (.tuple [])) := DqA.rep (.tup (s3 _ _ he) .nil) _
    have s13 := s2.trans s3
    have nf : ∀ b o, H b = some o → b ≠ en := fun b o hb => ne_of_none (s2 _ _ hb) nen
    have hv3 := hv.up s13
    generalize upd H1 en (.lst (List.replicate (2 ^ n) (V.ref e))) = H3 at s3 hen q0 s13 hv3
    refine ⟨.int n, rfl, .ref va, rfl, n, .ref va, T, rfl, hn, hv3, hTl, fun e he => (hTe e he).1, fun H4 ad s4 nad had => ?_⟩
    have hen4 := s4 _ _ hen
    have hva4 := s4 _ _ (s3 _ _ hva)
    have qx4 := (qx.up s3).up s4
    have q4 := q0.up s4
    have nva : va ≠ en := ne_of hva4 hen4 (by intro z; cases z)
    have nad2 : ad ≠ en := (ne_of_none hen nad).symm
    have hail : ((aimsT n T).map V.int).length = T.length := by unfold aimsT; rw [List.length_map, List.length_map]
    refine ⟨.ref va, rfl, ad, va, _, xs, rfl, SqL.of had, SqT.of hva4, for_it (walk_zlt (n := T.length) (by omega)) (fun i σ G => ∃ (v3 v4 : Option V) (acc : List V), σ = [some (.int n), some (.ref va), some (.ref en), v3, v4] ∧
        (∀ b o, b ≠ en → H4 b = some o → G b = some o) ∧ G en = some (.lst acc) ∧ DqA G acc (putAll ((T.take i).map (backP n)) (List.replicate (2 ^ n) (.tuple []))))
      ⟨_, _, _, rfl, fun _ _ _ h => h, hen4, q4⟩ (fun i σ G _ ⟨_, _, _, _, k, _⟩ => ⟨SqL.of (k _ _ nad2 had), SqT.of (k _ _ nva hva4)⟩) ?_ ?_⟩
    · rintro i _ σ G _ hi ⟨v3, v4, acc, rfl, k, hG, qac⟩ ⟨t0, x1, x2, rfl, nt0, rfl, e1, e2⟩
      obtain ⟨en0, he0, ea, rfl, hea⟩ := ents_get qx4 e2
      have e3 : x1 = .int ((num n (goalE n en0) : Nat) : Int) := by
        have e4 : ((aimsT n T).map V.int)[i]? = some x1 := e1
        unfold aimsT at e4
        rw [List.getElem?_map, List.getElem?_map, he0] at e4
        exact (Option.some.inj e4).symm
      subst e3
      have st0 := same_new (o := .tup [.int ((num n (goalE n en0) : Nat) : Int), .ref ea]) nt0
      have nea : ea ≠ en := ne_of hea hen4 (by intro z; cases z)
      have hea' := st0 _ _ (k _ _ nea hea)
      obtain ⟨l, hl, hE⟩ := hT.mem hn (List.mem_of_getElem? he0)
      have hnum := all_num hn (goal_all hn en0)
      refine ⟨t0, [.int ((num n (goalE n en0) : Nat) : Int), .ref ea], rfl, SqT.of upd_same, rfl, .int ((num n (goalE n en0) : Nat) : Int), [.ref ea], rfl, .ref ea, [], rfl, rfl, ?_⟩
      refine ⟨.ref ea, rfl, n, ea, l, en0, rfl, hn, hea', hE, fun G2 t s5 ht => ?_⟩
      have hG2 := s5 _ _ (st0 _ _ hG)
      have acl : acc.length = 2 ^ n := by rw [qac.len, putAll_len, List.length_replicate]
      have ts : TS G2 (upd G2 en (.lst (acc.set (num n (goalE n en0)) (.ref t)))) := TS.lst hG2
      refine ⟨.ref en, rfl, .int ((num n (goalE n en0) : Nat) : Int), rfl, en, acc, _, num n (goalE n en0), rfl, rfl, hG2, ixN_nat (by omega), _, _, _, rfl, fun b o hb ho => ?_, upd_same, ?_⟩
      · rw [upd_ne hb]
        exact s5 _ _ (st0 _ _ (k _ _ hb ho))
      · rw [take_snoc he0, putAll_snoc]
        exact DqA.set (Dq.upT ts (ent_flat _) (ent_at ht)) _ (DqA.upT ts (put_flat _ _ _) ((qac.up st0).up s5))
    · rintro σ G ⟨v3, v4, acc, rfl, k, hG, qac⟩
      rw [List.take_length, turn_put hn hT] at qac
      exact ⟨.ref en, rfl, en, acc, rfl, .inl ⟨SqL.of hG, fun t nt => q _ _ (fun b' o hb => same_new nt _ _ (k _ _ (nf _ _ hb) (s4 _ _ (s13 _ _ hb)))) (.tup upd_same (qac.up (same_new nt)))⟩⟩
end
end Kr
namespace Kr
open PySem PySem.Spec PyProof.Rows L2
/-! ### the rounds of a table's riders -/
abbrev Pr := Nat × Nat
def lotI (n i : Nat) : List Nat := (allL n).getD i []
/-- a lot's number, and a place without a key -/
def prs (n : Nat) : List Pr := (List.range (2 ^ n)).flatMap fun i => ((List.range n).filter fun x => !decide (x ∈ lotI n i)).map fun x => (i, x)
def stp (n : Nat) (T : List (List Int)) (p : Pr) : Pr := (num n (goalE n (T.getD p.1 [])), ((T.getD p.1 []).getD p.2 0).toNat)
def itr (S : Pr → Pr) : Nat → Pr → Pr
  | 0, p => p
  | k + 1, p => itr S k (S p)
theorem itr_add (S : Pr → Pr) : ∀ (a b : Nat) (p : Pr), itr S (a + b) p = itr S b (itr S a p)
  | 0, b, p => by rw [Nat.zero_add]; rfl
  | a + 1, b, p => by
    rw [Nat.add_right_comm]
    exact itr_add S a b (S p)
theorem itr_succ (S : Pr → Pr) (k : Nat) (p : Pr) : itr S (k + 1) p = S (itr S k p) := itr_add S k 1 p
theorem itr_fix {S : Pr → Pr} {m : Nat} {p : Pr} (h : itr S m p = p) : ∀ q, itr S (m * q) p = p
  | 0 => rfl
  | q + 1 => by rw [Nat.mul_succ, itr_add, itr_fix h q, h]
theorem mem_prs {n : Nat} {p : Pr} : p ∈ prs n ↔ p.1 < 2 ^ n ∧ p.2 < n ∧ p.2 ∉ lotI n p.1 := by
  unfold prs
  rw [List.mem_flatMap]
  constructor
  · rintro ⟨i, hi, h⟩
    obtain ⟨x, hx, rfl⟩ := List.mem_map.mp h
    obtain ⟨h1, h2⟩ := List.mem_filter.mp hx
    exact ⟨List.mem_range.mp hi, List.mem_range.mp h1, by simpa using h2⟩
  · rintro ⟨h1, h2, h3⟩
    exact ⟨p.1, List.mem_range.mpr h1, List.mem_map.mpr ⟨p.2, List.mem_filter.mpr ⟨List.mem_range.mpr h2, by simpa using h3⟩, rfl⟩⟩
theorem prs_len : ∀ n : Nat, n < 7 → (prs n).length ≤ 192 := by decide +kernel
theorem sub_len {α : Type} [DecidableEq α] : ∀ {C L : List α}, C.Nodup → (∀ x ∈ C, x ∈ L) → C.length ≤ L.length
  | [], _, _, _ => Nat.zero_le _
  | c :: C, L, nd, h => by
    obtain ⟨h1, h2⟩ := List.nodup_cons.mp nd
    have hc := h c List.mem_cons_self
    have := sub_len (L := L.erase c) h2 fun x hx => (List.mem_erase_of_ne (fun (z : x = c) => h1 (by rw [← z]; exact hx))).mpr (h x (List.mem_cons_of_mem _ hx))
    rw [List.length_erase_of_mem hc] at this
    have := List.length_pos_of_mem hc
    rw [List.length_cons]
    omega
section
variable {n : Nat} {T U : List (List Int)}
theorem lot_get (hn : n ≤ 6) {i : Nat} (hi : i < 2 ^ n) : (allL n)[i]? = some (lotI n i) := by
  have : i < (allL n).length := by rw [all_len n (by omega)]; exact hi
  unfold lotI
  rw [List.getD_eq_getElem?_getD, List.getElem?_eq_getElem this]
  rfl
theorem lot_num (hn : n ≤ 6) {i : Nat} (hi : i < 2 ^ n) : num n (lotI n i) = i := (all_num_at hn (lot_get hn hi)).1
theorem lot_mem (hn : n ≤ 6) {i : Nat} (hi : i < 2 ^ n) : lotI n i ∈ allL n := List.mem_of_getElem? (lot_get hn hi)
theorem lot_of_num (hn : n ≤ 6) {l : List Nat} (hl : l ∈ allL n) : lotI n (num n l) = l := by
  have h := all_at hn hl
  unfold lotI
  rw [List.getD_eq_getElem?_getD, h]
  rfl
theorem en_at (hn : n ≤ 6) {i : Nat} (hi : i < 2 ^ n) (T : List (List Int)) : en n T (lotI n i) = T.getD i [] := by
  unfold en
  rw [lot_num hn hi]
theorem TabOk.at_i (hn : n ≤ 6) (h : TabOk n T) {i : Nat} (hi : i < 2 ^ n) : EntF n (lotI n i) (T.getD i []) := by
  rw [← en_at hn hi]
  exact h.ent hn (lot_mem hn hi)
theorem stp_in (hn : n ≤ 6) (h : TabOk n T) {p : Pr} (hp : p ∈ prs n) : stp n T p ∈ prs n := by
  obtain ⟨h1, h2, h3⟩ := mem_prs.mp hp
  have hE := h.at_i hn h1
  have hg := goal_all hn (T.getD p.1 [])
  refine mem_prs.mpr ⟨all_num hn hg, ?_⟩
  show ((T.getD p.1 []).getD p.2 0).toNat < n ∧ ((T.getD p.1 []).getD p.2 0).toNat ∉ lotI n (num n (goalE n (T.getD p.1 [])))
  rw [lot_of_num hn hg]
  exact hE.off h2 h3
theorem stp_inj (hn : n ≤ 6) (h : TabOk n T) {p q : Pr} (hp : p ∈ prs n) (hq : q ∈ prs n) (e : stp n T p = stp n T q) : p = q := by
  obtain ⟨h1, h2, h3⟩ := mem_prs.mp hp
  obtain ⟨g1, g2, g3⟩ := mem_prs.mp hq
  have e1 : num n (goalE n (T.getD p.1 [])) = num n (goalE n (T.getD q.1 [])) := congrArg Prod.fst e
  have e2 : ((T.getD p.1 []).getD p.2 0).toNat = ((T.getD q.1 []).getD q.2 0).toNat := congrArg Prod.snd e
  have eg : goalE n (T.getD p.1 []) = goalE n (T.getD q.1 []) := by
    rw [← lot_of_num hn (goal_all hn (T.getD p.1 [])), e1, lot_of_num hn (goal_all hn _)]
  rw [← en_at hn h1, ← en_at hn g1] at eg
  have el := h.gl_inj' hn (lot_mem hn h1) (lot_mem hn g1) eg
  have ei : p.1 = q.1 := by rw [← lot_num hn h1, el, lot_num hn g1]
  have hE := h.at_i hn h1
  rw [← ei] at e2 g3
  have r1 := hE.rid p.2 h2 h3
  have r2 := hE.rid q.2 g2 g3
  have := hE.inj p.2 q.2 h2 g2 h3 g3 (by omega)
  exact Prod.ext ei this
theorem itr_in (hn : n ≤ 6) (h : TabOk n T) : ∀ (k : Nat) {p : Pr}, p ∈ prs n → itr (stp n T) k p ∈ prs n
  | 0, _, hp => hp
  | k + 1, _, hp => itr_in hn h k (stp_in hn h hp)
theorem itr_inj (hn : n ≤ 6) (h : TabOk n T) : ∀ (k : Nat) {p q : Pr}, p ∈ prs n → q ∈ prs n → itr (stp n T) k p = itr (stp n T) k q → p = q
  | 0, _, _, _, _, e => e
  | k + 1, _, _, hp, hq, e => stp_inj hn h hp hq (itr_inj hn h k (stp_in hn h hp) (stp_in hn h hq) e)
end
/-! ### rounds -/
structure Cyc (S : Pr → Pr) (C : List Pr) : Prop where
  ne : 0 < C.length
  nd : C.Nodup
  st : ∀ i p, C[i]? = some p → C[(i + 1) % C.length]? = some (S p)
theorem Cyc.at_ {S : Pr → Pr} {C : List Pr} (h : Cyc S C) : ∀ (k i : Nat) (p : Pr), C[i]? = some p → C[(i + k) % C.length]? = some (itr S k p)
  | 0, i, p, e => by
    have := (List.getElem?_eq_some_iff.mp e).1
    rw [Nat.add_zero, Nat.mod_eq_of_lt this]
    exact e
  | k + 1, i, p, e => by
    have := h.at_ k _ _ (h.st i p e)
    rw [Nat.mod_add_mod] at this
    rw [show i + (k + 1) = i + 1 + k by omega]
    exact this
theorem nd_ix {α : Type} {C : List α} (nd : C.Nodup) {i j : Nat} {x : α} (hi : C[i]? = some x) (hj : C[j]? = some x) : i = j := by
  obtain ⟨a1, a2⟩ := List.getElem?_eq_some_iff.mp hi
  obtain ⟨b1, b2⟩ := List.getElem?_eq_some_iff.mp hj
  have pw : C.Pairwise (· ≠ ·) := nd
  rw [List.pairwise_iff_getElem] at pw
  rcases Nat.lt_trichotomy i j with c | c | c
  · exact absurd (a2.trans b2.symm) (pw i j a1 b1 c)
  · exact c
  · exact absurd (b2.trans a2.symm) (pw j i b1 a1 c)
theorem Cyc.fix {S : Pr → Pr} {C : List Pr} (h : Cyc S C) {p : Pr} (hp : p ∈ C) (m : Nat) : itr S m p = p ↔ C.length ∣ m := by
  obtain ⟨i, hi⟩ := List.getElem?_of_mem hp
  have hl := (List.getElem?_eq_some_iff.mp hi).1
  have e := h.at_ m i p hi
  constructor
  · intro z
    rw [z] at e
    have e1 := nd_ix h.nd e hi
    have e2 : (i + m) % C.length = i % C.length := by rw [e1, Nat.mod_eq_of_lt hl]
    have := (Nat.sub_mod_eq_zero_of_mod_eq e2)
    rw [Nat.add_sub_cancel_left] at this
    exact Nat.dvd_of_mod_eq_zero this
  · rintro ⟨q, rfl⟩
    rw [Nat.add_mul_mod_self_left, Nat.mod_eq_of_lt hl, hi] at e
    exact (Option.some.inj e).symm
/-! ### any number of times -/
def fac : Nat → Nat
  | 0 => 1
  | n + 1 => (n + 1) * fac n
theorem fac_pos : ∀ n, 0 < fac n
  | 0 => Nat.one_pos
  | n + 1 => Nat.mul_pos (Nat.succ_pos n) (fac_pos n)
theorem dvd_fac {m : Nat} (h0 : 0 < m) : ∀ {n : Nat}, m ≤ n → m ∣ fac n
  | 0, h => absurd h0 (by omega)
  | n + 1, h => by
    unfold fac
    by_cases e : m = n + 1
    · rw [e]
      exact Nat.dvd_mul_right _ _
    · exact Nat.dvd_mul_left_of_dvd (dvd_fac h0 (by omega)) _
def bigN : Nat := fac 192
theorem bigN_pos : 0 < bigN := fac_pos _
theorem dvd_big {m : Nat} (h0 : 0 < m) (h : m ≤ 192) : m ∣ bigN := dvd_fac h0 h
def powS (S : Pr → Pr) (k : Int) (p : Pr) : Pr := itr S (k % (bigN : Int)).toNat p
theorem mod_big {m : Nat} (hm : m ∣ bigN) (s : Nat) (k : Int) : (((s : Int) + k) % (m : Int)).toNat = (s + (k % (bigN : Int)).toNat) % m := by
  have hb : (0 : Int) < bigN := by have := bigN_pos; omega
  have h0 := Int.emod_nonneg k (show (bigN : Int) ≠ 0 by omega)
  have e1 : (((k % (bigN : Int)).toNat : Nat) : Int) = k % (bigN : Int) := Int.toNat_of_nonneg h0
  have hd : (m : Int) ∣ (bigN : Int) := Int.natCast_dvd_natCast.mpr hm
  have e2 : (k % (bigN : Int)) % (m : Int) = k % (m : Int) := Int.emod_emod_of_dvd k hd
  have e3 : (((s + (k % (bigN : Int)).toNat) % m : Nat) : Int) = ((s : Int) + k) % (m : Int) := by
    rw [Int.natCast_emod, Int.natCast_add, e1, Int.add_emod, e2, ← Int.add_emod]
  rw [← e3, Int.toNat_natCast]
theorem Cyc.pow {S : Pr → Pr} {C : List Pr} (h : Cyc S C) (hl : C.length ≤ 192) {s : Nat} {p : Pr} (hp : C[s]? = some p) (k : Int) : C[(((s : Int) + k) % (C.length : Int)).toNat]? = some (powS S k p) := by
  rw [mod_big (dvd_big h.ne hl)]
  exact h.at_ _ _ _ hp
section
variable {n : Nat} {T U : List (List Int)}
/-- each rider comes back -/
theorem itr_back (hn : n ≤ 6) (h : TabOk n T) {p : Pr} (hp : p ∈ prs n) : ∃ m, 0 < m ∧ m ≤ 192 ∧ itr (stp n T) m p = p := by
  apply Classical.byContradiction
  intro hno
  have ne : ∀ i j, i < j → j < 193 → itr (stp n T) i p ≠ itr (stp n T) j p := fun i j hij hj e => by
    rw [show j = (j - i) + i by omega, itr_add] at e
    exact hno ⟨j - i, by omega, by omega, (itr_inj hn h i hp (itr_in hn h _ hp) e).symm⟩
  have nd : ((List.range 193).map fun i => itr (stp n T) i p).Nodup := by
    show List.Pairwise (· ≠ ·) _
    rw [List.pairwise_map]
    exact List.Pairwise.imp_of_mem (fun {a b} ha hb hab => ne a b hab (List.mem_range.mp hb)) List.pairwise_lt_range
  have := sub_len nd fun x hx => by
    obtain ⟨i, _, rfl⟩ := List.mem_map.mp hx
    exact itr_in hn h i hp
  rw [List.length_map, List.length_range] at this
  have := prs_len n (by omega)
  omega
theorem itr_big (hn : n ≤ 6) (h : TabOk n T) {p : Pr} (hp : p ∈ prs n) : itr (stp n T) bigN p = p := by
  obtain ⟨m, m0, m1, e⟩ := itr_back hn h hp
  obtain ⟨q, hq⟩ := dvd_big m0 m1
  rw [hq]
  exact itr_fix e q
theorem itr_mod (hn : n ≤ 6) (h : TabOk n T) {p : Pr} (hp : p ∈ prs n) (m : Nat) : itr (stp n T) (m % bigN) p = itr (stp n T) m p := by
  have e := Nat.div_add_mod m bigN
  have : itr (stp n T) m p = itr (stp n T) (bigN * (m / bigN) + m % bigN) p := by rw [e]
  rw [this, itr_add, itr_fix (itr_big hn h hp)]
theorem powS_nat (hn : n ≤ 6) (h : TabOk n T) {p : Pr} (hp : p ∈ prs n) (m : Nat) : powS (stp n T) (m : Int) p = itr (stp n T) m p := by
  unfold powS
  rw [← Int.natCast_emod, Int.toNat_natCast, itr_mod hn h hp]
theorem powS_in (hn : n ≤ 6) (h : TabOk n T) {p : Pr} (hp : p ∈ prs n) (k : Int) : powS (stp n T) k p ∈ prs n := itr_in hn h _ hp
theorem powS_add (hn : n ≤ 6) (h : TabOk n T) {p : Pr} (hp : p ∈ prs n) (k l : Int) : powS (stp n T) l (powS (stp n T) k p) = powS (stp n T) (k + l) p := by
  unfold powS
  rw [← itr_add]
  have hb : (0 : Int) < bigN := by have := bigN_pos; omega
  have h1 := Int.emod_nonneg k (show (bigN : Int) ≠ 0 by omega)
  have h2 := Int.emod_nonneg l (show (bigN : Int) ≠ 0 by omega)
  rw [← itr_mod hn h hp]
  congr 1
  have e : ((((k % (bigN : Int)).toNat + (l % (bigN : Int)).toNat) % bigN : Nat) : Int) = (k + l) % (bigN : Int) := by
    rw [Int.natCast_emod, Int.natCast_add, Int.toNat_of_nonneg h1, Int.toNat_of_nonneg h2, ← Int.add_emod]
  rw [← e, Int.toNat_natCast]
/-- a table of where its riders go -/
def tabF (n : Nat) (f : Pr → Nat) : List (List Int) := (List.range (2 ^ n)).map fun i => (List.range n).map fun x => if (i, x) ∈ prs n then (f (i, x) : Int) else -1
def powT (n : Nat) (T : List (List Int)) (k : Int) : List (List Int) := tabF n fun p => (powS (stp n T) k p).2
theorem tabF_congr {f g : Pr → Nat} (h : ∀ p ∈ prs n, f p = g p) : tabF n f = tabF n g := by
  unfold tabF
  refine List.map_congr_left fun i _ => List.map_congr_left fun x _ => ?_
  by_cases c : (i, x) ∈ prs n
  · rw [if_pos c, if_pos c, h _ c]
  · rw [if_neg c, if_neg c]
theorem tab_stp (hn : n ≤ 6) (h : TabOk n T) : T = tabF n fun p => (stp n T p).2 := by
  have hl := h.len hn
  refine List.ext_getElem? fun i => ?_
  unfold tabF
  rw [List.getElem?_map]
  by_cases hi : i < 2 ^ n
  · rw [List.getElem?_range hi]
    have hE := h.at_i hn hi
    have e1 : T[i]? = some (T.getD i []) := by rw [List.getD_eq_getElem?_getD, List.getElem?_eq_getElem (by omega)]; rfl
    rw [e1]
    refine congrArg some (list_ext hE.len (by rw [List.length_map, List.length_range]) fun x hx => ?_)
    rw [map_getD_lt (d := 0) (by rw [List.length_range]; exact hx), show (List.range n).getD x 0 = x by rw [List.getD_eq_getElem?_getD, List.getElem?_range hx]; rfl]
    by_cases c : x ∈ lotI n i
    · rw [if_neg fun z => (mem_prs.mp z).2.2 c]
      exact hE.key x hx c
    · rw [if_pos (mem_prs.mpr ⟨hi, hx, c⟩)]
      have := hE.rid x hx c
      show _ = (((T.getD i []).getD x 0).toNat : Int)
      omega
  · rw [List.getElem?_eq_none (by omega), List.getElem?_eq_none (by rw [List.length_range]; omega)]
    rfl
theorem stp_ext (hn : n ≤ 6) (h : TabOk n T) (g : TabOk n U) (e : ∀ p ∈ prs n, stp n T p = stp n U p) : T = U := by
  rw [tab_stp hn h, tab_stp hn g]
  exact tabF_congr fun p hp => by rw [e p hp]
theorem stp_still (hn : n ≤ 6) {p : Pr} (hp : p ∈ prs n) : stp n (stillT n) p = p := by
  obtain ⟨h1, h2, h3⟩ := mem_prs.mp hp
  have e : (stillT n).getD p.1 [] = byE (lotI n p.1) (ups n) := by rw [← en_at hn h1, en_still hn (lot_mem hn h1)]
  unfold stp
  rw [e, goal_ups (all_ascL hn _ (lot_mem hn h1)), lot_num hn h1, byE_at (by rw [ups_len]; exact h2), if_neg h3, ups_at h2, Int.toNat_natCast]
theorem stp_both (hn : n ≤ 6) (h : TabOk n T) (g : TabOk n U) {p : Pr} (hp : p ∈ prs n) : stp n (bothT n T U) p = stp n U (stp n T p) := by
  obtain ⟨h1, h2, h3⟩ := mem_prs.mp hp
  have hl := lot_mem hn h1
  have hE := h.at_i hn h1
  have hg := goal_all hn (T.getD p.1 [])
  have hEu := g.ent hn hg
  have e : (bothT n T U).getD p.1 [] = cmpE (T.getD p.1 []) (en n U (goalE n (T.getD p.1 []))) := by
    rw [← en_at hn h1, en_both hn h hl, en_at hn h1]
  have eu : U.getD (num n (goalE n (T.getD p.1 []))) [] = en n U (goalE n (T.getD p.1 [])) := rfl
  have r := hE.rid p.2 h2 h3
  unfold stp
  rw [e, (hE.cmp hEu).2, cmp_at (by rw [hE.len]; exact h2), if_neg (by omega)]
  show _ = (num n (goalE n (U.getD (num n (goalE n (T.getD p.1 []))) [])), ((U.getD (num n (goalE n (T.getD p.1 []))) []).getD ((T.getD p.1 []).getD p.2 0).toNat 0).toNat)
  rw [eu]
def itT (n : Nat) (T : List (List Int)) : Nat → List (List Int)
  | 0 => stillT n
  | k + 1 => bothT n (itT n T k) T
theorem itT_ok (hn : n ≤ 6) (h : TabOk n T) : ∀ k, TabOk n (itT n T k)
  | 0 => still_ok hn
  | k + 1 => (itT_ok hn h k).both hn h
theorem stp_itT (hn : n ≤ 6) (h : TabOk n T) : ∀ (k : Nat) {p : Pr}, p ∈ prs n → stp n (itT n T k) p = itr (stp n T) k p
  | 0, _, hp => stp_still hn hp
  | k + 1, _, hp => by
    rw [itr_succ, ← stp_itT hn h k hp]
    exact stp_both hn (itT_ok hn h k) h hp
theorem powT_it (hn : n ≤ 6) (h : TabOk n T) (k : Int) : powT n T k = itT n T (k % (bigN : Int)).toNat := by
  rw [tab_stp hn (itT_ok hn h _)]
  exact tabF_congr fun p hp => by rw [stp_itT hn h _ hp]; rfl
theorem powT_ok (hn : n ≤ 6) (h : TabOk n T) (k : Int) : TabOk n (powT n T k) := by rw [powT_it hn h]; exact itT_ok hn h _
theorem stp_powT (hn : n ≤ 6) (h : TabOk n T) (k : Int) {p : Pr} (hp : p ∈ prs n) : stp n (powT n T k) p = powS (stp n T) k p := by rw [powT_it hn h, stp_itT hn h _ hp]; rfl
theorem powT_add (hn : n ≤ 6) (h : TabOk n T) (k l : Int) : bothT n (powT n T k) (powT n T l) = powT n T (k + l) := by
  refine stp_ext hn ((powT_ok hn h k).both hn (powT_ok hn h l)) (powT_ok hn h _) fun p hp => ?_
  rw [stp_both hn (powT_ok hn h k) (powT_ok hn h l) hp, stp_powT hn h k hp, stp_powT hn h l (powS_in hn h hp k), stp_powT hn h _ hp, powS_add hn h hp]
theorem powT_one (hn : n ≤ 6) (h : TabOk n T) : powT n T 1 = T := by
  refine stp_ext hn (powT_ok hn h 1) h fun p hp => ?_
  rw [stp_powT hn h 1 hp, show (1 : Int) = ((1 : Nat) : Int) from rfl, powS_nat hn h hp]
  rfl
theorem powT_succ (hn : n ≤ 6) (h : TabOk n T) (k : Int) : bothT n (powT n T k) T = powT n T (k + 1) := by
  have := powT_add hn h k 1
  rw [powT_one hn h] at this
  exact this
/-! ### the order -/
structure Rounds (n : Nat) (S : Pr → Pr) (CL : List (List Pr)) : Prop where
  cyc : ∀ C ∈ CL, Cyc S C
  sub : ∀ C ∈ CL, ∀ p ∈ C, p ∈ prs n
  all : ∀ p ∈ prs n, ∃ C ∈ CL, p ∈ C
theorem Rounds.len {S : Pr → Pr} {CL : List (List Pr)} (hn : n ≤ 6) (h : Rounds n S CL) {C : List Pr} (hC : C ∈ CL) : C.length ≤ 192 := Nat.le_trans (sub_len (h.cyc C hC).nd (h.sub C hC)) (prs_len n (by omega))
structure IsOrd (n : Nat) (S : Pr → Pr) (o : Nat) : Prop where
  pos : 0 < o
  dvd : ∀ m : Nat, (∀ p ∈ prs n, itr S m p = p) ↔ o ∣ m
theorem IsOrd.uniq {S : Pr → Pr} {a b : Nat} (h : IsOrd n S a) (g : IsOrd n S b) : a = b :=
  Nat.dvd_antisymm ((h.dvd b).mp ((g.dvd b).mpr (Nat.dvd_refl b))) ((g.dvd a).mp ((h.dvd a).mpr (Nat.dvd_refl a)))
def lcmL (ls : List Nat) : Nat := ls.foldl Nat.lcm 1
theorem lcm_fold : ∀ (ls : List Nat) (a m : Nat), ls.foldl Nat.lcm a ∣ m ↔ a ∣ m ∧ ∀ l ∈ ls, l ∣ m
  | [], a, m => by simp
  | l :: ls, a, m => by
    rw [List.foldl_cons, lcm_fold ls]
    constructor
    · rintro ⟨h1, h2⟩
      refine ⟨Nat.dvd_trans (Nat.dvd_lcm_left a l) h1, fun x hx => ?_⟩
      rcases List.mem_cons.mp hx with rfl | hx
      · exact Nat.dvd_trans (Nat.dvd_lcm_right a _) h1
      · exact h2 x hx
    · rintro ⟨h1, h2⟩
      exact ⟨Nat.lcm_dvd h1 (h2 l List.mem_cons_self), fun x hx => h2 x (List.mem_cons_of_mem _ hx)⟩
theorem lcm_fold_pos : ∀ (ls : List Nat) (a : Nat), 0 < a → (∀ l ∈ ls, 0 < l) → 0 < ls.foldl Nat.lcm a
  | [], a, h, _ => h
  | l :: ls, a, h, g => lcm_fold_pos ls _ (Nat.lcm_pos h (g l List.mem_cons_self)) fun x hx => g x (List.mem_cons_of_mem _ hx)
theorem Rounds.ord {S : Pr → Pr} {CL : List (List Pr)} (h : Rounds n S CL) : IsOrd n S (lcmL (CL.map List.length)) := by
  refine ⟨lcm_fold_pos _ _ Nat.one_pos fun l hl => ?_, fun m => ?_⟩
  · obtain ⟨C, hC, rfl⟩ := List.mem_map.mp hl
    exact (h.cyc C hC).ne
  · unfold lcmL
    rw [lcm_fold]
    constructor
    · intro k
      refine ⟨Nat.one_dvd m, fun l hl => ?_⟩
      obtain ⟨C, hC, rfl⟩ := List.mem_map.mp hl
      have c := h.cyc C hC
      have hx : C[0]'c.ne ∈ C := List.getElem_mem c.ne
      exact (c.fix hx m).mp (k _ (h.sub C hC _ hx))
    · rintro ⟨_, k⟩ p hp
      obtain ⟨C, hC, hpC⟩ := h.all p hp
      exact ((h.cyc C hC).fix hpC m).mpr (k _ (List.mem_map.mpr ⟨C, hC, rfl⟩))
theorem pow_calm (hn : n ≤ 6) (h : TabOk n T) {o : Nat} (ho : IsOrd n (stp n T) o) (m : Nat) : powT n T (m : Int) = stillT n ↔ o ∣ m := by
  rw [← ho.dvd m]
  constructor
  · intro e p hp
    rw [← powS_nat hn h hp, ← stp_powT hn h _ hp, e, stp_still hn hp]
  · intro k
    refine stp_ext hn (powT_ok hn h _) (still_ok hn) fun p hp => ?_
    rw [stp_powT hn h _ hp, powS_nat hn h hp, stp_still hn hp, k p hp]
end
end Kr
namespace Kr
open PySem PySem.Spec PyProof.Rows L2
/-! ### pairs: a lot's number, a place -/
abbrev pK (p : Pr) : List Key := [.inl (p.1 : Int), .inl (p.2 : Int)]
abbrev pV (p : Pr) : List V := [.int (p.1 : Int), .int (p.2 : Int)]
theorem pK_v (p : Pr) : (pK p).map kV = pV p := rfl
theorem pK_inj {p q : Pr} (h : pK p = pK q) : p = q := by
  obtain ⟨a, b⟩ := p
  obtain ⟨c, d⟩ := q
  simp only [pK, List.cons.injEq, Sum.inl.injEq, and_true] at h
  exact Prod.ext (by show a = c; omega) (by show b = d; omega)
structure StepsAt (n : Nat) (T : List (List Int)) (H : Hp) (kvs : List (List Key × V)) : Prop where
  keys : ∀ kv ∈ kvs, ∃ p ∈ prs n, kv.1 = pK p
  val : ∀ p ∈ prs n, ∃ a, valV kvs (pK p) = some (.ref a) ∧ H a = some (.tup (pV (stp n T p)))
  len : kvs.length ≤ 1000
theorem StepsAt.up {n : Nat} {T : List (List Int)} {H H' : Hp} {kvs : List (List Key × V)} (h : StepsAt n T H kvs) (s : TS H H') : StepsAt n T H' kvs := ⟨h.keys, fun p hp => let ⟨a, x, y⟩ := h.val p hp; ⟨a, x, s _ _ y⟩, h.len⟩
theorem putK_keys {kvs : List (List Key × V)} {k : List Key} {v : V} {P : List Key → Prop} (h : ∀ kv ∈ kvs, P kv.1) (hk : P k) : ∀ kv ∈ putK kvs k v, P kv.1 := by
  intro kv hkv
  unfold putK at hkv
  split at hkv
  · obtain ⟨x, hx, rfl⟩ := List.mem_map.mp hkv
    split
    · exact h x hx
    · exact h x hx
  · rcases List.mem_append.mp hkv with c | c
    · exact h kv c
    · rw [List.mem_singleton.mp c]
      exact hk
theorem valV_mem {kvs : List (List Key × V)} {k : List Key} {v : V} (h : valV kvs k = some v) : ∃ i : Nat, kvs[i]? = some (k, v) := by
  unfold valV at h
  obtain ⟨kv, h1, h2⟩ := Option.map_eq_some_iff.mp h
  have h3 := List.find?_some h1
  simp only [decide_eq_true_eq] at h3
  obtain ⟨i, hi⟩ := List.getElem?_of_mem (List.mem_of_find?_eq_some h1)
  refine ⟨i, ?_⟩
  rw [hi, ← h3, ← h2]
def spSteps : Sp := fun vs H Q _ => ∃ (n : Nat) (v : V) (T : List (List Int)), vs = [.int (n : Int), v] ∧ n ≤ 6 ∧ Dq H v (tabD T) ∧ TabOk n T ∧ ∀ H' p kvs, Same H H' → H p = none → H' p = some (.dT kvs) → StepsAt n T H' kvs → Q (.ref p) H'
section
variable {P : Program} {w : World} {K : PySem.W.Frag} {mg : Str → Option Value} {base : Heap}
abbrev nSo : List Str := ["n", "table", "aims", "steps", "number", "entry", "place", "way"]
theorem o_steps (D0 : Df K mg "steps_of" sStepsOf ["n", "table"]) (B : Bi mg) (ai : Ok P w K mg base 4 "aims_of" ["n", "table"] spAims) : Ok P w K mg base 5 "steps_of" ["n", "table"] spSteps := by
  have scSo : FnScope nSo ["n", "table"] (defScope sStepsOf) := ⟨rfl, rfl, rfl, by decide +kernel, rfl, by decide +kernel, by decide +kernel⟩
  refine D0.ok fun f fd F => F.ok scSo (fun vs H Q E h => ?_) (fun cdv A outer s H vs Q E hr h => ?_)
  · obtain ⟨n, v, T, rfl, _⟩ := h
    rfl
  · obtain ⟨n, v, T, rfl, n1, hv, okT, q⟩ := h
    have hu1 := hu_of hr
    refine ⟨_, pss_cons (ps_set (i := 2) scSo.nd rfl (.inl rfl) (pe_fn ai hr (by rfl) (pa_cons (pv 0) (pa_cons (pv 1) pa_nil))))
      (pss_cons (ps_set (i := 3) scSo.nd rfl (.inl rfl) pe_dnewT)
      (pss_cons (ps_for PassesOwn.never rfl (pi_enumT (by rfl) B.enumerate (pa_cons (pv 1) pa_nil)) (pg_tup rfl (pgs_cons (pg_name (i := 4) scSo.nd rfl (.inl rfl)) (pgs_cons (pg_name (i := 5) scSo.nd rfl (.inl rfl)) pgs_nil)))
        (pss_one (ps_for PassesOwn.never rfl (pi_enumT (by rfl) B.enumerate (pa_cons (pv 5) pa_nil)) (pg_tup rfl (pgs_cons (pg_name (i := 6) scSo.nd rfl (.inl rfl)) (pgs_cons (pg_name (i := 7) scSo.nd rfl (.inl rfl)) pgs_nil)))
          (pss_one (ps_if (pt_cmpR op_ne (pv 7) (pe_un un_neg pe_int) (nomark _)) (pss_one (ps_dput hu1 (pv 3) (pe_tup (pa_cons (pv 4) (pa_cons (pv 6) pa_nil))) (pe_tup (pa_cons (pe_ix ix_list (pv 2) (pv 4) (fun _ _ => rfl)) (pa_cons (pv 7) pa_nil))) rfl)) pss_nil)))))
      (pss_one (ps_ret (pv 3))))), ?_⟩
    obtain ⟨hT1, hT2, hT3, hT4⟩ := okT.both_in n1
    refine ⟨.int n, rfl, v, rfl, n, v, T, rfl, n1, hv, hT1, fun e he => (hT2 e he).1, fun H1 ad s1 nad had => ?_⟩
    have hv1 := hv.up s1
    obtain ⟨va, xs, rfl, hva, qx⟩ := Dq.tup_inv hv1
    have hxl : xs.length = 2 ^ n := by rw [qx.len, List.length_map, hT3]
    have hp64 : 2 ^ n ≤ 64 := by have := all_few n (by omega); rw [all_len n (by omega)] at this; exact this
    have hai : (aimsT n T).length = 2 ^ n := by unfold aimsT; rw [List.length_map, hT3]
    try dsimp only [tNext]
    refine fun D nD => ?_
    have s2 := same_new (o := .dT []) nD
    have hD : upd H1 D (.dT []) D = some (.dT []) := upd_same
    have nf : ∀ b o, H b = some o → b ≠ D := fun b o hb => ne_of_none (s1 _ _ hb) nD
    have s12 := s1.trans s2
    have hva2 := s2 _ _ hva
    have had2 := s2 _ _ had
    have qx2 := qx.up s2
    have nD0 := s1.free nD
    generalize upd H1 D (.dT []) = H2 at hD s12 hva2 had2 qx2
    clear s2 nD hva had qx hv1 nad
    have nva : va ≠ D := ne_of hva2 hD (by intro z; cases z)
    have nad : ad ≠ D := ne_of had2 hD (by intro z; cases z)
    try dsimp only [tNext]
    refine ⟨.ref va, rfl, va, _, rfl, SqT.of hva2, for_it walk_enumT (fun i σ G => ∃ (v4 v5 v6 v7 : Option V) (kvs : List (List Key × V)), σ = [some (.int n), some (.ref va), some (.ref ad), some (.ref D), v4, v5, v6, v7] ∧ (∀ b o, b ≠ D → H2 b = some o → G b = some o) ∧ G D = some (.dT kvs) ∧ kvs.length ≤ 6 * i ∧
        (∀ kv ∈ kvs, ∃ p ∈ prs n, kv.1 = pK p) ∧ ∀ p ∈ prs n, p.1 < i → ∃ a, valV kvs (pK p) = some (.ref a) ∧ G a = some (.tup (pV (stp n T p))))
      ⟨_, _, _, _, [], rfl, fun _ _ _ h => h, hD, Nat.zero_le _, (fun _ h => nomatch h), fun _ _ h => absurd h (Nat.not_lt_zero _)⟩ (fun i σ G _ ⟨_, _, _, _, _, _, k, _⟩ => SqT.of (k _ _ nva hva2)) ?_ ?_⟩
    · rintro i _ σ G _ hi ⟨v4, v5, v6, v7, kvs, rfl, k, hG, hkl, hky, hkv⟩ ⟨t, x, y, rfl, nt, rfl, e1, e2⟩
      cases Option.some.inj e1
      obtain ⟨e, he, ea, rfl, hea⟩ := ents_get qx2 e2
      have hi2 : i < 2 ^ n := by omega
      have eT : T.getD i [] = e := getD_of he
      have hE := okT.at_i n1 hi2
      rw [eT] at hE
      have nea : ea ≠ D := ne_of hea hD (by intro z; cases z)
      have st := same_new (o := .tup [.int (i : Nat), .ref ea]) nt
      refine ⟨t, [.int (i : Nat), .ref ea], rfl, SqT.of upd_same, rfl, .int (i : Nat), [.ref ea], rfl, .ref ea, [], rfl, rfl, ?_⟩
      have k1 : ∀ b o, b ≠ D → H2 b = some o → upd G t (.tup [.int (i : Nat), .ref ea]) b = some o := fun b o h1 h2 => st _ _ (k _ _ h1 h2)
      have hG1 := st _ _ hG
      have hkv1 : ∀ p ∈ prs n, p.1 < i → ∃ a, valV kvs (pK p) = some (.ref a) ∧ upd G t (.tup [.int (i : Nat), .ref ea]) a = some (.tup (pV (stp n T p))) := fun p hp hpi => let ⟨a, x, y⟩ := hkv p hp hpi; ⟨a, x, st _ _ y⟩
      generalize upd G t (.tup [.int (i : Nat), .ref ea]) = G1 at k1 hG1 hkv1
      clear st nt hG k hkv
      have hea1 := k1 _ _ nea hea
      refine ⟨.ref ea, rfl, ea, _, rfl, SqT.of hea1, for_it walk_enumT (fun j σ G => ∃ (v6 v7 : Option V) (kvs : List (List Key × V)), σ = [some (.int n), some (.ref va), some (.ref ad), some (.ref D), some (.int i), some (.ref ea), v6, v7] ∧ (∀ b o, b ≠ D → G1 b = some o → G b = some o) ∧ G D = some (.dT kvs) ∧ kvs.length ≤ 6 * i + j ∧
          (∀ kv ∈ kvs, ∃ p ∈ prs n, kv.1 = pK p) ∧ ∀ p ∈ prs n, (p.1 < i ∨ p.1 = i ∧ p.2 < j) → ∃ a, valV kvs (pK p) = some (.ref a) ∧ G a = some (.tup (pV (stp n T p))))
        ⟨_, _, kvs, rfl, fun _ _ _ h => h, hG1, by omega, hky, fun p hp h => hkv1 p hp (h.elim (fun z => z) fun z => absurd z.2 (Nat.not_lt_zero _))⟩ (fun j σ G _ ⟨_, _, _, _, k, _⟩ => SqT.of (k _ _ nea hea1)) ?_ ?_⟩
      · rintro j _ σ G2 _ hj ⟨v6, v7, kvs, rfl, k, hG, hkl, hky, hkv⟩ ⟨t, x, y, rfl, nt, rfl, e1, e3⟩
        cases Option.some.inj e1
        rw [List.length_map] at hj
        have hjn : j < n := by rw [← hE.len]; exact hj
        have ey : y = .int (e.getD j 0) := by
          have e4 : (e.map V.int)[j]? = some y := e3
          rw [List.getElem?_map, getD_get hj] at e4
          exact (Option.some.inj e4).symm
        subst ey
        have hz := hE.key j hjn
        have hz2 := hE.rid j hjn
        have hst : stp n T (i, j) = (num n (goalE n e), (e.getD j 0).toNat) := by
          unfold stp
          rw [eT]
        generalize e.getD j 0 = z at hz hz2 hst
        have st := same_new (o := .tup [.int (j : Nat), .int z]) nt
        refine ⟨t, [.int (j : Nat), .int z], rfl, SqT.of upd_same, rfl, .int (j : Nat), [.int z], rfl, .int z, [], rfl, rfl, ?_⟩
        refine ⟨.int z, rfl, 1, rfl, rfl, _, rfl, ?_⟩
        by_cases hm : j ∈ lotI n i
        · rw [decide_eq_true (show V.int z = V.int (-1) by rw [hz hm])]
          refine iteF ⟨_, _, kvs, rfl, fun b o h1 h2 => st _ _ (k _ _ h1 h2), st _ _ hG, by omega, hky, fun p hp h => ?_⟩
          obtain ⟨a, x, y⟩ := hkv p hp (by
            rcases h with h | ⟨h1, h2⟩
            · exact .inl h
            · refine .inr ⟨h1, ?_⟩
              by_cases c : p.2 = j
              · have := (mem_prs.mp hp).2.2
                rw [h1, c] at this
                exact absurd hm this
              · omega)
          exact ⟨a, x, st _ _ y⟩
        · obtain ⟨z0, z1⟩ := hz2 hm
          obtain ⟨m, rfl⟩ : ∃ m : Nat, z = m := ⟨z.toNat, by omega⟩
          rw [decide_eq_false (show ¬ V.int (m : Int) = V.int (-1) from fun y => by have := V.int.inj y; omega)]
          have hpr : (i, j) ∈ prs n := mem_prs.mpr ⟨hi2, hjn, hm⟩
          rw [Int.toNat_natCast] at hst
          have haim : ((aimsT n T).map V.int)[i]? = some (.int ((num n (goalE n e) : Nat) : Int)) := by
            unfold aimsT
            rw [List.getElem?_map, List.getElem?_map, he]
            rfl
          have had3 := st _ _ (k _ _ nad (k1 _ _ nad had2))
          refine iteT ⟨.ref ad, rfl, .int i, rfl, ad, _, i, _, rfl, rfl, SqL.of had3, atI_nat haim, .int m, rfl, by show 2 ≤ sizeLine; decide, fun a na => ?_⟩
          have sa := same_new (o := .tup [.int ((num n (goalE n e) : Nat) : Int), .int m]) na
          refine ⟨.ref D, rfl, .int i, rfl, .int j, rfl, by show 2 ≤ sizeLine; decide, fun c nc => ?_⟩
          have sc := same_new (o := .tup [.int i, .int j]) nc
          have hc : upd (upd (upd G2 t (.tup [.int (j : Nat), .int m])) a (.tup [.int ((num n (goalE n e) : Nat) : Int), .int m])) c (.tup [.int i, .int j]) c = some (.tup ((pK (i, j)).map kV)) := upd_same
          have ha := sc _ _ (show upd (upd G2 t (.tup [.int (j : Nat), .int m])) a (.tup [.int ((num n (goalE n e) : Nat) : Int), .int m]) a = some (.tup [.int ((num n (goalE n e) : Nat) : Int), .int m]) from upd_same)
          have s3 := st.trans (sa.trans sc)
          have hG3 := s3 _ _ hG
          generalize upd (upd (upd G2 t (.tup [.int (j : Nat), .int m])) a (.tup [.int ((num n (goalE n e) : Nat) : Int), .int m])) c (.tup [.int i, .int j]) = G3 at s3 hG3 hc ha
          refine ⟨D, _, rfl, DPut.t hG3 hc (szl (by omega)), ?_⟩
          have ts : TS G3 (upd G3 D (.dT (putK kvs (pK (i, j)) (.ref a)))) := fun b ys hb => by
            rw [upd_ne (ne_of hb hG3 (by intro z; cases z))]
            exact hb
          have hlp := length_putK kvs (pK (i, j)) (V.ref a)
          refine ⟨_, _, putK kvs (pK (i, j)) (.ref a), rfl, fun b o h1 h2 => ?_, upd_same, by omega, putK_keys (P := fun k => ∃ p ∈ prs n, k = pK p) hky ⟨(i, j), hpr, rfl⟩, fun p hp h => ?_⟩
          · rw [upd_ne h1]
            exact s3 _ _ (k _ _ h1 h2)
          · rw [valV_put]
            by_cases ep : p = (i, j)
            · subst ep
              rw [if_pos rfl, hst]
              exact ⟨a, rfl, ts _ _ ha⟩
            · rw [if_neg fun z => ep (pK_inj z)]
              obtain ⟨a', x, y⟩ := hkv p hp (by
                rcases h with h | ⟨h1, h2⟩
                · exact .inl h
                · refine .inr ⟨h1, ?_⟩
                  have : p.2 ≠ j := fun z => ep (Prod.ext h1 z)
                  omega)
              exact ⟨a', x, ts _ _ (s3 _ _ y)⟩
      · rintro σ G ⟨v6, v7, kvs, rfl, k, hG, hkl, hky, hkv⟩
        rw [List.length_map, hE.len] at hkl
        refine ⟨_, _, _, _, kvs, rfl, fun b o h1 h2 => k _ _ h1 (k1 _ _ h1 h2), hG, by omega, hky, fun p hp h => hkv p hp ?_⟩
        by_cases c : p.1 < i
        · exact .inl c
        · refine .inr ⟨by omega, ?_⟩
          rw [List.length_map, hE.len]
          exact (mem_prs.mp hp).2.1
    · rintro σ G ⟨v4, v5, v6, v7, kvs, rfl, k, hG, hkl, hky, hkv⟩
      exact ⟨.ref D, rfl, q G D kvs (fun b o hb => k _ _ (nf _ _ hb) (s12 _ _ hb)) nD0 hG ⟨hky, fun p hp => hkv p hp (by rw [hxl]; exact (mem_prs.mp hp).1), by omega⟩⟩
end
end Kr
namespace Kr
open PySem PySem.Spec PyProof.Rows L2
/-! ### the deck: a dict of a list and a number, apart from all else -/
def hid (p l : Addr) (H : Hp) : Hp := fun b => if b = p ∨ b = l then none else H b
theorem hid_ne {p l b : Addr} {H : Hp} (h1 : b ≠ p) (h2 : b ≠ l) : hid p l H b = H b := by
  unfold hid
  rw [if_neg (fun h => h.elim h1 h2)]
theorem hid_some {p l b : Addr} {H : Hp} {o : HO} (h : hid p l H b = some o) : b ≠ p ∧ b ≠ l ∧ H b = some o := by
  unfold hid at h
  by_cases e : b = p ∨ b = l
  · rw [if_pos e] at h
    cases h
  · rw [if_neg e] at h
    exact ⟨fun z => e (.inl z), fun z => e (.inr z), h⟩
theorem hid_same (p l : Addr) (H : Hp) : Same (hid p l H) H := fun _ _ h => (hid_some h).2.2
abbrev Ext (p l : Addr) (H H' : Hp) : Prop := Same (hid p l H) (hid p l H')
theorem Ext.of {p l : Addr} {H H' : Hp} (s : Same H H') : Ext p l H H' := fun b o h => by
  obtain ⟨h1, h2, h3⟩ := hid_some h
  rw [hid_ne h1 h2]
  exact s _ _ h3
theorem Ext.rfl {p l : Addr} {H : Hp} : Ext p l H H := Same.refl _
abbrev kG : Key := Sum.inr ("great" : Str)
abbrev kS : Key := Sum.inr ("stirred" : Str)
abbrev kC : Key := Sum.inr ("count" : Str)
theorem kgs : ¬ ("great" : Str) = "stirred" := by decide +kernel
theorem ksg : ¬ ("stirred" : Str) = "great" := by decide +kernel
theorem kgc : ¬ ("great" : Str) = "count" := by decide +kernel
theorem kcg : ¬ ("count" : Str) = "great" := by decide +kernel
theorem ksc : ¬ ("stirred" : Str) = "count" := by decide +kernel
theorem kcs : ¬ ("count" : Str) = "stirred" := by decide +kernel
def dkv (x : V) (st : Int × Int) : List (Key × V) := [(kG, x), (kS, .int st.1), (kC, .int st.2)]
theorem dkv_g (x : V) (st : Int × Int) : valV (dkv x st) kG = some x := valV_pos rfl
theorem dkv_s (x : V) (st : Int × Int) : valV (dkv x st) kS = some (.int st.1) := (valV_neg (fun z => kgs (Sum.inr.inj z))).trans (valV_pos rfl)
theorem dkv_c (x : V) (st : Int × Int) : valV (dkv x st) kC = some (.int st.2) := (valV_neg (fun z => kgc (Sum.inr.inj z))).trans ((valV_neg (fun z => ksc (Sum.inr.inj z))).trans (valV_pos rfl))
theorem dkv_pc (x : V) (st : Int × Int) (z : Int) : putK (dkv x st) kC (.int z) = dkv x (st.1, z) := by
  simp [putK, dkv, kgs, ksg, kgc, kcg, ksc, kcs]
theorem dkv_m (x : V) (a b : Int) : mergeK [] [(kG, x), (kS, .int a), (kC, .int b)] = dkv x (a, b) := by
  simp [mergeK, putK, dkv, kgs, ksg, kgc, kcg, ksc, kcs]
structure Deck (H : Hp) (p l : Addr) : Prop where
  ex : ∃ (ds : List Int) (st : Int × Int), H p = some (.dK (dkv (.ref l) st)) ∧ H l = some (.lst (ds.map V.int)) ∧ ds.length ≤ 63
theorem Deck.ne {H : Hp} {p l : Addr} (d : Deck H p l) : p ≠ l := by
  obtain ⟨ds, st, h1, h2, _⟩ := d.ex
  exact ne_of h1 h2 (by intro z; cases z)
theorem Deck.up {H H' : Hp} {p l : Addr} (d : Deck H p l) (s : Same H H') : Deck H' p l := by
  obtain ⟨ds, st, h1, h2, h3⟩ := d.ex
  exact ⟨ds, st, s _ _ h1, s _ _ h2, h3⟩
/-- a new object stands apart -/
theorem Deck.new {H : Hp} {p l q : Addr} (d : Deck H p l) (h : H q = none) : q ≠ p ∧ q ≠ l := by
  obtain ⟨ds, st, h1, h2, h3⟩ := d.ex
  exact ⟨(ne_of_none h1 h).symm, (ne_of_none h2 h).symm⟩
theorem hid_upd {H : Hp} {p l q : Addr} {o : HO} (h1 : q ≠ p) (h2 : q ≠ l) : hid p l (upd H q o) q = some o := by
  rw [hid_ne h1 h2, upd_same]
def spDeck (K : PySem.W.Frag) : Sp := fun vs H Q _ => ∃ (a : Addr) (ns : List Int), vs = [.ref a] ∧ SqL K H a (ns.map V.int) ∧ ns.length ≤ 1000 ∧ ∀ H' p l, Same H H' → H p = none → H l = none → Deck H' p l → Q (.ref p) H'
section
variable {P : Program} {w : World} {K : PySem.W.Frag} {mg : Str → Option Value} {base : Heap}
abbrev nBox : List Str := ["script", "marks", "stirred", "cell", "mark"]
theorem scDeck : FnScope nBox ["script"] (defScope sBox) := ⟨rfl, rfl, rfl, by decide +kernel, rfl, by decide +kernel, by decide +kernel⟩
theorem ok_deck {f : Addr} {fd : FuncData} {k : Nat} (F : Fun K "_law_box" "_law_box" sBox f fd) (B : Bi mg) : FnOk P w K mg base CX0 (k + 1) f fd ["script"] (spDeck K) := by
  refine F.ok scDeck (fun vs H Q E h => ?_) (fun cdv A outer s H vs Q E hr h => ?_)
  · obtain ⟨a, ns, rfl, _⟩ := h
    rfl
  · obtain ⟨a, ns, rfl, hS, hlen, q⟩ := h
    refine ⟨_, pss_cons (ps_par (i := 1) (j := 2) rfl scDeck.nd rfl rfl (by decide) rfl rfl (pa_cons
        (pe_lc (own := [("cell", 3)]) (g := gName 3) (tt := tYes) rfl scDeck.nd (pi_list (pe_slice sl_list (pv 0) po_none (po_some pe_int))) (blkOk_by (own := [("cell", 3)]) (N := nBox) (sc := defScope sBox) (by decide +kernel)) (fun _ _ _ _ _ => pg_name (i := 3) scDeck.nd rfl (.inl rfl)) (fun _ _ _ _ _ => pts_nil)
          (fun _ _ _ _ _ => pe_op op_add (pe_op op_mul pe_int (pe_callB call_abs (by rfl) B.abs (by decide +kernel) (pa_cons (pv 3) pa_nil))) (pe_callTy call_int1 (by rfl) B.int (by decide +kernel) (pa_cons (pe_cmpR op_lt (pv 3) pe_int (nomark _)) pa_nil))))
        (pa_cons (pe_op op_add pe_int (pe_callB call_len_seq (by rfl) B.len boot_len (pa_cons (pv 0) pa_nil))) pa_nil)) (by rfl))
      (pss_cons (ps_for PassesOwn.never rfl (pi_list (pv 1)) (pg_name (i := 4) scDeck.nd rfl (.inl rfl))
        (pss_one (ps_set (i := 2) scDeck.nd rfl (.inl rfl) (pe_op op_mod (pe_callTy call_int1 (by rfl) B.int (by decide +kernel) (pa_cons (pe_op op_add (pe_op op_mul (pv 2) pe_int) (pv 4)) pa_nil)) pe_int))))
      (pss_one (ps_ret (pe_disp (pps_cons pe_str (pe_lc (own := [("mark", 4)]) (g := gName 4) rfl scDeck.nd (pi_list (pv 1)) (blkOk_by (own := [("mark", 4)]) (N := nBox) (sc := defScope sBox) (by decide +kernel)) (fun _ _ _ _ _ => pg_name (i := 4) scDeck.nd rfl (.inl rfl)) (fun _ _ _ _ _ => pts_one (pt_cmpR op_gt (pv 4) (pe_op op_pow pe_int pe_int) (nomark _))) (fun _ _ _ _ _ => pv 4))
        (pps_cons pe_str (pv 2) (pps_cons pe_str pe_int pps_nil))) (by rfl) (by rfl) (fun z => by cases z) (by decide))))), ?_⟩
    refine ⟨.ref a, rfl, 63, rfl, a, _, rfl, hS, fun c nc => ?_⟩
    obtain ⟨ms, e63, hml⟩ : ∃ ms : List Int, cutV (ns.map V.int) none (some 63) = ms.map V.int ∧ ms.length ≤ 63 := by
      refine ⟨ns.take 63, ?_, by rw [List.length_take]; omega⟩
      unfold cutV
      rw [HT.sIx_none, show HT.sIx (ns.map V.int).length (ns.map V.int).length (some 63) = min 63 (ns.map V.int).length from HT.sIx_nat _ _ 63, List.drop_zero, Nat.sub_zero, List.length_map, List.map_take]
      rcases Nat.le_total 63 ns.length with h | h
      · rw [Nat.min_eq_left h]
      · rw [Nat.min_eq_right h, List.take_of_length_le (by rw [List.length_map]; exact Nat.le_refl _), List.take_of_length_le (by rw [List.length_map]; exact h)]
    rw [e63]
    have s1 := same_new (o := .lst (ms.map V.int)) nc
    have hc : upd H c (.lst (ms.map V.int)) c = some (.lst (ms.map V.int)) := upd_same
    generalize upd H c (.lst (ms.map V.int)) = H1 at s1 hc
    refine ⟨c, rfl, ⟨_, SqL.of hc⟩, fun D nD => ?_⟩
    refine lc_it (walk_list (K := K) (a := c) (xs := ms.map V.int)) (fun i G => ∃ zs : List Int, G D = some (.lst (zs.map V.int)) ∧ Same H1 G ∧ zs.length = i) ⟨[], upd_same, same_new nD, rfl⟩ (fun i G _ ⟨_, _, s2, _⟩ => SqL.of (s2 _ _ hc)) ?_ ?_
    · rintro i x G G' hi ⟨zs, hD, s2, hl⟩ ⟨rfl, hx⟩
      rw [List.length_map] at hi
      obtain ⟨z, rfl⟩ : ∃ z, x = V.int z := by
        rw [List.getElem?_map] at hx
        cases e : ms[i]? with
        | none => rw [e] at hx; cases hx
        | some z => rw [e] at hx; exact ⟨z, (Option.some.inj hx).symm⟩
      refine ⟨rfl, ?_⟩
      dsimp only [tYes]
      rw [if_pos rfl]
      refine ⟨.int z, rfl, z, rfl, ?_⟩
      refine ⟨_, _, rfl, rfl, .inl ⟨by decide, by decide⟩, .int z, rfl, _, _, rfl, rfl, .inr ⟨_, rfl, _, _, rfl, rfl, ?_⟩⟩
      refine ⟨_, hD, szl (by rw [List.length_map]; omega), zs ++ [_], by rw [upd_same, List.map_append]; rfl, fun b o hb => ?_, by rw [List.length_append, hl]; rfl⟩
      rw [upd_ne (ne_of_none hb nD)]
      exact s2 _ _ hb
    rintro G ⟨zs, hD, s2, hl⟩
    rw [List.length_map] at hl
    have sG := s1.trans s2
    refine ⟨.ref a, rfl, a, _, rfl, .inl (sG.seq hS), _, _, rfl, rfl, _, _, rfl, ?_⟩
    dsimp only
    generalize (40961 + ((ns.map V.int).length : Int)) = st0
    refine ⟨.ref D, rfl, D, rfl, ⟨_, SqL.of hD⟩, for_list (K := K) (xs := zs.map V.int) (fun i σ G2 => ∃ (st : Int) (v4 : Option V), σ = [some (.ref a), some (.ref D), some (.int st), none, v4] ∧ G2 = G) ⟨st0, none, rfl, rfl⟩ (fun i σ G2 _ ⟨_, _, _, e⟩ => by rw [e]; exact SqL.of hD) ?_ ?_⟩
    · rintro i x σ G2 hx ⟨st, v4, rfl, rfl⟩
      obtain ⟨z, rfl⟩ : ∃ z, x = V.int z := by
        rw [List.getElem?_map] at hx
        cases e : zs[i]? with
        | none => rw [e] at hx; cases hx
        | some z => rw [e] at hx; exact ⟨z, (Option.some.inj hx).symm⟩
      exact ⟨.int st, rfl, _, _, rfl, rfl, .inr ⟨by decide, by decide⟩, .int z, rfl, _, _, rfl, rfl, .inl ⟨_, rfl, _, _, rfl, rfl, (by show (0 : Int) < 4294967291; decide), _, _, rfl, rfl⟩⟩
    rintro σ G2 ⟨st, v4, rfl, rfl⟩
    intro p np
    have sp := same_new (o := .dK []) np
    have hD2 := sp _ _ hD
    have hp : upd G2 p (.dK []) p = some (.dK []) := upd_same
    have np0 : H p = none := sG.free np
    have sGp := sG.trans sp
    generalize upd G2 p (.dK []) = G3 at sp hD2 hp sGp
    refine ⟨.ref D, rfl, D, rfl, ⟨_, SqL.of hD2⟩, fun l nl => ?_⟩
    have nl0 : H l = none := sGp.free nl
    have nlp : l ≠ p := (ne_of_none hp nl).symm
    refine lc_it (walk_list (K := K) (a := D) (xs := zs.map V.int)) (fun i G => ∃ ds : List Int, G l = some (.lst (ds.map V.int)) ∧ Same G3 G ∧ ds.length ≤ i) ⟨[], upd_same, same_new nl, Nat.le_refl _⟩ (fun i G _ ⟨_, _, s2, _⟩ => SqL.of (s2 _ _ hD2)) ?_ ?_
    · rintro i x G' G'' hi ⟨ds, hL, s3, hdl⟩ ⟨rfl, hx⟩
      rw [List.length_map] at hi
      obtain ⟨z, rfl⟩ : ∃ z, x = V.int z := by
        rw [List.getElem?_map] at hx
        cases e : zs[i]? with
        | none => rw [e] at hx; cases hx
        | some z => rw [e] at hx; exact ⟨z, (Option.some.inj hx).symm⟩
      refine ⟨rfl, .int z, rfl, _, _, rfl, rfl, ⟨by decide, by decide, by decide⟩, _, _, rfl, rfl, _, rfl, ite2 (fun _ => ?_) (fun _ => ?_)⟩
      · refine ⟨.int z, rfl, _, hL, szl (by rw [List.length_map]; omega), ds ++ [z], by rw [upd_same, List.map_append]; rfl, fun b o hb => ?_, by rw [List.length_append]; show _ + 1 ≤ _; omega⟩
        rw [upd_ne (ne_of_none hb nl)]
        exact s3 _ _ hb
      · exact ⟨ds, hL, s3, by omega⟩
    rintro G4 ⟨ds, hL, s3, hdl⟩
    rw [List.length_map] at hdl
    refine ⟨.int st, rfl, s3 _ _ hp, [(kG, V.ref l), (kS, .int st), (kC, .int 0)], rfl, by show 3 ≤ 15; decide, ?_⟩
    rw [dkv_m]
    refine q _ p l (fun b o hb => ?_) np0 nl0 ⟨ds, (st, 0), upd_same, by rw [upd_ne nlp]; exact hL, by omega⟩
    rw [upd_ne (ne_of_none hb np0)]
    exact s3 _ _ (sGp _ _ hb)
end
end Kr
namespace Kr
open PySem PySem.Spec PyProof.Rows L2
/-! ### beside an empty list -/
def rEqN : R2 := fun x y H Q => ∃ l b xs, x = .ref l ∧ y = .ref b ∧ H l = some (.lst xs) ∧ H b = some (.lst []) ∧ Q (.bl xs.isEmpty) H
theorem op_eqN {X : Cx} (hu : X.A.units + 64 < cLine) : OpR X (compareOp .Eq) rEqN := by
  intro pins s σ H x y v u Q I rx ry h
  obtain ⟨l, b, xs, rfl, rfl, hl, hb, q⟩ := h
  obtain rfl : v = Value.ref l := rx
  obtain rfl : u = Value.ref b := ry
  obtain ⟨its, r1, p1, _⟩ := I.list (SqL.of (K := X.K) hl)
  obtain ⟨it2, r2, p2, _⟩ := I.list (SqL.of (K := X.K) hb)
  cases r2
  cases r1 with
  | nil => exact SeqAt.RcAt.lists (e := fun _ => true) p1.isList p2.isList rfl (by omega) (fun j h1 _ => absurd h1 (by simp)) X.prog X.w X.xe _ ⟨.bl true, H, I, by rfl, q⟩
  | cons _ _ => exact SeqAt.RcAt.lists_lengths p1.isList p2.isList (by simp) (by omega) X.prog X.w X.xe _ ⟨.bl false, H, I, rfl, q⟩
/-- a list beside one without items -/
def rNeN : R2 := fun x y H Q => ∃ l b xs, x = .ref l ∧ y = .ref b ∧ H l = some (.lst xs) ∧ H b = some (.lst []) ∧ Q (.bl (!xs.isEmpty)) H
theorem op_neN {X : Cx} (hu : X.A.units + 64 < cLine) : OpR X (compareOp .NotEq) rNeN := by
  intro pins s σ H x y v u Q I rx ry h
  obtain ⟨l, b, xs, rfl, rfl, hl, hb, q⟩ := h
  obtain rfl : v = Value.ref l := rx
  obtain rfl : u = Value.ref b := ry
  obtain ⟨its, r1, p1, _⟩ := I.list (SqL.of (K := X.K) hl)
  obtain ⟨it2, r2, p2, _⟩ := I.list (SqL.of (K := X.K) hb)
  cases r2
  have hn : its.length = xs.length := r1.length.symm
  by_cases he : xs = []
  · subst he
    have : its = [] := List.length_eq_zero_iff.mp hn
    subst this
    exact SeqAt.RcNeAt.lists (e := fun _ => true) p1.isList p2.isList rfl (by omega) (fun j h1 _ => absurd h1 (by simp)) X.prog X.w X.xe _ ⟨.bl false, H, I, by rfl, q⟩
  · have hne : (its.toArray.size != ([] : List Value).toArray.size) = true := by
      have := List.length_pos_iff.mpr he
      simp
      intro z
      subst z
      simp at hn
      exact he (List.length_eq_zero_iff.mp hn.symm)
    have e1 : (!xs.isEmpty) = true := by
      cases xs with
      | nil => exact absurd rfl he
      | cons _ _ => rfl
    rw [e1] at q
    exact SeqAt.RcNeAt.lists_lengths p1.isList p2.isList hne (by omega) X.prog X.w X.xe _ ⟨.bl true, H, I, rfl, q⟩
/-- zip of two tuples, of any lengths -/
theorem walk_zipT {K : PySem.W.Frag} {a b : Addr} {xs ys : List V} {n : Nat} (hn : n = min xs.length ys.length) : Walk (RZ.ItzT K a b) n (fun H => SqT K H a xs ∧ SqT K H b ys) (YPair (fun i => xs[i]?) (fun i => ys[i]?)) := by
  subst hn
  refine ⟨fun i _ hi q => ?_, fun _ ⟨q1, q2⟩ => ⟨xs, ys, q1, q2, (by omega)⟩, fun i H v H' _ ⟨q1, q2⟩ y => ?_⟩
  · obtain ⟨g1, g2⟩ := Nat.lt_min.mp hi
    exact ⟨xs, ys, xs[i], ys[i], q.1, q.2, List.getElem?_eq_getElem g1, List.getElem?_eq_getElem g2⟩
  · obtain ⟨T, x, z, t1, t2, t3, t4, t5⟩ := y
    exact ⟨T, x, z, t1, t2, t3, t4 _ q1, t5 _ q2⟩
theorem vals_ints_flat (ns : List Int) : flatV (.int 0) = true := rfl
end Kr
namespace Kr
open PySem PySem.Spec PyProof.Rows L2
def spDraw : Sp := fun vs H Q _ => ∃ (p l : Addr) (m : Int), vs = [.ref p, .int m] ∧ Deck H p l ∧ 1 ≤ m ∧ m < 1073741824 ∧ ∀ H' r, Deck H' p l → Ext p l H H' → 0 ≤ r → r < m → Q (.int r) H'
theorem Ext.new {p l q : Addr} {H H' : Hp} {o : HO} (e : Ext p l H H') (h : H' q = none) : Ext p l H (upd H' q o) := fun b x hb => by
  have h2 := e b x hb
  obtain ⟨h3, h4, h5⟩ := hid_some h2
  rw [hid_ne h3 h4, upd_ne (ne_of_none h5 h)]
  exact h5
theorem Ext.at {p l q : Addr} {H H' : Hp} {o : HO} (e : Ext p l H H') (h : q = p ∨ q = l) : Ext p l H (upd H' q o) := fun b x hb => by
  have h2 := e b x hb
  obtain ⟨h3, h4, h5⟩ := hid_some h2
  have hq : b ≠ q := fun z => h.elim (fun w => h3 (z.trans w)) fun w => h4 (z.trans w)
  rw [hid_ne h3 h4, upd_ne hq]
  exact h5
abbrev nDr : List Str := ["box", "many", "great", "mark", "count", "found"]
section
variable {P : Program} {w : World} {K : PySem.W.Frag} {mg : Str → Option Value} {base : Heap}
theorem scDraw : FnScope nDr ["box", "many"] (defScope sDraw) := ⟨rfl, rfl, rfl, by decide +kernel, rfl, by decide +kernel, by decide +kernel⟩
theorem ok_draw {f : Addr} {fd : FuncData} {k : Nat} (F : Fun K "_law_draw" "_law_draw" sDraw f fd) (B : Bi mg) : FnOk P w K mg base CX0 (k + 1) f fd ["box", "many"] spDraw := by
  refine F.ok scDraw (fun vs H Q E h => ?_) (fun cdv A outer s H vs Q E hr h => ?_)
  · obtain ⟨p, l, m, rfl, _⟩ := h
    rfl
  · obtain ⟨p, l, m, rfl, D, hm1, hm, q⟩ := h
    have hu := hu_of hr
    have hu2 : (cxOf CX0 P w K mg base nDr "_law_draw" (defScope sDraw) f cdv A outer s H E).A.units + 64 < cLine := hr.units
    refine ⟨_, pss_cons (ps_set (i := 2) scDraw.nd rfl (.inl rfl) (pe_dget hu (pv 0) pe_str (fun _ _ => rfl)))
      (pss_cons (ps_if (pt_cmpR (op_neN hu2) (pv 2) (pe_lst pa_nil) (nomark _))
        (pss_cons (ps_set (i := 3) scDraw.nd rfl (.inl rfl) (pe_ix ix_list (pv 2) pe_int (fun _ _ => rfl)))
        (pss_cons (ps_asg (pe_op op_fdiv (pv 3) (pv 1)) (pg_sub (pv 2) pe_int set_list))
        (pss_cons (ps_if (pt_cmpR op_lt (pv 3) (pv 1) (nomark _)) (pss_one (ps_expr (pe_bm PySem.F.plainAttrs_list PySem.F.slot_list_pop PySem.F.type_list_pop mt_popAt (pv 2) (pa_cons pe_int pa_nil)))) pss_nil)
        (pss_one (ps_ret (pe_op op_mod (pe_callTy call_int1 (by rfl) B.int (by decide +kernel) (pa_cons (pv 3) pa_nil)) (pv 1))))))) pss_nil)
      (pss_cons (ps_set (i := 4) scDraw.nd rfl (.inl rfl) (pe_op op_add (pe_dget hu (pv 0) pe_str (fun _ _ => rfl)) pe_int))
      (pss_cons (ps_dput hu (pv 0) pe_str (pv 4) rfl)
      (pss_cons (ps_set (i := 5) scDraw.nd rfl (.inl rfl) (pe_op op_mod (pe_callTy call_int1 (by rfl) B.int (by decide +kernel) (pa_cons (pe_op op_add (pe_dget hu (pv 0) pe_str (fun _ _ => rfl)) (pe_op op_mul pe_int (pv 4))) pa_nil)) pe_int))
      (pss_cons (ps_set (i := 5) scDraw.nd rfl (.inl rfl) (pe_op op_mod (pe_callTy call_int1 (by rfl) B.int (by decide +kernel) (pa_cons (pe_op op_add (pe_op op_add (pe_op op_mul (pv 5) (pv 5)) (pe_op op_mul pe_int (pv 4))) pe_int) pa_nil)) pe_int))
      (pss_cons (ps_set (i := 5) scDraw.nd rfl (.inl rfl) (pe_op op_mod (pe_callTy call_int1 (by rfl) B.int (by decide +kernel) (pa_cons (pe_op op_add (pe_op op_mul (pv 5) (pv 5)) (pe_dget hu (pv 0) pe_str (fun _ _ => rfl))) pa_nil)) pe_int))
      (pss_one (ps_ret (pe_op op_mod (pe_callTy call_int1 (by rfl) B.int (by decide +kernel) (pa_cons (pe_op op_fdiv (pv 5) pe_int) pa_nil)) (pv 1)))))))))), ?_⟩
    obtain ⟨ds, st, hp, hl, hd⟩ := id D.ex
    have nlp : l ≠ p := D.ne.symm
    have hgd : DGet H p (V.str "great") (some (.ref l)) := by rw [← dkv_g (.ref l) st]; exact DGet.k (k := kG) hp
    refine ⟨.ref p, rfl, p, .ref l, rfl, hgd, ?_⟩
    refine ⟨.ref l, rfl, by show 0 ≤ sizeLine; decide, fun e ne => ?_⟩
    have nep : e ≠ p := (ne_of_none hp ne).symm
    have nel : e ≠ l := (ne_of_none hl ne).symm
    have hp1 : upd H e (.lst []) p = some (.dK (dkv (.ref l) st)) := by rw [upd_ne nep.symm]; exact hp
    have hl1 : upd H e (.lst []) l = some (.lst (ds.map V.int)) := by rw [upd_ne nel.symm]; exact hl
    have E1 : Ext p l H (upd H e (.lst [])) := Ext.rfl.new ne
    refine ⟨l, e, ds.map V.int, rfl, rfl, hl1, upd_same, _, rfl, ?_⟩
    generalize upd H e (.lst []) = H1 at hp1 hl1 E1
    cases ds with
    | nil =>
      refine iteF ?_
      have hgc1 : DGet H1 p (V.str "count") (some (.int st.2)) := by rw [← dkv_c (.ref l) st]; exact DGet.k (k := kC) hp1
      refine ⟨.ref p, rfl, p, .int st.2, rfl, hgc1, _, _, rfl, rfl, ?_⟩
      dsimp only
      refine ⟨.int (st.2 + 1), rfl, .ref p, rfl, p, _, rfl, DPut.k (k := kC) hp1 (by show 3 < sizeLine; decide), ?_⟩
      rw [dkv_pc]
      have hp2 : upd H1 p (.dK (dkv (.ref l) (st.1, st.2 + 1))) p = some (.dK (dkv (.ref l) (st.1, st.2 + 1))) := upd_same
      have hl2 : upd H1 p (.dK (dkv (.ref l) (st.1, st.2 + 1))) l = some (.lst (([] : List Int).map V.int)) := by rw [upd_ne nlp]; exact hl1
      have E2 : Ext p l H (upd H1 p (.dK (dkv (.ref l) (st.1, st.2 + 1)))) := E1.at (.inl rfl)
      generalize upd H1 p (.dK (dkv (.ref l) (st.1, st.2 + 1))) = H2 at hp2 hl2 E2
      have hgs2 : DGet H2 p (V.str "stirred") (some (.int st.1)) := by
        have := dkv_s (.ref l) (st.1, st.2 + 1)
        rw [← this]
        exact DGet.k (k := kS) hp2
      generalize st.2 + 1 = ct at hp2
      refine ⟨.ref p, rfl, p, .int st.1, rfl, hgs2, .int ct, rfl, _, _, rfl, rfl, .inl ⟨by decide, by decide⟩, _, _, rfl, rfl, .inl ⟨_, rfl, _, _, rfl, rfl, (by show (0 : Int) < 4294967291; decide), ?_⟩⟩
      dsimp only
      have o0 : 0 ≤ ((st.1 + 2654435761 * ct) % 4294967291 : Int) := Int.emod_nonneg _ (by decide)
      have o1 : ((st.1 + 2654435761 * ct) % 4294967291 : Int) < 4294967291 := Int.emod_lt_of_pos _ (by decide)
      generalize ((st.1 + 2654435761 * ct) % 4294967291 : Int) = one at o0 o1
      refine ⟨.int one, rfl, .int one, rfl, _, _, rfl, rfl, .inl ⟨by omega, by omega⟩, .int ct, rfl, _, _, rfl, rfl, .inl ⟨by decide, by decide⟩, _, _, rfl, rfl, _, _, rfl, rfl, .inl ⟨_, rfl, _, _, rfl, rfl, (by show (0 : Int) < 4294967279; decide), ?_⟩⟩
      dsimp only
      have t0 : 0 ≤ ((one * one + 40503 * ct + 7) % 4294967279 : Int) := Int.emod_nonneg _ (by decide)
      have t1 : ((one * one + 40503 * ct + 7) % 4294967279 : Int) < 4294967279 := Int.emod_lt_of_pos _ (by decide)
      generalize ((one * one + 40503 * ct + 7) % 4294967279 : Int) = two at t0 t1
      refine ⟨.int two, rfl, .int two, rfl, _, _, rfl, rfl, .inl ⟨by omega, by omega⟩, .ref p, rfl, p, .int st.1, rfl, hgs2, _, _, rfl, rfl, .inl ⟨_, rfl, _, _, rfl, rfl, (by show (0 : Int) < 4294967231; decide), ?_⟩⟩
      dsimp only
      generalize ((two * two + st.1) % 4294967231 : Int) = three
      refine ⟨.int three, rfl, _, _, rfl, rfl, ⟨by decide, by decide⟩, .inl ⟨_, rfl, .int m, rfl, _, _, rfl, rfl, (by show 0 < m; omega), ?_⟩⟩
      exact q _ _ ⟨[], _, hp2, hl2, Nat.zero_le _⟩ E2 (Int.emod_nonneg _ (by omega)) (Int.emod_lt_of_pos _ (by omega))
    | cons d0 dr =>
      refine iteT ?_
      have hd' : dr.length + 1 ≤ 63 := hd
      refine ⟨.ref l, rfl, l, _, 0, .int d0, rfl, rfl, SqL.of hl1, by simpa using atI_nat (j := 0) (xs := (d0 :: dr).map V.int) (v := V.int d0) rfl, ?_⟩
      refine ⟨.int d0, rfl, .int m, rfl, _, _, rfl, rfl, ⟨by show 0 < m; omega, by show m < _; omega⟩, .ref l, rfl, l, _, 0, 0, rfl, rfl, hl1, ?_, ?_⟩
      · unfold ixN
        rw [if_pos (by decide), if_pos (by simp only [List.length_map, List.length_cons]; omega)]
        rfl
      dsimp only
      have hl2 : upd H1 l (.lst (((d0 :: dr).map V.int).set 0 (.int (d0 / m)))) l = some (.lst ((d0 / m :: dr).map V.int)) := upd_same
      have hp2 : upd H1 l (.lst (((d0 :: dr).map V.int).set 0 (.int (d0 / m)))) p = some (.dK (dkv (.ref l) st)) := by rw [upd_ne nlp.symm]; exact hp1
      have E2 : Ext p l H (upd H1 l (.lst (((d0 :: dr).map V.int).set 0 (.int (d0 / m))))) := E1.at (.inr rfl)
      generalize upd H1 l (.lst (((d0 :: dr).map V.int).set 0 (.int (d0 / m)))) = H2 at hp2 hl2 E2
      refine ⟨.int d0, rfl, .int m, rfl, _, _, rfl, rfl, _, rfl, ?_⟩
      refine join2 (H2 := H2) (R := fun H3 => ∃ ds3 : List Int, H3 p = some (.dK (dkv (.ref l) st)) ∧ H3 l = some (.lst (ds3.map V.int)) ∧ ds3.length ≤ 63 ∧ Ext p l H H3)
        (fun H3 hR => ?_) (fun _ => ⟨d0 / m :: dr, hp2, hl2, hd, E2⟩) (fun _ tail => ?_)
      · obtain ⟨ds3, hp3, hl3, hd3, E3⟩ := hR
        refine ⟨.int d0, rfl, .inl ⟨_, rfl, .int m, rfl, _, _, rfl, rfl, (by show 0 < m; omega), ?_⟩⟩
        exact q _ _ ⟨ds3, st, hp3, hl3, hd3⟩ E3 (Int.emod_nonneg _ (by omega)) (Int.emod_lt_of_pos _ (by omega))
      · refine ⟨.ref l, rfl, .inl ⟨rfl, _, SqL.of hl2⟩, l, _, 0, 0, .int (d0 / m), rfl, rfl, hl2, by decide, by decide, ?_, rfl, ?_⟩
        · exact (ixN_seq (by unfold ixN; rw [if_pos (by decide), if_pos (by simp only [List.length_map, List.length_cons]; omega)]; rfl)).1
        · exact tail _ ⟨dr, by rw [upd_ne nlp.symm]; exact hp2, upd_same, by omega, E2.at (.inr rfl)⟩
end
end Kr
namespace Kr
open PySem PySem.Spec PyProof.Rows L2
/-! ### defs by their names -/
section
variable {P : Program} {w : World} {K : PySem.W.Frag} {mg : Str → Option Value} {base : Heap}
end
section
variable {P : Program} {w : World} {K : PySem.W.Frag} {mg : Str → Option Value} {base : Heap}
theorem o_draw (D : Df K mg "_law_draw" sDraw ["box", "many"]) (B : Bi mg) : Ok P w K mg base 1 "_law_draw" ["box", "many"] spDraw := D.ok fun _ _ F => ok_draw F B
theorem o_deck (D : Df K mg "_law_box" sBox ["script"]) (B : Bi mg) : Ok P w K mg base 1 "_law_box" ["script"] (spDeck K) := D.ok fun _ _ F => ok_deck F B
end
end Kr
namespace Kr
open PySem PySem.Spec PyProof.Rows L2
/-! ### beside the deck -/
theorem Ext.mut {p l f : Addr} {H H' : Hp} {o : HO} (e : Ext p l H H') (h : H f = none) : Ext p l H (upd H' f o) := fun b x hb => by
  obtain ⟨_, _, h5⟩ := hid_some hb
  obtain ⟨h1, h2, h3⟩ := hid_some (e b x hb)
  rw [hid_ne h1 h2, upd_ne (ne_of_none h5 h)]
  exact h3
theorem Deck.mut {H : Hp} {p l f : Addr} {o : HO} (d : Deck H p l) (h1 : f ≠ p) (h2 : f ≠ l) : Deck (upd H f o) p l := by
  obtain ⟨ds, st, a, b, c⟩ := d.ex
  exact ⟨ds, st, by rw [upd_ne h1.symm]; exact a, by rw [upd_ne h2.symm]; exact b, c⟩
theorem Ext.free {p l f : Addr} {H H' : Hp} (e : Ext p l H H') (h : H' f = none) (h1 : f ≠ p) (h2 : f ≠ l) : H f = none := by
  cases q : H f with
  | none => rfl
  | some o =>
    have := (hid_some (e f o (by rw [hid_ne h1 h2]; exact q))).2.2
    rw [h] at this
    cases this
theorem Ext.at_ {p l f : Addr} {H H' : Hp} {o : HO} (e : Ext p l H H') (h1 : f ≠ p) (h2 : f ≠ l) (q : H f = some o) : H' f = some o := (hid_some (e f o (by rw [hid_ne h1 h2]; exact q))).2.2
/-- tuples stand apart from the deck -/
theorem TS.hide {p l : Addr} {H : Hp} (D : Deck H p l) : TS H (hid p l H) := fun b xs h => by
  obtain ⟨ds, st, h1, h2, _⟩ := D.ex
  rw [hid_ne (ne_of h h1 (by intro z; cases z)) (ne_of h h2 (by intro z; cases z))]
  exact h
theorem TS.deck {p l : Addr} {H H' : Hp} (D : Deck H p l) (E : Ext p l H H') : TS H H' := (TS.hide D).trans ((TS.of E).trans (TS.of (hid_same p l H')))
/-- a list of a new address stands apart -/
structure Apart (p l f : Addr) : Prop where
  p : f ≠ p
  l : f ≠ l
theorem Deck.apart {H : Hp} {p l q : Addr} (d : Deck H p l) (h : H q = none) : Apart p l q := ⟨(d.new h).1, (d.new h).2⟩
theorem Apart.of {H : Hp} {p l f : Addr} (d : Deck H p l) (h : hid p l H f ≠ none) : Apart p l f := by
  cases q : hid p l H f with
  | none => exact absurd q h
  | some o => exact ⟨(hid_some q).1, (hid_some q).2.1⟩
end Kr
namespace Kr
open PySem PySem.Spec PyProof.Rows L2
theorem new_dq {p l q : Addr} {H : Hp} {o : HO} (D : Deck H p l) (h : H q = none) : Ext p l H (upd H q o) ∧ Deck (upd H q o) p l ∧ hid p l (upd H q o) q = some o := by
  obtain ⟨h1, h2⟩ := D.new h
  exact ⟨Ext.rfl.new h, D.mut h1 h2, hid_upd h1 h2⟩
theorem seqIx {r : Int} {n : Nat} (h0 : 0 ≤ r) (h1 : r < n) : seqIndex? r n = some r.toNat := (ixN_seq (by unfold ixN; rw [if_pos h0, if_pos h1])).1
theorem erasev_perm (zs : List V) {k : Nat} (h : k < zs.length) : (zs[k] :: zs.eraseIdx k).Perm zs := by
  rw [List.eraseIdx_eq_take_drop_succ]
  have e : zs = zs.take k ++ zs[k] :: zs.drop (k + 1) := by
    rw [← List.drop_eq_getElem_cons h, List.take_append_drop]
  exact List.perm_middle.symm.trans (.of_eq e.symm)
/-- items in a drawn order -/
def spMixV : Sp := fun vs H Q _ => ∃ (p l a : Addr) (xs : List V), vs = [.ref p, .ref a] ∧ Deck H p l ∧ hid p l H a = some (.lst xs) ∧ xs.length ≤ 1000 ∧
  ∀ (H' : Hp) (f : Addr) (ys : List V), Deck H' p l → Ext p l H H' → H f = none → hid p l H' f = some (.lst ys) → ys.Perm xs → Q (.ref f) H'
def spDeed : Sp := fun vs H Q _ => ∃ (p l : Addr) (n : Nat), vs = [.ref p, .int (n : Int)] ∧ Deck H p l ∧ 3 ≤ n ∧ n ≤ 6 ∧ ∀ H' v m, Deck H' p l → Ext p l H H' → DeedAt H' v m → Deed n m → Q v H'
def spDrawn : Sp := fun vs H Q _ => ∃ (p l : Addr) (n : Nat), vs = [.ref p, .int (n : Int)] ∧ Deck H p l ∧ 3 ≤ n ∧ n ≤ 6 ∧ ∀ H' v T, Deck H' p l → Ext p l H H' → Dq H' v (tabD T) → TabOk n T → Q v H'
end Kr
namespace Kr
open PySem PySem.Spec PyProof.Rows L2 PySem.SeqAt PySem.MeetsSeq
/-! ### x == i, x any data, i a number -/
theorem dict_eq_declines_int (l : Addr) (es : Array DictEntry) (ep : Nat) (dd : Option Addr) (sl : Array (Option Value)) (b : Int) (u : Tok) :
    Meets (Builtin.«dict.__eq__» ⟨[.ref l, .int b u], []⟩) (fun _ R s => s.heap.get? l = some { cls := .type "dict", dict := dd, data := .dict es ep, slots := sl } ∧ R (.ok (.ret .notImplemented)) s) :=
  .of_wp fun prog w A R s h => by obtain ⟨hp, g, d, tk, os⟩ := s; obtain ⟨hl, h⟩ := h; have f1 := F.sub_int_dict; wp_walk using wpAny_loadPart' hl; exact ⟨_, rfl, h⟩
theorem int_eq_declines_dict (b : Int) (u : Tok) (l : Addr) (c : Value) (es : Array DictEntry) (ep : Nat) (dd : Option Addr) (sl : Array (Option Value)) :
    Meets (Builtin.«int.__eq__» ⟨[.int b u, .ref l], []⟩) (fun _ R s => s.heap.get? l = some { cls := c, dict := dd, data := .dict es ep, slots := sl } ∧ R (.ok (.ret .notImplemented)) s) :=
  .of_wp fun prog w A R s h => by obtain ⟨hp, g, d, tk, os⟩ := s; obtain ⟨hl, h⟩ := h; wp_walk using wpAny_loadPart' hl, wpAny_load hl; exact ⟨_, rfl, h⟩
theorem rc_dict_int {A : Around} {s : Shared} {l : Addr} {es : Array DictEntry} {ep : Nat} {dd : Option Addr} {sl : Array (Option Value)} (b : Int) (u : Tok) (ho : s.heap.get? l = some { cls := .type "dict", dict := dd, data := .dict es ep, slots := sl }) (hu : A.units < cLine) : RcAt A s (.ref l) (.int b u) false := fun prog w E Q h => by
  exact rc_eq_decline_or (k := false) ⟨_, ho, rfl⟩ (typeIs_int s b u) (by decide) F.sub_int_dict F.slot_dict_eq F.slot_int_eq_refl
    (fun _ hq => call_meets F.slot_dict_eq ⟨_, ho, rfl⟩ F.entry_dict_eq (F.args_dict_eq_2 _ _) (dict_eq_declines_int l es ep dd sl b u) ⟨ho, hq⟩)
    (fun _ hq => call_meets F.slot_int_eq_refl (typeIs_int s b u) F.entry_int_eq (F.args_int_eq_2 _ _) (int_eq_declines_dict b u l (.type "dict") es ep dd sl) ⟨ho, hq⟩)
    (fun _ hq => wpAny_of_eq (rfl : isSame (.ref l) (.int b u) = pure false) hq) (.inr hu) h
def rEq1 : R2 := fun x y H Q => ∃ (d : PyData) (i : Int), Dq H x d ∧ y = .int i ∧ Q (.bl (PyData.eqv d (.int i))) H
theorem op_eq1 {X : Cx} (hu : X.A.units + 64 < cLine) : OpR X (compareOp .Eq) rEq1 := by
  intro pins s σ H x y v u Q I rx ry h
  obtain ⟨d, i, hd, rfl, q⟩ := h
  obtain ⟨t, rfl⟩ := ry
  have hu : X.A.units < cLine := by omega
  cases hd with
  | non =>
    cases rx
    exact RcAt.none_int i t X.prog X.w X.xe _ ⟨.bl _, H, I, rfl, q⟩
  | bl b =>
    cases rx
    exact RcAt.bool_int b i t X.prog X.w X.xe _ ⟨.bl _, H, I, rfl, q⟩
  | int j =>
    obtain ⟨t', rfl⟩ := rx
    exact RcAt.int_int j t' i t X.prog X.w X.xe _ ⟨.bl _, H, I, rfl, q⟩
  | str z =>
    obtain ⟨t', rfl⟩ := rx
    exact RcAt.str_int z t' i t X.prog X.w X.xe _ ⟨.bl _, H, I, rfl, q⟩
  | lst e _ =>
    cases rx
    obtain ⟨its, _, p1, _⟩ := I.list (SqL.of (K := X.K) e)
    exact RcAt.list_int i t p1.isList hu X.prog X.w X.xe _ ⟨.bl _, H, I, rfl, q⟩
  | tup e _ =>
    cases rx
    obtain ⟨its, _, p1, _⟩ := I.tuple (SqT.of (K := X.K) e)
    exact RcAt.tuple_int i t p1 hu X.prog X.w X.xe _ ⟨.bl _, H, I, rfl, q⟩
  | @dic a e =>
    cases rx
    obtain ⟨_, hsys, vs, rel, ⟨cls, dd, data, sl⟩, es, ep, ho, hx, hd, _⟩ := I.hok a _ e
    obtain rfl : cls = .type "dict" := hx.1
    simp only at hd
    subst hd
    exact rc_dict_int i t ho hu X.prog X.w X.xe _ ⟨.bl _, H, I, rfl, q⟩
/-- a tuple beside () -/
def rEqT0 (K : PySem.W.Frag) : R2 := fun x y H Q => ∃ l b xs, x = .ref l ∧ y = .ref b ∧ SqT K H l xs ∧ SqT K H b [] ∧ Q (.bl xs.isEmpty) H
theorem all0 (n : Nat) (e : Nat → Bool) : ((List.range (min n 0)).all e && n == 0) = decide (n = 0) := by
  rw [Nat.min_zero]
  cases n <;> rfl
theorem isE {xs : List V} {its : List Value} (r : Vals xs its) : decide (its.toArray.size = 0) = xs.isEmpty := by
  cases r with
  | nil => rfl
  | cons _ _ => rfl
theorem op_eqT0 {X : Cx} (hu : X.A.units + 64 < cLine) : OpR X (compareOp .Eq) (rEqT0 X.K) := by
  intro pins s σ H x y v u Q I rx ry h
  obtain ⟨l, b, xs, rfl, rfl, hl, hb, q⟩ := h
  obtain rfl : v = Value.ref l := rx
  obtain rfl : u = Value.ref b := ry
  obtain ⟨its, r1, p1, _⟩ := I.tuple hl
  obtain ⟨it2, r2, p2, _⟩ := I.tuple hb
  cases r2
  refine SeqAt.RcAt.tuples (e := fun _ => true) p1 p2 (by omega) (fun j _ h2 => absurd h2 (by simp)) X.prog X.w X.xe _ ⟨.bl xs.isEmpty, H, I, ?_, q⟩
  show Value.bool _ = Value.bool _
  rw [← isE r1]
  exact congrArg Value.bool (all0 _ _)
end Kr
namespace Kr
open PySem PySem.Spec PyProof.Rows L2
/-! ### the heap without some lists and dicts that change -/
def hidS (S : List Addr) (H : Hp) : Hp := fun b => if b ∈ S then none else H b
theorem hidS_ne {S : List Addr} {b : Addr} {H : Hp} (h : b ∉ S) : hidS S H b = H b := by
  unfold hidS
  rw [if_neg h]
theorem hidS_some {S : List Addr} {b : Addr} {H : Hp} {o : HO} (h : hidS S H b = some o) : b ∉ S ∧ H b = some o := by
  unfold hidS at h
  by_cases e : b ∈ S
  · rw [if_pos e] at h
    cases h
  · rw [if_neg e] at h
    exact ⟨e, h⟩
theorem hidS_same (S : List Addr) (H : Hp) : Same (hidS S H) H := fun _ _ h => (hidS_some h).2
theorem hidS_up {S : List Addr} {H H' : Hp} (s : Same H H') : Same (hidS S H) (hidS S H') := fun b o h => by
  obtain ⟨h1, h2⟩ := hidS_some h
  rw [hidS_ne h1]
  exact s _ _ h2
theorem hidS_ext {S : List Addr} {p l : Addr} {H H' : Hp} (hp : p ∈ S) (hl : l ∈ S) (e : Ext p l H H') : Same (hidS S H) (hidS S H') := fun b o h => by
  obtain ⟨h1, h2⟩ := hidS_some h
  rw [hidS_ne h1]
  exact e.at_ (fun z => h1 (z ▸ hp)) (fun z => h1 (z ▸ hl)) h2
/-- these are there, and are no tuples -/
structure Offs (S : List Addr) (H : Hp) : Prop where
  at_ : ∀ b ∈ S, ∃ o, H b = some o ∧ ∀ xs, o ≠ .tup xs
theorem Offs.up {S : List Addr} {H H' : Hp} (h : Offs S H) (s : Same H H') : Offs S H' := ⟨fun b hb => let ⟨o, a, c⟩ := h.at_ b hb; ⟨o, s _ _ a, c⟩⟩
theorem Offs.tup {S : List Addr} {H : Hp} {y : Addr} {xs : List V} (h : Offs S H) (e : H y = some (.tup xs)) : hidS S H y = some (.tup xs) := by
  rw [hidS_ne fun hb => ?_]
  · exact e
  · obtain ⟨o, a, c⟩ := h.at_ y hb
    rw [e] at a
    exact c _ (Option.some.inj a).symm
theorem Offs.new {S : List Addr} {H : Hp} {q : Addr} (h : Offs S H) (e : H q = none) : q ∉ S := fun hb => by
  obtain ⟨o, a, _⟩ := h.at_ q hb
  rw [e] at a
  cases a
theorem Offs.put {S : List Addr} {H : Hp} {q : Addr} {o : HO} (h : Offs S H) (e : H q = none) : hidS S (upd H q o) q = some o := by
  rw [hidS_ne (h.new e), upd_same]
theorem Offs.deck {S : List Addr} {p l : Addr} {H H' : Hp} (h : Offs S H) (e : Ext p l H H') (D : Deck H' p l) : Offs S H' := ⟨fun b hb => by
  obtain ⟨ds, st, a, c, _⟩ := D.ex
  by_cases z1 : b = p
  · exact ⟨_, by rw [z1]; exact a, by intro xs z; cases z⟩
  · by_cases z2 : b = l
    · exact ⟨_, by rw [z2]; exact c, by intro xs z; cases z⟩
    · obtain ⟨o, f, g⟩ := h.at_ b hb
      exact ⟨o, e.at_ z1 z2 f, g⟩⟩
theorem Deck.offs {p l : Addr} {H : Hp} (D : Deck H p l) : Offs [p, l] H := ⟨fun b hb => by
  obtain ⟨ds, st, a, c, _⟩ := D.ex
  simp only [List.mem_cons, List.not_mem_nil, or_false] at hb
  rcases hb with rfl | rfl
  · exact ⟨_, a, by intro xs z; cases z⟩
  · exact ⟨_, c, by intro xs z; cases z⟩⟩
/-! ### rows of small data -/
structure SmA (k w : Nat) (ds : List PyData) : Prop where
  sh : PyData.showableAll ds = true
  ls : PyData.leavesShortAll 41 ds = true
  dp : PyData.depthAll ds ≤ k
  wt : PyData.weightAll ds ≤ w
theorem SmA.mono {k w k' w' : Nat} {ds : List PyData} (h : SmA k w ds) (hk : k ≤ k') (hw : w ≤ w') : SmA k' w' ds := ⟨h.sh, h.ls, Nat.le_trans h.dp hk, Nat.le_trans h.wt hw⟩
theorem SmA.tup {k w : Nat} {ds : List PyData} (h : SmA k w ds) : Sm (k + 1) w (.tuple ds) := ⟨by simpa [PyData.showable] using h.sh, by simpa [PyData.leavesShort] using h.ls, by have := h.dp; simp only [PyData.depth]; omega, by have := h.wt; simpa only [PyData.weight] using this⟩
theorem SmA.lst {k w : Nat} {ds : List PyData} (h : SmA k w ds) : Sm (k + 1) w (.list ds) := ⟨by simpa [PyData.showable] using h.sh, by simpa [PyData.leavesShort] using h.ls, by have := h.dp; simp only [PyData.depth]; omega, by have := h.wt; simpa only [PyData.weight] using this⟩
theorem Sm.tup_row {k w : Nat} {ds : List PyData} (h : Sm (k + 1) w (.tuple ds)) : SmA k w ds := ⟨by simpa [PyData.showable] using h.sh, by simpa [PyData.leavesShort] using h.ls, by have := h.dp; simp only [PyData.depth] at this; omega, by have := h.wt; simpa only [PyData.weight] using this⟩
theorem SmA.nil : SmA 0 0 [] := ⟨by simp [PyData.showableAll], by simp [PyData.leavesShortAll], by simp [PyData.depthAll], by simp [PyData.weightAll]⟩
theorem SmA.cons {k w w' : Nat} {d : PyData} {ds : List PyData} (a : Sm k w d) (b : SmA k w' ds) : SmA k (w + 1 + w') (d :: ds) :=
  ⟨by simp [PyData.showableAll, a.sh, b.sh], by simp [PyData.leavesShortAll, a.ls, b.ls], by have := a.dp; have := b.dp; simp only [PyData.depthAll]; omega, by have := a.wt; have := b.wt; simp only [PyData.weightAll]; omega⟩
theorem SmA.inv {k w : Nat} {d : PyData} {ds : List PyData} (h : SmA k w (d :: ds)) : ∃ w1 w2, Sm k w1 d ∧ SmA k w2 ds ∧ w1 + 1 + w2 = w := by
  obtain ⟨h1, h2, h3, h4⟩ := h
  simp only [PyData.showableAll, PyData.leavesShortAll, Bool.and_eq_true, PyData.depthAll, PyData.weightAll] at h1 h2 h3 h4
  exact ⟨w - 1 - d.weight.min 0 - PyData.weightAll ds, PyData.weightAll ds, ⟨h1.1, h2.1, by omega, by simp; omega⟩, ⟨h1.2, h2.2, by omega, Nat.le_refl _⟩, by simp; omega⟩
theorem SmA.one {k w : Nat} {d : PyData} (a : Sm k w d) : SmA k (w + 1) [d] := by
  have := SmA.cons a (SmA.nil.mono (Nat.zero_le k) (Nat.le_refl 0))
  exact this
theorem SmA.app {k : Nat} : ∀ {a b : List PyData} {w w' : Nat}, SmA k w a → SmA k w' b → SmA k (w + w') (a ++ b)
  | [], _, _, _, _, hb => hb.mono (Nat.le_refl _) (Nat.le_add_left _ _)
  | d :: a, b, w, w', ha, hb => by
    obtain ⟨w1, w2, h1, h2, e⟩ := ha.inv
    exact (SmA.cons h1 (SmA.app h2 hb)).mono (Nat.le_refl _) (by omega)
theorem SmA.take {k : Nat} : ∀ {a : List PyData} {w : Nat} (i : Nat), SmA k w a → SmA k w (a.take i)
  | [], _, i, h => by rw [List.take_nil]; exact h
  | d :: a, w, 0, h => SmA.nil.mono (Nat.zero_le _) (Nat.zero_le _)
  | d :: a, w, i + 1, h => by
    obtain ⟨w1, w2, h1, h2, e⟩ := h.inv
    exact (SmA.cons h1 (h2.take i)).mono (Nat.le_refl _) (by omega)
theorem SmA.drop {k : Nat} : ∀ {a : List PyData} {w : Nat} (i : Nat), SmA k w a → SmA k w (a.drop i)
  | [], _, i, h => by rw [List.drop_nil]; exact h
  | d :: a, w, 0, h => h
  | d :: a, w, i + 1, h => by
    obtain ⟨w1, w2, h1, h2, e⟩ := h.inv
    exact (h2.drop i).mono (Nat.le_refl _) (by omega)
theorem SmA.mem {k : Nat} : ∀ {a : List PyData} {w : Nat} {d : PyData}, SmA k w a → d ∈ a → Sm k w d
  | d :: a, w, x, h, hx => by
    obtain ⟨w1, w2, h1, h2, e⟩ := h.inv
    rcases List.mem_cons.mp hx with rfl | hx
    · exact h1.mono (Nat.le_refl _) (by omega)
    · exact (h2.mem hx).mono (Nat.le_refl _) (by omega)
/-- items exchanged for truths -/
theorem SmA.boo {k : Nat} (f : PyData → PyData) (hf : ∀ d, f d = d ∨ ∃ b, f d = .bool b) : ∀ {a : List PyData} {w : Nat}, SmA k w a → 1 ≤ k → SmA k w (a.map f)
  | [], _, h, _ => h
  | d :: a, w, h, hk => by
    obtain ⟨w1, w2, h1, h2, e⟩ := h.inv
    refine (SmA.cons (w := w1) ?_ (h2.boo f hf hk)).mono (Nat.le_refl _) (by omega)
    rcases hf d with z | ⟨b, z⟩
    · rw [z]
      exact h1
    · rw [z]
      exact ⟨rfl, rfl, by simp [PyData.depth], by simp [PyData.weight]⟩
end Kr
namespace Kr
open PySem PySem.Spec PyProof.Rows L2
abbrev pD (p : Pr) : PyData := .tuple [.int (p.1 : Int), .int (p.2 : Int)]
def circD (C : List Pr) : PyData := .list (C.map pD)
theorem pD_flat (L : List Pr) : flatTA (L.map pD) = true := flatTA_of fun d hd => by
  obtain ⟨p, _, rfl⟩ := List.mem_map.mp hd
  simp [pD, flatT, flatTA]
theorem pD_at {H : Hp} {a : Addr} {p : Pr} (h : H a = some (.tup (pV p))) : Dq H (.ref a) (pD p) := .tup h (.cons (.int _) (.cons (.int _) .nil))
theorem pD_inv {H : Hp} {v : V} {p : Pr} (h : Dq H v (pD p)) : ∃ a, v = .ref a ∧ H a = some (.tup (pV p)) := by
  obtain ⟨a, xs, rfl, e, q⟩ := Dq.tup_inv h
  cases q with
  | cons h1 q =>
    cases q with
    | cons h2 q =>
      cases q
      cases h1
      cases h2
      exact ⟨a, rfl, e⟩
theorem pD_get {H : Hp} {xs : List V} {L : List Pr} {i : Nat} {y : V} (q : DqA H xs (L.map pD)) (e : xs[i]? = some y) : ∃ p, L[i]? = some p ∧ ∃ a, y = .ref a ∧ H a = some (.tup (pV p)) := by
  obtain ⟨d, h1, h2⟩ := q.get e
  rw [List.getElem?_map] at h1
  cases hr : L[i]? with
  | none => rw [hr] at h1; cases h1
  | some p =>
    rw [hr] at h1
    cases Option.some.inj h1
    exact ⟨p, rfl, pD_inv h2⟩
/-! ### a path that comes back -/
structure Path (S : Pr → Pr) (P : List Pr) (q : Pr) : Prop where
  st : ∀ (i : Nat) (x : Pr), P[i]? = some x → (P ++ [q])[i + 1]? = some (S x)
theorem Path.more {S : Pr → Pr} {P : List Pr} {q : Pr} (h : Path S P q) : Path S (P ++ [q]) (S q) := ⟨fun i x hx => by
  rcases Nat.lt_trichotomy i P.length with c | c | c
  · rw [List.getElem?_append_left c] at hx
    have := h.st i x hx
    rw [List.getElem?_append_left (by rw [List.length_append]; show _ < _ + 1; omega)]
    exact this
  · subst c
    rw [List.getElem?_append_right (Nat.le_refl _), Nat.sub_self] at hx
    cases hx
    rw [List.getElem?_append_right (by rw [List.length_append]; show _ + 1 ≤ _; omega), List.length_append]
    show [S q][P.length + 1 - (P.length + 1)]? = _
    rw [Nat.sub_self]
    rfl
  · rw [List.getElem?_eq_none (by rw [List.length_append]; show _ + 1 ≤ _; omega)] at hx
    cases hx⟩
theorem path_close {n : Nat} {S : Pr → Pr} {CL : List (List Pr)} {P : List Pr} {q : Pr} (inj : ∀ a b, a ∈ prs n → b ∈ prs n → S a = S b → a = b) (h : Path S P q) (ne : P ≠ []) (nd : (CL.flatten ++ P).Nodup) (sub : ∀ x ∈ CL.flatten ++ P, x ∈ prs n)
    (cyc : ∀ C ∈ CL, Cyc S C) (hq : q ∈ CL.flatten ++ P) : Cyc S P := by
  have hl : 0 < P.length := List.length_pos_iff.mpr ne
  obtain ⟨z, hz⟩ : ∃ z, P[P.length - 1]? = some z := ⟨_, List.getElem?_eq_getElem (by omega)⟩
  have e1 := h.st _ _ hz
  rw [show P.length - 1 + 1 = P.length by omega, List.getElem?_append_right (Nat.le_refl _), Nat.sub_self] at e1
  have eq : q = S z := Option.some.inj e1
  have hzP := List.mem_of_getElem? hz
  have hzp : z ∈ prs n := sub z (List.mem_append_right _ hzP)
  have ndP : P.Nodup := (List.nodup_append.mp nd).2.1
  have dis := (List.nodup_append.mp nd).2.2
  have hqP : q ∈ P := by
    rcases List.mem_append.mp hq with c | c
    · obtain ⟨C, hC, hqC⟩ := List.mem_flatten.mp c
      have k := cyc C hC
      obtain ⟨j, hj⟩ := List.getElem?_of_mem hqC
      have hjl := (List.getElem?_eq_some_iff.mp hj).1
      obtain ⟨r, hr⟩ : ∃ r, C[(j + (C.length - 1)) % C.length]? = some r := ⟨_, List.getElem?_eq_getElem (Nat.mod_lt _ k.ne)⟩
      have e2 := k.st _ _ hr
      rw [Nat.mod_add_mod, show j + (C.length - 1) + 1 = j + C.length by omega, Nat.add_mod_right, Nat.mod_eq_of_lt hjl, hj] at e2
      have e3 : S r = S z := by rw [← eq]; exact (Option.some.inj e2).symm
      have hrC := List.mem_of_getElem? hr
      have hrF : r ∈ CL.flatten := List.mem_flatten.mpr ⟨C, hC, hrC⟩
      have := inj r z (sub r (List.mem_append_left _ hrF)) hzp e3
      exact absurd this (dis r hrF z hzP)
    · exact c
  obtain ⟨j, hj⟩ := List.getElem?_of_mem hqP
  have hjl := (List.getElem?_eq_some_iff.mp hj).1
  have j0 : j = 0 := by
    apply Classical.byContradiction
    intro hj0
    obtain ⟨r, hr⟩ : ∃ r, P[j - 1]? = some r := ⟨_, List.getElem?_eq_getElem (by omega)⟩
    have e2 := h.st _ _ hr
    rw [show j - 1 + 1 = j by omega, List.getElem?_append_left hjl, hj] at e2
    have e3 : S r = S z := by rw [← eq]; exact (Option.some.inj e2).symm
    have hrP := List.mem_of_getElem? hr
    have := inj r z (sub r (List.mem_append_right _ hrP)) hzp e3
    rw [this] at hr
    have := nd_ix ndP hr hz
    omega
  subst j0
  refine ⟨hl, ndP, fun i p hp => ?_⟩
  have hil := (List.getElem?_eq_some_iff.mp hp).1
  have e2 := h.st i p hp
  by_cases c : i + 1 < P.length
  · rw [Nat.mod_eq_of_lt c]
    rw [List.getElem?_append_left c] at e2
    exact e2
  · have c : i + 1 = P.length := by omega
    rw [c, List.getElem?_append_right (Nat.le_refl _), Nat.sub_self] at e2
    rw [c, Nat.mod_self, hj]
    exact e2
/-! ### the pairs that are met -/
def metK (L : List Pr) : List (List Key × V) := L.map fun p => (pK p, V.bl true)
theorem metK_val (q : Pr) : ∀ L : List Pr, valV (metK L) (pK q) = if q ∈ L then some (.bl true) else none
  | [] => by simp [metK, valV_nil]
  | p :: L => by
    have ih := metK_val q L
    unfold metK at ih ⊢
    rw [List.map_cons]
    by_cases c : p = q
    · subst c
      rw [valV_pos rfl, if_pos List.mem_cons_self]
    · rw [valV_neg (fun z => c (pK_inj z)), ih]
      by_cases d : q ∈ L
      · rw [if_pos d, if_pos (List.mem_cons_of_mem _ d)]
      · rw [if_neg d, if_neg fun z => (List.mem_cons.mp z).elim (fun w => c w.symm) d]
theorem metK_put {L : List Pr} {q : Pr} (h : q ∉ L) : putK (metK L) (pK q) (.bl true) = metK (L ++ [q]) := by
  rw [putK_new _ (by rw [metK_val, if_neg h])]
  unfold metK
  rw [List.map_append]
  rfl
theorem metK_len (L : List Pr) : (metK L).length = L.length := List.length_map ..
def spCircles : Sp := fun vs H Q _ => ∃ (n : Nat) (v : V) (T : List (List Int)), vs = [.int (n : Int), v] ∧ n ≤ 6 ∧ Dq H v (tabD T) ∧ TabOk n T ∧ ∀ H' p cs CL, Same H H' → H p = none → H' p = some (.lst cs) → DqA H' cs (CL.map circD) → Rounds n (stp n T) CL → CL.length ≤ 1000 → CL.flatten.Nodup → Q (.ref p) H'
section
variable {P : Program} {w : World} {K : PySem.W.Frag} {mg : Str → Option Value} {base : Heap}
abbrev nCi : List Str := ["n", "table", "steps", "met", "circles", "start", "circle", "pair"]
theorem o_circles (D0 : Df K mg "_circles" sCircles ["n", "table"]) (B : Bi mg) (so : Ok P w K mg base 5 "steps_of" ["n", "table"] spSteps) : Ok P w K mg base 6 "_circles" ["n", "table"] spCircles := by
  have scCi : FnScope nCi ["n", "table"] (defScope sCircles) := ⟨rfl, rfl, rfl, by decide +kernel, rfl, by decide +kernel, by decide +kernel⟩
  refine D0.ok fun f fd F => F.ok scCi (fun vs H Q E h => ?_) (fun cdv A outer s H vs Q E hr h => ?_)
  · obtain ⟨n, v, T, rfl, _⟩ := h
    rfl
  · obtain ⟨n, v, T, rfl, n1, hv, okT, q⟩ := h
    have hu1 := hu_of hr
    have hu : (cxOf CX0 P w K mg base nCi "_circles" (defScope sCircles) f cdv A outer s H E).A.units + 64 < cLine := hr.units
    refine ⟨_, pss_cons (ps_set (i := 2) scCi.nd rfl (.inl rfl) (pe_fn so hr (by rfl) (pa_cons (pv 0) (pa_cons (pv 1) pa_nil))))
      (pss_cons (ps_set (i := 3) scCi.nd rfl (.inl rfl) pe_dnewT)
      (pss_cons (ps_set (i := 4) scCi.nd rfl (.inl rfl) (pe_lst pa_nil))
      (pss_cons (ps_lock (ps_for PassesOwn.never rfl (pi_keys (pv 2)) (pg_name (i := 5) scCi.nd rfl (.inl rfl))
        (pss_cons (ps_set (i := 6) scCi.nd rfl (.inl rfl) (pe_lst pa_nil))
        (pss_cons (ps_set (i := 7) scCi.nd rfl (.inl rfl) (pv 5))
        (pss_cons (ps_while PassesOwn.never (pt_cmp (pc_dnotin hu1 (pv 7) (pv 3)) (by rfl))
          (pss_cons (ps_dput hu1 (pv 3) (pv 7) pe_bl rfl)
          (pss_cons (ps_expr (pe_bm PySem.F.plainAttrs_list PySem.F.slot_list_append PySem.F.type_list_append mt_append (pv 6) (pa_cons (pv 7) pa_nil)))
          (pss_one (ps_set (i := 7) scCi.nd rfl (.inl rfl) (pe_dget hu1 (pv 2) (pv 7) (fun _ _ => rfl)))))))
        (pss_one (ps_if (pt_cmpR (op_neN hu) (pv 6) (pe_lst pa_nil) (nomark _)) (pss_one (ps_expr (pe_bm PySem.F.plainAttrs_list PySem.F.slot_list_append PySem.F.type_list_append mt_append (pv 4) (pa_cons (pv 6) pa_nil)))) pss_nil)))))))
      (pss_one (ps_ret (pv 4)))))), ?_⟩
    refine ⟨.int n, rfl, v, rfl, n, v, T, rfl, n1, hv, okT, fun H1 Da kvs s1 nDa hDa hst => ?_⟩
    try dsimp only [tNext]
    refine fun M nM => ?_
    have s2 := same_new (o := .dT []) nM
    have hM : upd H1 M (.dT []) M = some (.dT []) := upd_same
    have nfM : ∀ b o, H1 b = some o → b ≠ M := fun b o hb => ne_of_none hb nM
    have nDM := nfM _ _ hDa
    have hDa2 := s2 _ _ hDa
    generalize upd H1 M (.dT []) = H2 at s2 hM hDa2
    try dsimp only [tNext]
    refine ⟨by show 0 ≤ sizeLine; decide, fun Cc nCc => ?_⟩
    have s3 := same_new (o := .lst []) nCc
    have hCc : upd H2 Cc (.lst []) Cc = some (.lst []) := upd_same
    have nCM : Cc ≠ M := (ne_of_none hM nCc).symm
    have nDC : Da ≠ Cc := ne_of_none hDa2 nCc
    have hM3 := s3 _ _ hM
    have hDa3 := s3 _ _ hDa2
    have s13 := s2.trans s3
    have nCH : ∀ b o, H1 b = some o → b ≠ Cc := fun b o hb => ne_of_none (s2 _ _ hb) nCc
    have nCc1 : H Cc = none := s1.free (s2.free nCc)
    generalize upd H2 Cc (.lst []) = H3 at s13 hCc hM3 hDa3
    clear s2 s3 hM hDa2 nCc nM
    try dsimp only [tNext]
    refine ⟨Da, .dT kvs, hDa3, trivial, fun od => ?_⟩
    have hDa4 : upd H3 Da (.frz od (.dT kvs)) Da = some (.frz od (.dT kvs)) := upd_same
    have k4 : ∀ b o, b ≠ Da → H3 b = some o → upd H3 Da (.frz od (.dT kvs)) b = some o := fun b o hb ho => by rw [upd_ne hb]; exact ho
    have hM4 := k4 _ _ nDM.symm hM3
    have hCc4 := k4 _ _ nDC.symm hCc
    generalize upd H3 Da (.frz od (.dT kvs)) = H4 at hDa4 k4 hM4 hCc4
    have ts4 : ∀ G : Hp, (∀ b o, b ≠ M → b ≠ Cc → H4 b = some o → G b = some o) → TS H1 G := fun G k b xs hb => k _ _ (nfM _ _ hb) (nCH _ _ hb) (k4 _ _ (ne_of hb hDa (by intro z; cases z)) (s13 _ _ hb))
    have inj : ∀ a b, a ∈ prs n → b ∈ prs n → stp n T a = stp n T b → a = b := fun a b ha hb e => stp_inj n1 okT ha hb e
    have hpl := prs_len n (by omega)
    refine ⟨.ref Da, rfl, Da, od, rfl, .inr ⟨kvs, hDa4, for_it walk_keysT (fun i σ G => ∃ (v5 v6 v7 : Option V) (cs : List V) (CL : List (List Pr)), σ = [some (.int n), some v, some (.ref Da), some (.ref M), some (.ref Cc), v5, v6, v7] ∧ (∀ b o, b ≠ M → b ≠ Cc → H4 b = some o → G b = some o) ∧
        G M = some (.dT (metK CL.flatten)) ∧ G Cc = some (.lst cs) ∧ DqA (hidS [M, Cc, Da] G) cs (CL.map circD) ∧ (∀ C ∈ CL, Cyc (stp n T) C) ∧ CL.flatten.Nodup ∧ (∀ x ∈ CL.flatten, x ∈ prs n) ∧ CL.length ≤ i ∧ ∀ (j : Nat) (p : Pr) (u : V), j < i → kvs[j]? = some (pK p, u) → p ∈ CL.flatten)
      ⟨_, _, _, [], [], rfl, fun _ _ _ _ h => h, hM4, hCc4, .nil, (fun _ h => nomatch h), List.nodup_nil, (fun _ h => nomatch h), Nat.le_refl _, fun j p u h _ => absurd h (Nat.not_lt_zero _)⟩ (fun i σ G _ ⟨_, _, _, _, _, _, k, _⟩ => k _ _ nDM nDC hDa4) ?_ ?_⟩⟩
    rotate_left
    · rintro σ G ⟨v5, v6, v7, cs, CL, rfl, k, hGM, hGC, qcs, cyc, nd, sub, hcl, hall⟩
      have hGD := k _ _ nDM nDC hDa4
      refine ⟨hGD, .ref Cc, rfl, q _ Cc cs CL (fun b o hb => ?_) nCc1 (by rw [upd_ne nDC.symm]; exact hGC) (qcs.up fun b o hb => ?_) ⟨cyc, fun C hC p hp => sub p (List.mem_flatten.mpr ⟨C, hC, hp⟩), fun p hp => ?_⟩ (by have := hst.len; omega) nd⟩
      · by_cases e : b = Da
        · subst e
          rw [nDa] at hb
          cases hb
        · rw [upd_ne e]
          have h1 := s1 _ _ hb
          exact k _ _ (nfM _ _ h1) (nCH _ _ h1) (k4 _ _ e (s13 _ _ h1))
      · obtain ⟨h1, h2⟩ := hidS_some hb
        have e : b ≠ Da := fun z => h1 (by rw [z]; simp)
        rw [upd_ne e]
        exact h2
      · obtain ⟨a, ha, _⟩ := hst.val p hp
        obtain ⟨j, hj⟩ := valV_mem ha
        exact List.mem_flatten.mp (hall j p _ (List.getElem?_eq_some_iff.mp hj).1 hj)
    · rintro i x σ _ G hi ⟨v5, v6, v7, cs, CL, rfl, k, hGM, hGC, qcs, cyc, nd, sub, hcl, hall⟩ ⟨rfl, kk, u0, a0, hk0, rfl, ha0⟩
      obtain ⟨p0, hp0, rfl⟩ : ∃ p ∈ prs n, kk = pK p := hst.keys _ (List.mem_of_getElem? hk0)
      have hGD := k _ _ nDM nDC hDa4
      have of0 : Offs [M, Cc, Da] G := ⟨fun b hb => by
        simp only [List.mem_cons, List.not_mem_nil, or_false] at hb
        rcases hb with rfl | rfl | rfl
        · exact ⟨_, hGM, by intro xs z; cases z⟩
        · exact ⟨_, hGC, by intro xs z; cases z⟩
        · exact ⟨_, hGD, by intro xs z; cases z⟩⟩
      refine ⟨by show 0 ≤ sizeLine; decide, fun c nc => ?_⟩
      have ncS := of0.new nc
      have ncM : c ≠ M := fun z => ncS (by rw [z]; simp)
      have ncC : c ≠ Cc := fun z => ncS (by rw [z]; simp)
      have ncD : c ≠ Da := fun z => ncS (by rw [z]; simp)
      have sc := same_new (o := .lst []) nc
      have hc : upd G c (.lst []) c = some (.lst []) := upd_same
      have nfc : ∀ b o, G b = some o → b ≠ c := fun b o hb => ne_of_none hb nc
      have hGM1 := sc _ _ hGM
      have hGC1 := sc _ _ hGC
      have ha1 := sc _ _ ha0
      generalize upd G c (.lst []) = G1 at sc hc hGM1 hGC1 ha1
      try dsimp only [tNext]
      refine ⟨.ref a0, rfl, ?_⟩
      refine while_by (fun σ G2 => ∃ (b : Addr) (ws : List V) (P : List Pr) (q : Pr), σ = [some (.int n), some v, some (.ref Da), some (.ref M), some (.ref Cc), some (.ref a0), some (.ref c), some (.ref b)] ∧ (∀ b o, b ≠ M → b ≠ c → G1 b = some o → G2 b = some o) ∧
          G2 M = some (.dT (metK (CL.flatten ++ P))) ∧ G2 c = some (.lst ws) ∧ DqA G2 ws (P.map pD) ∧ G2 b = some (.tup (pV q)) ∧ Path (stp n T) P q ∧ (P ++ [q])[0]? = some p0 ∧ (CL.flatten ++ P).Nodup ∧ (∀ x ∈ CL.flatten ++ P, x ∈ prs n) ∧ q ∈ prs n)
        (fun σ G2 => match G2 M with | some (.dT kvm) => 400 - kvm.length | _ => 0)
        ⟨a0, [], [], p0, rfl, fun _ _ _ _ h => h, by rw [List.append_nil]; exact hGM1, hc, .nil, ha1, ⟨fun i x h => by simp at h⟩, rfl, by rw [List.append_nil]; exact nd, by rw [List.append_nil]; exact sub, hp0⟩ ?_ ?_
      rotate_left
      · rintro σ G2 Q1 Q2 hq ⟨y, hy, z, hz, a, o, e1, e2, kk, e3, e4⟩
        exact ⟨y, hy, z, hz, a, o, e1, e2, kk, e3, hq _ _ e4⟩
      rintro σ G2 ⟨b, ws, P, qq, rfl, k2, hM2, hc2, qws, hb2, hpa, hst0, nd2, sub2, hqp⟩
      have hLl := sub_len nd2 sub2
      have hwl : ws.length ≤ 192 := by
        rw [qws.len, List.length_map]
        rw [List.length_append] at hLl
        omega
      refine ⟨.ref b, rfl, .ref M, rfl, M, valV (metK (CL.flatten ++ P)) (pK qq), rfl, DGet.t hM2 hb2, _, rfl, ?_⟩
      rw [metK_val]
      by_cases hin : qq ∈ CL.flatten ++ P
      · rw [if_pos hin]
        refine iteF ?_
        try dsimp only [tNext]
        refine ⟨.ref c, rfl, by show 0 ≤ sizeLine; decide, fun e ne => ?_⟩
        have s5 := same_new (o := .lst []) ne
        refine ⟨c, e, ws, rfl, rfl, s5 _ _ hc2, upd_same, _, rfl, ?_⟩
        have hM5 := s5 _ _ hM2
        have hc5 := s5 _ _ hc2
        have hC5 := s5 _ _ (k2 _ _ nCM ncC.symm hGC1)
        have s25 : ∀ b o, b ≠ M → G b = some o → upd G2 e (.lst []) b = some o := fun b o h1 h2 => s5 _ _ (k2 _ _ h1 (nfc _ _ h2) (sc _ _ h2))
        have of2 : Offs [M, Cc, Da] G2 := ⟨fun b hb => by
          simp only [List.mem_cons, List.not_mem_nil, or_false] at hb
          rcases hb with rfl | rfl | rfl
          · exact ⟨_, hM2, by intro xs z; cases z⟩
          · exact ⟨_, k2 _ _ nCM ncC.symm hGC1, by intro xs z; cases z⟩
          · exact ⟨_, k2 _ _ nDM ncD.symm (sc _ _ hGD), by intro xs z; cases z⟩⟩
        have qws5 : DqA (hidS [M, Cc, Da] (upd G2 e (.lst []))) ws (P.map pD) := DqA.upT (fun b xs hb => hidS_up s5 _ _ (of2.tup hb)) (pD_flat _) qws
        generalize upd G2 e (.lst []) = G5 at hM5 hc5 hC5 s25 qws5
        clear s5 ne
        have h25 : Same (hidS [M, Cc, Da] G) (hidS [M, Cc, Da] G5) := fun b o hb => by
          obtain ⟨h1, h2⟩ := hidS_some hb
          rw [hidS_ne h1]
          exact s25 _ _ (fun z => h1 (by rw [z]; simp)) h2
        have k5 : ∀ b o, b ≠ M → b ≠ Cc → H4 b = some o → G5 b = some o := fun b o h1 h2 h3 => s25 _ _ h1 (k _ _ h1 h2 h3)
        have p0in : p0 ∈ CL.flatten ++ P := by
          cases P with
          | nil =>
            have : qq = p0 := Option.some.inj hst0
            rw [← this]
            exact hin
          | cons x r =>
            have : x = p0 := Option.some.inj hst0
            rw [← this]
            exact List.mem_append_right _ List.mem_cons_self
        have hall' : ∀ (j : Nat) (p : Pr) (u : V), j < i + 1 → kvs[j]? = some (pK p, u) → p ∈ CL.flatten ++ P := fun j p u hj e => by
          rcases Nat.lt_or_ge j i with d | d
          · exact List.mem_append_left _ (hall j p u d e)
          · have : j = i := by omega
            rw [this, hk0] at e
            have := pK_inj (congrArg Prod.fst (Option.some.inj e))
            rw [← this]
            exact p0in
        cases hP : P with
        | nil =>
          subst hP
          obtain rfl : ws = [] := List.length_eq_zero_iff.mp qws.len
          rw [List.append_nil] at hM5 hall'
          exact iteF ⟨_, _, _, cs, CL, rfl, k5, hM5, hC5, qcs.up h25, cyc, nd, sub, by omega, hall'⟩
        | cons x r =>
          have hne : P ≠ [] := by rw [hP]; exact List.cons_ne_nil _ _
          have hws : ws.isEmpty = false := by
            cases ws with
            | nil =>
              have := qws.len
              rw [hP] at this
              simp at this
            | cons _ _ => rfl
          rw [hws]
          have hcy := path_close inj hpa hne nd2 sub2 cyc hin
          have efl : (CL ++ [P]).flatten = CL.flatten ++ P := by rw [List.flatten_append]; simp
          refine iteT ⟨.ref Cc, rfl, .inl ⟨rfl, _, SqL.of hC5⟩, .ref c, rfl, Cc, cs, .ref c, rfl, rfl, hC5, szl (by have h1 := qcs.len; have h2 := hst.len; rw [List.length_map] at h1; omega), _, _, _, cs ++ [.ref c], CL ++ [P], rfl, fun b o h1 h2 h3 => ?_, ?_, upd_same, ?_, fun C hC => ?_, by rw [efl]; exact nd2, by rw [efl]; exact sub2, by rw [List.length_append]; show _ + 1 ≤ _; omega, by rw [efl]; exact hall'⟩
          · rw [upd_ne h2]
            exact k5 _ _ h1 h2 h3
          · rw [upd_ne nCM.symm, efl]
            exact hM5
          · rw [List.map_append]
            have mu : Same (hidS [M, Cc, Da] G5) (hidS [M, Cc, Da] (upd G5 Cc (.lst (cs ++ [.ref c])))) := fun b o hb => by
              obtain ⟨h1, h2⟩ := hidS_some hb
              rw [hidS_ne h1, upd_ne (fun z => h1 (by rw [z]; simp))]
              exact h2
            refine dqa_snoc ((qcs.up h25).up mu) (.lst (xs := ws) (mu _ _ ?_) (qws5.up mu))
            rw [hidS_ne ncS]
            exact hc5
          · rcases List.mem_append.mp hC with d | d
            · exact cyc C d
            · rw [List.mem_singleton.mp d]
              exact hcy
      · rw [if_neg hin]
        refine iteT ?_
        refine ⟨.ref M, rfl, .ref b, rfl, M, _, rfl, DPut.t (k := pK qq) hM2 hb2 (szl (by rw [metK_len]; omega)), ?_⟩
        rw [metK_put hin]
        have hM3' : upd G2 M (.dT (metK (CL.flatten ++ P ++ [qq]))) M = some (.dT (metK (CL.flatten ++ P ++ [qq]))) := upd_same
        have t3 : TS G2 (upd G2 M (.dT (metK (CL.flatten ++ P ++ [qq])))) := fun b xs hb => by
          rw [upd_ne (ne_of hb hM2 (by intro z; cases z))]
          exact hb
        have k3 : ∀ b o, b ≠ M → G2 b = some o → upd G2 M (.dT (metK (CL.flatten ++ P ++ [qq]))) b = some o := fun b o h1 h2 => by rw [upd_ne h1]; exact h2
        generalize upd G2 M (.dT (metK (CL.flatten ++ P ++ [qq]))) = G3 at hM3' t3 k3
        have hc3 := k3 _ _ ncM hc2
        refine ⟨.ref c, rfl, .inl ⟨rfl, _, SqL.of hc3⟩, .ref b, rfl, c, ws, .ref b, rfl, rfl, hc3, szl (by omega), ?_⟩
        have t4 : TS G3 (upd G3 c (.lst (ws ++ [.ref b]))) := TS.lst hc3
        have k34 : ∀ b' o, b' ≠ c → G3 b' = some o → upd G3 c (.lst (ws ++ [.ref b])) b' = some o := fun b' o h1 h2 => by rw [upd_ne h1]; exact h2
        have hc4 : upd G3 c (.lst (ws ++ [.ref b])) c = some (.lst (ws ++ [.ref b])) := upd_same
        have hM4' := k34 _ _ ncM.symm hM3'
        have hb4 := t4 _ _ (t3 _ _ hb2)
        have qws4 := DqA.upT (t3.trans t4) (pD_flat _) qws
        have kk4 : ∀ b' o, b' ≠ M → b' ≠ c → G1 b' = some o → upd G3 c (.lst (ws ++ [.ref b])) b' = some o := fun b' o h1 h2 h3 => k34 _ _ h2 (k3 _ _ h1 (k2 _ _ h1 h2 h3))
        generalize upd G3 c (.lst (ws ++ [.ref b])) = G6 at hc4 hM4' hb4 qws4 kk4
        clear t3 t4 k3 k34 hM3' hc3
        have hD6 := kk4 _ _ nDM ncD.symm (sc _ _ hGD)
        obtain ⟨a', hva', ha'⟩ := hst.val qq hqp
        have ha6 : G6 a' = some (.tup (pV (stp n T qq))) := by
          have h1 := ts4 G k _ _ ha'
          exact kk4 _ _ (nfM _ _ ha') (nfc _ _ h1) (sc _ _ h1)
        try dsimp only [tNext]
        refine ⟨.ref Da, rfl, .ref b, rfl, Da, .ref a', rfl, .inr ⟨kvs, pK qq, b, .inr ⟨od, hD6⟩, rfl, hb4, hva'.symm⟩, ?_⟩
        refine ⟨⟨a', ws ++ [.ref b], P ++ [qq], stp n T qq, rfl, kk4, by rw [← List.append_assoc]; exact hM4', hc4, ?_, ha6, hpa.more, ?_, ?_, fun x hx => ?_, stp_in n1 okT hqp⟩, ?_⟩
        · rw [List.map_append]
          exact dqa_snoc qws4 (pD_at hb4)
        · rw [List.getElem?_append_left (by rw [List.length_append]; show 0 < _ + 1; omega)]
          exact hst0
        · rw [← List.append_assoc]
          refine List.nodup_append.mpr ⟨nd2, by simp, fun x hx y hy z => ?_⟩
          rw [List.mem_singleton.mp hy] at z
          exact hin (z ▸ hx)
        · rw [← List.append_assoc] at hx
          rcases List.mem_append.mp hx with d | d
          · exact sub2 x d
          · rw [List.mem_singleton.mp d]
            exact hqp
        · show (match G6 M with | some (.dT kvm) => 400 - kvm.length | _ => 0) < (match G2 M with | some (.dT kvm) => 400 - kvm.length | _ => 0)
          rw [hM4', hM2]
          show 400 - (metK (CL.flatten ++ P ++ [qq])).length < 400 - (metK (CL.flatten ++ P)).length
          rw [metK_len, metK_len, List.length_append (as := CL.flatten ++ P)]
          show 400 - (_ + 1) < _
          omega
end
end Kr
namespace Kr
open PySem PySem.Spec PyProof.Rows L2
/-- a row of behind -/
def rowF (n : Nat) (f : Pr → Nat) (i : Nat) : List Int := (List.range n).map fun x => if (i, x) ∈ prs n then (f (i, x) : Int) else -1
structure BehAt (n : Nat) (f : Pr → Pr) (H : Hp) (kvs : List (List Key × V)) : Prop where
  keys : ∀ kv ∈ kvs, ∃ p ∈ prs n, kv.1 = pK p
  val : ∀ p ∈ prs n, ∃ a, valV kvs (pK p) = some (.ref a) ∧ H a = some (.tup (pV (f p)))
theorem BehAt.up {n : Nat} {f : Pr → Pr} {H H' : Hp} {kvs : List (List Key × V)} (h : BehAt n f H kvs) (s : TS H H') : BehAt n f H' kvs := ⟨h.keys, fun p hp => let ⟨a, x, y⟩ := h.val p hp; ⟨a, x, s _ _ y⟩⟩
theorem BehAt.none {n : Nat} {f : Pr → Pr} {H : Hp} {kvs : List (List Key × V)} (h : BehAt n f H kvs) {p : Pr} (hp : p ∉ prs n) : valV kvs (pK p) = none := by
  cases e : valV kvs (pK p) with
  | none => rfl
  | some v =>
    obtain ⟨i, hi⟩ := valV_mem e
    obtain ⟨q, hq, eq⟩ := h.keys _ (List.mem_of_getElem? hi)
    exact absurd (pK_inj eq ▸ hq) hp
def spEntOf : Sp := fun vs H Q _ => ∃ (n i : Nat) (D : Addr) (kvs : List (List Key × V)) (f : Pr → Pr), vs = [.int (n : Int), .int (i : Int), .ref D] ∧ n ≤ 6 ∧ H D = some (.dT kvs) ∧ BehAt n f H kvs ∧ ∀ H' t, Same H H' → H' t = some (.tup ((rowF n (fun p => (f p).2) i).map V.int)) → Q (.ref t) H'
def spPower : Sp := fun vs H Q _ => ∃ (n : Nat) (v : V) (T : List (List Int)) (k : Int), vs = [.int (n : Int), v, .int k] ∧ n ≤ 6 ∧ Dq H v (tabD T) ∧ TabOk n T ∧ ∀ H' r, Same H H' → Dq H' r (tabD (powT n T k)) → Q r H'
section
variable {P : Program} {w : World} {K : PySem.W.Frag} {mg : Str → Option Value} {base : Heap}
abbrev nEo : List Str := ["n", "number", "behind", "place"]
theorem o_entOf (D0 : Df K mg "_entry_of" sEntryOf ["n", "number", "behind"]) (B : Bi mg) : Ok P w K mg base 1 "_entry_of" ["n", "number", "behind"] spEntOf := by
  have scEo : FnScope nEo ["n", "number", "behind"] (defScope sEntryOf) := ⟨rfl, rfl, rfl, by decide +kernel, rfl, by decide +kernel, by decide +kernel⟩
  refine D0.ok fun f fd F => F.ok scEo (fun vs H Q E h => ?_) (fun cdv A outer s H vs Q E hr h => ?_)
  · obtain ⟨n, i, D, kvs, f, rfl, _⟩ := h
    rfl
  · obtain ⟨n, i, D, kvs, g, rfl, n1, hD, beh, q⟩ := h
    have hu1 := hu_of hr
    refine ⟨_, pss_one (ps_ret (pe_callTy call_tuple_of (by rfl) B.tuple (by decide +kernel) (pa_cons (pe_lc (own := [("place", 3)]) (g := gName 3) (tt := tYes) (te := tIf (tB (tDIn (tTup (tCons (tVar 1) (tCons (tVar 3) tNil))) (tVar 2))) (tOp (rIxT K) (tDGet (tVar 2) (tTup (tCons (tVar 1) (tCons (tVar 3) tNil)))) (tC (.int 1))) (tUn (rU fun i => .int (-i)) (tC (.int 1)))) rfl scEo.nd (pi_range1 (by rfl) B.range (pa_cons (pv 0) pa_nil)) (blkOk_by (own := [("place", 3)]) (N := nEo) (sc := defScope sEntryOf) (by decide +kernel)) (fun _ _ _ _ _ => pg_name (i := 3) scEo.nd rfl (.inl rfl)) (fun _ _ _ _ _ => pts_nil)
      (fun _ _ _ _ _ => by exact (pe_ifExp (pt_cmp (pc_din hu1 (pe_tup (pa_cons (pv 1) (pa_cons (pv 3) pa_nil))) (pv 2)) (by rfl)) (pe_ix (r := rIxT K) ix_tup (pe_dget hu1 (pv 2) (pe_tup (pa_cons (pv 1) (pa_cons (pv 3) pa_nil))) (fun _ _ => rfl)) pe_int (fun _ _ => rfl)) (pe_un un_neg pe_int)))) pa_nil))), ?_⟩
    refine ⟨.int n, rfl, (n : Int), rfl, by omega, by omega, fun W nW => ?_⟩
    rw [Int.toNat_natCast]
    refine lc_itF (walk_rg (n := n)) (fun x => .int (if (i, x) ∈ prs n then ((g (i, x)).2 : Int) else -1)) nW (by omega) (fun _ _ => rfl) (fun _ _ => trivial) (fun x y G G' C Cn hx s2 hy c => ?_) (fun G bs s2 hW qb => ?_)
    · obtain ⟨rfl, rfl⟩ := hy
      refine ⟨rfl, ?_⟩
      dsimp only [tYes]
      rw [if_pos rfl]
      refine ⟨.int i, rfl, .int x, rfl, by show 2 ≤ sizeLine; decide, fun t nt => ?_⟩
      have st := same_new (o := .tup [.int i, .int x]) nt
      have ht : upd G' t (.tup [.int i, .int x]) t = some (.tup ((pK (i, x)).map kV)) := upd_same
      have hD1 := st _ _ (s2 _ _ hD)
      have beh1 := (beh.up (TS.of s2)).up (TS.of st)
      generalize upd G' t (.tup [.int i, .int x]) = G1 at st ht hD1 beh1
      refine ⟨.ref D, rfl, D, valV kvs (pK (i, x)), rfl, DGet.t hD1 ht, _, rfl, ?_⟩
      by_cases hm : (i, x) ∈ prs n
      · obtain ⟨a, hva, ha⟩ := beh1.val _ hm
        rw [if_pos hm] at c
        rw [hva]
        refine iteT ⟨.ref D, rfl, .int i, rfl, .int x, rfl, by show 2 ≤ sizeLine; decide, fun t2 nt2 => ?_⟩
        have st2 := same_new (o := .tup [.int i, .int x]) nt2
        have ht2 : upd G1 t2 (.tup [.int i, .int x]) t2 = some (.tup ((pK (i, x)).map kV)) := upd_same
        refine ⟨D, .ref a, rfl, ?_, a, _, 1, .int ((g (i, x)).2 : Int), rfl, rfl, SqT.of (st2 _ _ ha), atI_nat (j := 1) rfl, c _ _ (st.trans st2) (.int _)⟩
        rw [← hva]
        exact DGet.t (st2 _ _ hD1) ht2
      · rw [beh1.none hm]
        rw [if_neg hm] at c
        exact iteF ⟨1, rfl, c _ _ st (.int _)⟩
    · have eb : bs = (rowF n (fun p => (g p).2) i).map V.int := dqa_int (by unfold rowF; rw [List.map_map]; exact qb)
      subst eb
      exact ⟨W, _, rfl, .inl ⟨SqL.of hW, fun t nt => q _ _ (s2.trans (same_new nt)) upd_same⟩⟩
end
end Kr
namespace Kr
open PySem PySem.Spec PyProof.Rows L2
theorem Rounds.fl {n : Nat} {S : Pr → Pr} {CL : List (List Pr)} (h : Rounds n S CL) {p : Pr} (hp : p ∈ prs n) : p ∈ CL.flatten := List.mem_flatten.mpr (h.all p hp)
/-- behind, as far as some circles are done -/
structure BehP (n : Nat) (f : Pr → Pr) (H : Hp) (L : List Pr) (kvs : List (List Key × V)) : Prop where
  keys : ∀ kv ∈ kvs, ∃ p ∈ prs n, kv.1 = pK p
  val : ∀ p ∈ L, ∃ a, valV kvs (pK p) = some (.ref a) ∧ H a = some (.tup (pV (f p)))
theorem BehP.up {n : Nat} {f : Pr → Pr} {H H' : Hp} {L : List Pr} {kvs : List (List Key × V)} (h : BehP n f H L kvs) (s : TS H H') : BehP n f H' L kvs := ⟨h.keys, fun p hp => let ⟨a, x, y⟩ := h.val p hp; ⟨a, x, s _ _ y⟩⟩
theorem BehP.put {n : Nat} {f : Pr → Pr} {H : Hp} {L : List Pr} {kvs : List (List Key × V)} {p : Pr} {a : Addr} (h : BehP n f H L kvs) (hp : p ∈ prs n) (ha : H a = some (.tup (pV (f p)))) : BehP n f H (L ++ [p]) (putK kvs (pK p) (.ref a)) := by
  refine ⟨putK_keys (P := fun k => ∃ p ∈ prs n, k = pK p) h.keys ⟨p, hp, rfl⟩, fun q hq => ?_⟩
  rw [valV_put]
  by_cases e : q = p
  · subst e
    rw [if_pos rfl]
    exact ⟨a, rfl, ha⟩
  · rw [if_neg fun z => e (pK_inj z)]
    rcases List.mem_append.mp hq with c | c
    · exact h.val q c
    · exact absurd (List.mem_singleton.mp c) e
theorem flat_takeC {α : Type} {L : List (List α)} {i : Nat} {C : List α} (h : L[i]? = some C) : (L.take (i + 1)).flatten = (L.take i).flatten ++ C := by
  rw [List.take_add_one, h, List.flatten_append]
  simp
section
variable {P : Program} {w : World} {K : PySem.W.Frag} {mg : Str → Option Value} {base : Heap}
abbrev nPo : List Str := ["n", "table", "k", "behind", "circle", "spot", "pair", "number"]
theorem f_power {f : Addr} {fd : FuncData} (F : Fun K "power" "power" sPower f fd) (B : Bi mg) (ci : Ok P w K mg base 6 "_circles" ["n", "table"] spCircles) (eo : Ok P w K mg base 1 "_entry_of" ["n", "number", "behind"] spEntOf) : FnOk P w K mg base CX0 7 f fd ["n", "table", "k"] spPower := by
  have scPo : FnScope nPo ["n", "table", "k"] (defScope sPower) := ⟨rfl, rfl, rfl, by decide +kernel, rfl, by decide +kernel, by decide +kernel⟩
  refine F.ok scPo (fun vs H Q E h => ?_) (fun cdv A outer s H vs Q E hr h => ?_)
  · obtain ⟨n, v, T, k, rfl, _⟩ := h
    rfl
  · obtain ⟨n, v, T, k, rfl, n1, hv, okT, q⟩ := h
    have hu1 := hu_of hr
    have hr1 := hr.mono (by decide : 1 ≤ 6)
    refine ⟨_, pss_cons (ps_set (i := 3) scPo.nd rfl (.inr rfl) pe_dnewT)
      (pss_cons (ps_for PassesOwn.never rfl (pi_list (pe_fn ci hr (by rfl) (pa_cons (pv 0) (pa_cons (pv 1) pa_nil)))) (pg_name (i := 4) scPo.nd rfl (.inl rfl))
        (pss_one (ps_for PassesOwn.never rfl (pi_enum (by rfl) B.enumerate (pa_cons (pv 4) pa_nil)) (pg_tup rfl (pgs_cons (pg_name (i := 5) scPo.nd rfl (.inl rfl)) (pgs_cons (pg_name (i := 6) scPo.nd rfl (.inl rfl)) pgs_nil)))
          (pss_one (ps_dput hu1 (pv 3) (pv 6) (pe_ix ix_list (pv 4) (pe_op op_mod (pe_op op_add (pv 5) (pv 2)) (pe_callB call_len_seq (by rfl) B.len boot_len (pa_cons (pv 4) pa_nil))) (fun _ _ => rfl)) rfl)))))
      (pss_one (ps_ret (pe_callTy call_tuple_of (by rfl) B.tuple (by decide +kernel) (pa_cons (pe_lc (own := [("number", 7)]) (g := gName 7) (tt := tYes) rfl scPo.nd (pi_range1 (by rfl) B.range (pa_cons (pe_callB call_len_seq (by rfl) B.len boot_len (pa_cons (pv 1) pa_nil)) pa_nil)) (blkOk_by (own := [("number", 7)]) (N := nPo) (sc := defScope sPower) (by decide +kernel)) (fun _ _ _ _ _ => pg_name (i := 7) scPo.nd rfl (.inl rfl)) (fun _ _ _ _ _ => pts_nil) (fun _ _ _ _ _ => (pe_fn eo hr1 (by rfl) (pa_cons (pv 0) (pa_cons (pv 7) (pa_cons (pv 3) pa_nil)))))) pa_nil))))), ?_⟩
    refine fun D nD => ?_
    have s0 := same_new (o := .dT []) nD
    have hD : upd H D (.dT []) D = some (.dT []) := upd_same
    have hv0 := hv.up s0
    have nf : ∀ b o, H b = some o → b ≠ D := fun b o hb => ne_of_none hb nD
    generalize upd H D (.dT []) = H0 at s0 hD hv0
    refine ⟨.int n, rfl, v, rfl, n, v, T, rfl, n1, hv0, okT, fun H1 c cs CL s1 nc hc qcs rd hcl _ => ?_⟩
    have hsl : cs.length = CL.length := by rw [qcs.len, List.length_map]
    have hD1 := s1 _ _ hD
    have ncD : c ≠ D := fun z => by rw [z, hD] at nc; cases nc
    have hlen : ∀ C ∈ CL, C.length ≤ 192 := fun C hC => rd.len n1 hC
    refine ⟨c, rfl, ⟨_, SqL.of hc⟩, for_it (walk_list (K := K) (a := c) (xs := cs)) (fun i σ G => ∃ (v4 v5 v6 : Option V) (kvs : List (List Key × V)), σ = [some (.int n), some v, some (.int k), some (.ref D), v4, v5, v6, none] ∧ (∀ b o, b ≠ D → H1 b = some o → G b = some o) ∧ G D = some (.dT kvs) ∧ kvs.length ≤ 192 * i ∧ BehP n (powS (stp n T) k) G (CL.take i).flatten kvs)
      ⟨_, _, _, [], rfl, fun _ _ _ h => h, hD1, Nat.zero_le _, ⟨(fun _ h => nomatch h), (fun _ h => nomatch h)⟩⟩ (fun i σ G _ ⟨_, _, _, _, _, k, _⟩ => SqL.of (k _ _ ncD hc)) ?_ ?_⟩
    · rintro i x σ _ G hi ⟨v4, v5, v6, kvs, rfl, kG, hG, hkl, beh⟩ ⟨rfl, hx⟩
      obtain ⟨d, hd, hdq⟩ := qcs.get hx
      rw [List.getElem?_map] at hd
      cases hC : CL[i]? with
      | none => rw [hC] at hd; cases hd
      | some C =>
        rw [hC] at hd
        cases hd
        cases hdq with
        | @lst ca xs _ hca qx =>
        have hCm := List.mem_of_getElem? hC
        have hxl : xs.length = C.length := by rw [qx.len, List.length_map]
        have hCl := hlen C hCm
        have cy := rd.cyc C hCm
        have hcD : ca ≠ D := fun z => by
          rw [z, hD1] at hca
          cases hca
        have hi2 : i < 1000 := by omega
        refine ⟨.ref ca, rfl, ca, xs, rfl, SqL.of (kG _ _ hcD hca), for_it walk_enum (fun j σ G2 => ∃ (v5 v6 : Option V) (kvs : List (List Key × V)), σ = [some (.int n), some v, some (.int k), some (.ref D), some (.ref ca), v5, v6, none] ∧ (∀ b o, b ≠ D → H1 b = some o → G2 b = some o) ∧ G2 D = some (.dT kvs) ∧ kvs.length ≤ 192 * i + j ∧ BehP n (powS (stp n T) k) G2 ((CL.take i).flatten ++ C.take j) kvs)
          ⟨_, _, kvs, rfl, kG, hG, by omega, by rw [List.take_zero, List.append_nil]; exact beh⟩ (fun j σ G2 _ ⟨_, _, _, _, k2, _⟩ => SqL.of (k2 _ _ hcD hca)) ?_ ?_⟩
        · rintro j _ σ G2 _ hj ⟨v5, v6, kvs, rfl, k2, hG2, hkl2, beh2⟩ ⟨t, x, y, rfl, nt, rfl, e1, e2⟩
          cases Option.some.inj e1
          obtain ⟨p, hp, a0, rfl, ha0⟩ := pD_get qx e2
          have hpp : p ∈ prs n := rd.sub C hCm p (List.mem_of_getElem? hp)
          have st := same_new (o := .tup [.int (j : Nat), .ref a0]) nt
          refine ⟨t, [.int (j : Nat), .ref a0], rfl, SqT.of upd_same, rfl, .int (j : Nat), [.ref a0], rfl, .ref a0, [], rfl, rfl, ?_⟩
          have hpow := cy.pow hCl hp k
          have hm0 : 0 ≤ ((j : Int) + k) % (C.length : Int) := Int.emod_nonneg _ (by have := cy.ne; omega)
          obtain ⟨m, hm⟩ : ∃ m : Nat, ((j : Int) + k) % (C.length : Int) = m := ⟨_, (Int.toNat_of_nonneg hm0).symm⟩
          rw [hm, Int.toNat_natCast] at hpow
          obtain ⟨w1, hw1⟩ : ∃ w1, xs[m]? = some w1 := ⟨_, List.getElem?_eq_getElem (by rw [hxl]; exact (List.getElem?_eq_some_iff.mp hpow).1)⟩
          obtain ⟨p', hp', a1, rfl, ha1⟩ := pD_get qx hw1
          rw [hpow] at hp'
          cases Option.some.inj hp'
          have k3 : ∀ b o, b ≠ D → H1 b = some o → upd G2 t (.tup [.int (j : Nat), .ref a0]) b = some o := fun b o h1 h2 => st _ _ (k2 _ _ h1 h2)
          have hG3 := st _ _ hG2
          have beh3 := beh2.up (TS.of st)
          generalize upd G2 t (.tup [.int (j : Nat), .ref a0]) = G3 at k3 hG3 beh3
          have na0 : a0 ≠ D := ne_of ha0 hD1 (by intro z; cases z)
          have na1 : a1 ≠ D := ne_of ha1 hD1 (by intro z; cases z)
          refine ⟨.ref ca, rfl, .int j, rfl, .int k, rfl, _, _, rfl, rfl, .ref ca, rfl, ca, xs, rfl, .inl (SqL.of (k3 _ _ hcD hca)), _, _, rfl, rfl, by have := cy.ne; omega, ca, xs, m, _, rfl, by rw [hxl]; exact congrArg V.int hm, SqL.of (k3 _ _ hcD hca), atI_nat hw1, ?_⟩
          refine ⟨.ref D, rfl, .ref a0, rfl, D, _, rfl, DPut.t (k := pK p) hG3 (k3 _ _ na0 ha0) ?_, ?_⟩
          · rw [sizeLine_eq]
            omega
          · have ts : TS G3 (upd G3 D (.dT (putK kvs (pK p) (.ref a1)))) := fun b ys hb => by
              rw [upd_ne (ne_of hb hG3 (by intro z; cases z))]
              exact hb
            have hlp := length_putK kvs (pK p) (V.ref a1)
            refine ⟨_, _, putK kvs (pK p) (.ref a1), rfl, fun b o h1 h2 => by rw [upd_ne h1]; exact k3 _ _ h1 h2, upd_same, by omega, ?_⟩
            rw [List.take_add_one, hp, ← List.append_assoc]
            exact (beh3.put hpp (k3 _ _ na1 ha1)).up ts
        · rintro σ G2 ⟨v5, v6, kvs, rfl, k2, hG2, hkl2, beh2⟩
          rw [hxl, List.take_length, ← flat_takeC hC] at beh2
          exact ⟨_, _, _, kvs, rfl, k2, hG2, by omega, beh2⟩
    · rintro σ G ⟨v4, v5, v6, kvs, rfl, kG, hG, hkl, beh⟩
      have beh0 : BehAt n (powS (stp n T) k) G kvs := ⟨beh.keys, fun p hp => beh.val p (by rw [hsl, List.take_length]; exact rd.fl hp)⟩
      have sHG : Same H G := fun b o hb => kG _ _ (nf _ _ hb) (s1 _ _ (s0 _ _ hb))
      obtain ⟨va, es, rfl, hva, qe⟩ := Dq.tup_inv (hv.up sHG)
      have hTl := okT.len n1
      have hel : es.length = 2 ^ n := by rw [qe.len, List.length_map, hTl]
      have hp64 : 2 ^ n ≤ 64 := by have := all_few n (by omega); rw [all_len n (by omega)] at this; exact this
      refine ⟨.ref va, rfl, va, es, rfl, .inr (SqT.of hva), (es.length : Int), rfl, by omega, by omega, fun W nW => ?_⟩
      rw [Int.toNat_natCast, hel]
      refine lc_itF (walk_rg (n := 2 ^ n)) (fun i => entD (rowF n (fun p => (powS (stp n T) k p).2) i)) nW (by omega) (fun _ _ => ent_flat _) (fun _ _ => trivial) (fun x y G1 G' C Cn hx s2 hy c => ?_) (fun G1 bs s2 hW qb => ?_)
      · obtain ⟨rfl, rfl⟩ := hy
        refine ⟨rfl, ?_⟩
        dsimp only [tYes]
        rw [if_pos rfl]
        refine ⟨.int n, rfl, .int x, rfl, .ref D, rfl, n, x, D, kvs, powS (stp n T) k, rfl, n1, s2 _ _ hG, beh0.up (TS.of s2), fun H' t s3 ht => ?_⟩
        exact c _ _ s3 (ent_at ht)
      · refine ⟨W, _, rfl, .inl ⟨SqL.of hW, fun t nt => q _ _ (sHG.trans (s2.trans (same_new nt))) ?_⟩⟩
        exact .tup upd_same (by rw [show (powT n T k).map entD = _ from List.map_map ..]; exact qb.up (same_new nt))
end
end Kr
namespace Kr
open PySem PySem.Spec PyProof.Rows L2
/-! ### the tables of what programs do -/
def tabM (n : Nat) : Mea (List (List Int)) := ⟨fun d => deedT n d.1 d.2.1 d.2.2, fun as => as.foldl (bothT n) (stillT n), turnT n, fun T k => powT n T (k : Int)⟩
theorem fold_ok {n : Nat} (hn : n ≤ 6) : ∀ {as : List (List (List Int))} {T : List (List Int)}, TabOk n T → (∀ a ∈ as, TabOk n a) → TabOk n (as.foldl (bothT n) T)
  | [], _, h, _ => h
  | a :: as, T, h, g => fold_ok hn (as := as) (T := bothT n T a) (h.both hn (g a List.mem_cons_self)) fun x hx => g x (List.mem_cons_of_mem _ hx)
def tabR (n : Nat) (hn : n ≤ 6) : MeaR (List (List Int)) where
  toMea := tabM n
  rep := fun T v H => Dq H v (tabD T)
  flds := fun fs => fs = [(("_n" : Str), V.int (n : Int))]
  ok := TabOk n
  okD := Deed n
  most := 400
  up := fun s h => Dq.upT s (tab_flat _) h
  cD := fun h => h.ok hn
  cR := fun h _ => fold_ok hn (still_ok hn) h
  cB := fun h => h.turn hn
  cT := fun h _ => powT_ok hn h _
  nD := fun h => by rw [h]; rfl
  nR := fun h => by rw [h]; rfl
  nB := fun h => by rw [h]; rfl
  nT := fun h => by rw [h]; rfl
abbrev sTmInit : Stmt := inClass sTableMeasure 0
abbrev sTmDeed : Stmt := inClass sTableMeasure 1
abbrev sTmRow : Stmt := inClass sTableMeasure 2
abbrev sTmBack : Stmt := inClass sTableMeasure 3
abbrev sTmTimes : Stmt := inClass sTableMeasure 4
def spMakeN (C : Addr) : Sp := fun vs H Q _ => ∃ (x dx : Addr) (n : Nat), vs = [.ref x, .int (n : Int)] ∧ H x = some (.ins C dx []) ∧ Q .non (upd H x (.ins C dx [(("_n" : Str), V.int (n : Int))]))
theorem deed_inv {H : Hp} {v : V} {d : Mv} (h : Dq H v (deedD d)) : ∃ a q, v = .ref a ∧ H a = some (.tup [.ref q, .int (d.2.1 : Nat), .int (d.2.2 : Nat)]) ∧ H q = some (.tup (lv d.1)) := by
  obtain ⟨a, xs, rfl, ha, qx⟩ := Dq.tup_inv h
  cases qx with
  | cons q1 qx =>
  cases qx with
  | cons q2 qx =>
  cases qx with
  | cons q3 qx =>
  cases qx
  cases q2
  cases q3
  obtain ⟨q, ys, rfl, hq, qy⟩ := Dq.tup_inv q1
  refine ⟨a, q, rfl, ha, ?_⟩
  have e : d.1.map (fun (x : Nat) => PyData.int (x : Int)) = (d.1.map fun (x : Nat) => (x : Int)).map PyData.int := by rw [List.map_map]; rfl
  rw [e] at qy
  rw [hq, dqa_int qy, List.map_map]
  rfl
section
variable {P : Program} {w : World} {K : PySem.W.Frag} {mg : Str → Option Value} {base : Heap}
variable {C : Addr}
theorem f_tmInit {f : Addr} {fd : FuncData} (F : Fun K "__init__" "TableMeasure.__init__" sTmInit f fd) (CL : Cls K C) (nN : NoAttr K C "_n") : FnOk P w K mg base CX0 1 f fd ["self", "n"] (spMakeN C) := by
  have sc : FnScope ["self", "n"] ["self", "n"] (defScope sTmInit) := ⟨rfl, rfl, rfl, by decide +kernel, rfl, by decide +kernel, by decide +kernel⟩
  refine F.ok sc (fun vs H Q E h => ?_) (fun cdv A outer s H vs Q E hr h => ?_)
  · obtain ⟨_, _, _, rfl, _⟩ := h
    rfl
  · obtain ⟨x, dx, n, rfl, hx, q⟩ := h
    exact ⟨_, pss_one (ps_fld (pv 0) (pv 1) rfl), .int n, rfl, .ref x, rfl, x, C, dx, [], rfl, hx, CL, nN, by decide, q⟩
theorem f_tmDeed {f : Addr} {fd : FuncData} {n : Nat} {hn : n ≤ 6} (F : Fun K "of_deed" "TableMeasure.of_deed" sTmDeed f fd) (CL : Cls K C) (nN : NoAttr K C "_n") (dt : Ok P w K mg base 3 "deed_table" ["n", "deed"] spDeedT) : FnOk P w K mg base CX0 8 f fd ["self", "deed"] ((tabR n hn).spD C) := by
  have sc : FnScope ["self", "deed"] ["self", "deed"] (defScope sTmDeed) := ⟨rfl, rfl, rfl, by decide +kernel, rfl, by decide +kernel, by decide +kernel⟩
  refine F.ok sc (fun vs H Q E h => ?_) (fun cdv A outer s H vs Q E hr h => ?_)
  · obtain ⟨_, _, _, rfl, _⟩ := h
    rfl
  · obtain ⟨m, v, d, rfl, ⟨ma, dx, fs, rfl, hm, rfl⟩, hv, hd, q⟩ := h
    have hr3 := hr.mono (show 3 ≤ 7 by decide)
    obtain ⟨da, qa, rfl, h1, h2⟩ := deed_inv hv
    have a1 := Deed.ab hd
    have a2 := Deed.bn hd
    have a3 := (Deed.asc hd).len
    exact ⟨_, pss_one (ps_ret (pe_fn dt hr3 (by rfl) (pa_cons (pe_fld (pv 0) rfl) (pa_cons (pv 1) pa_nil)))), .ref ma, rfl, ma, C, dx, _, _, rfl, hm, CL, nN, rfl, .ref da, rfl, n, da, qa, d.1, d.2.1, d.2.2, rfl, hn, h1, h2, by omega, by omega, a2, fun H' r s1 h => q H' r s1 h⟩
theorem f_tmBack {f : Addr} {fd : FuncData} {n : Nat} {hn : n ≤ 6} (F : Fun K "of_back" "TableMeasure.of_back" sTmBack f fd) (CL : Cls K C) (nN : NoAttr K C "_n") (un : Ok P w K mg base 5 "undone" ["n", "table"] spUndone) : FnOk P w K mg base CX0 8 f fd ["self", "worth"] ((tabR n hn).spB C) := by
  have sc : FnScope ["self", "worth"] ["self", "worth"] (defScope sTmBack) := ⟨rfl, rfl, rfl, by decide +kernel, rfl, by decide +kernel, by decide +kernel⟩
  refine F.ok sc (fun vs H Q E h => ?_) (fun cdv A outer s H vs Q E hr h => ?_)
  · obtain ⟨_, _, _, rfl, _⟩ := h
    rfl
  · obtain ⟨m, v, T, rfl, ⟨ma, dx, fs, rfl, hm, rfl⟩, hv, hT, q⟩ := h
    have hr5 := hr.mono (show 5 ≤ 7 by decide)
    exact ⟨_, pss_one (ps_ret (pe_fn un hr5 (by rfl) (pa_cons (pe_fld (pv 0) rfl) (pa_cons (pv 1) pa_nil)))), .ref ma, rfl, ma, C, dx, _, _, rfl, hm, CL, nN, rfl, v, rfl, n, v, T, rfl, hn, hv, hT, fun H' r s1 h => q H' r s1 h⟩
theorem f_tmTimes {f : Addr} {fd : FuncData} {n : Nat} {hn : n ≤ 6} (F : Fun K "of_times" "TableMeasure.of_times" sTmTimes f fd) (CL : Cls K C) (nN : NoAttr K C "_n") (po : Ok P w K mg base 7 "power" ["n", "table", "k"] spPower) : FnOk P w K mg base CX0 8 f fd ["self", "worth", "k"] ((tabR n hn).spT C) := by
  have sc : FnScope ["self", "worth", "k"] ["self", "worth", "k"] (defScope sTmTimes) := ⟨rfl, rfl, rfl, by decide +kernel, rfl, by decide +kernel, by decide +kernel⟩
  refine F.ok sc (fun vs H Q E h => ?_) (fun cdv A outer s H vs Q E hr h => ?_)
  · obtain ⟨_, _, _, _, rfl, _⟩ := h
    rfl
  · obtain ⟨m, v, T, k, rfl, ⟨ma, dx, fs, rfl, hm, rfl⟩, hv, hT, hk, q⟩ := h
    exact ⟨_, pss_one (ps_ret (pe_fn po hr (by rfl) (pa_cons (pe_fld (pv 0) rfl) (pa_cons (pv 1) (pa_cons (pv 2) pa_nil))))), .ref ma, rfl, ma, C, dx, _, _, rfl, hm, CL, nN, rfl, v, rfl, .int (k : Int), rfl, n, v, T, (k : Int), rfl, hn, hv, hT, fun H' r s1 h => q H' r s1 h⟩
theorem f_tmRow {f : Addr} {fd : FuncData} {n : Nat} {hn : n ≤ 6} (F : Fun K "of_row" "TableMeasure.of_row" sTmRow f fd) (CL : Cls K C) (nN : NoAttr K C "_n") (st : Ok P w K mg base 4 "still" ["n"] spStill) (bo : Ok P w K mg base 5 "both" ["n", "one", "other"] spBoth) : FnOk P w K mg base CX0 8 f fd ["self", "worths"] ((tabR n hn).spR C) := by
  have sc : FnScope ["self", "worths", "table", "worth"] ["self", "worths"] (defScope sTmRow) := ⟨rfl, rfl, rfl, by decide +kernel, rfl, by decide +kernel, by decide +kernel⟩
  refine F.ok sc (fun vs H Q E h => ?_) (fun cdv A outer s H vs Q E hr h => ?_)
  · obtain ⟨_, _, _, _, rfl, _⟩ := h
    rfl
  · obtain ⟨m, a, us, as, rfl, ⟨ma, dx, fs, rfl, hm, rfl⟩, ha, hul, has, hus, hok, q⟩ := h
    have hr4 := hr.mono (show 4 ≤ 7 by decide)
    have hr5 := hr.mono (show 5 ≤ 7 by decide)
    refine ⟨_, pss_cons (ps_set (i := 2) sc.nd rfl (.inl rfl) (pe_fn st hr4 (by rfl) (pa_cons (pe_fld (pv 0) rfl) pa_nil)))
      (pss_cons (ps_for PassesOwn.never rfl (pi_list (pv 1)) (pg_name (i := 3) sc.nd rfl (.inl rfl))
        (pss_one (ps_set (i := 2) sc.nd rfl (.inl rfl) (pe_fn bo hr5 (by rfl) (pa_cons (pe_fld (pv 0) rfl) (pa_cons (pv 2) (pa_cons (pv 3) pa_nil)))))))
      (pss_one (ps_ret (pv 2)))), ?_⟩
    refine ⟨.ref ma, rfl, ma, C, dx, _, _, rfl, hm, CL, nN, rfl, n, rfl, hn, fun H1 sv s1 h1 => ?_⟩
    dsimp only [tNext]
    refine ⟨.ref a, rfl, a, rfl, ⟨us, SqL.of (s1 _ _ ha)⟩, for_it (walk_list (K := K) (a := a) (xs := us)) (fun i σ G => ∃ (v2 : V) (v3 : Option V), σ = [some (.ref ma), some (.ref a), some v2, v3] ∧ Same H G ∧ Dq G v2 (tabD ((as.take i).foldl (bothT n) (stillT n)))) ⟨sv, none, rfl, s1, h1⟩ (fun _ _ _ _ ⟨_, _, _, sm, _⟩ => SqL.of (sm _ _ ha)) ?_ ?_⟩
    · rintro i x σ _ G hi ⟨v2, v3, rfl, sm, h2⟩ ⟨rfl, hx⟩
      have hx := hx
      obtain ⟨T, hT⟩ : ∃ T, as[i]? = some T := ⟨_, List.getElem?_eq_getElem (by rw [← hul]; exact hi)⟩
      have okT := hok T (List.mem_of_getElem? hT)
      have okF : TabOk n ((as.take i).foldl (bothT n) (stillT n)) := fold_ok hn (still_ok hn) fun y hy => hok y (List.mem_of_mem_take hy)
      obtain ⟨b1, b2, b3, b4⟩ := okF.both_in hn
      obtain ⟨b5, b6, b7, b8⟩ := TabOk.both_in hn okT
      refine ⟨.ref ma, rfl, ma, C, dx, _, _, rfl, sm _ _ hm, CL, nN, rfl, v2, rfl, x, rfl, n, v2, x, _, T, rfl, hn, h2, Dq.upT (TS.of sm) (tab_flat T) (hus i x T hx hT), b1, b2, b7, b8, fun H3 r s3 h3 => ?_⟩
      refine ⟨r, _, rfl, sm.trans s3, ?_⟩
      rw [List.take_add_one, hT, List.foldl_append]
      exact h3
    · rintro σ G ⟨v2, v3, rfl, sm, h2⟩
      rw [hul, List.take_length] at h2
      exact ⟨v2, rfl, q G v2 sm h2⟩
end
end Kr
namespace Kr
open PySem PySem.Spec PyProof.Rows L2
/-! ### tuple * k, k at least 1 -/
theorem tuple_mul1 (l : Addr) (items : Array Value) (n : Nat) (dd : Option Addr) (sl : Array (Option Value)) (u : Tok) :
    Meets (Builtin.«tuple.__mul__» ⟨[.ref l, .int 1 u], []⟩) (fun _ R s => s.heap.get? l = some { cls := .type "tuple", dict := dd, data := .seq items n, slots := sl } ∧ R (.ok (.ret (Value.ref l))) s) :=
  .of_wp fun prog w A R s h => by
    obtain ⟨hp, g, d, tk, os⟩ := s
    obtain ⟨hl, h⟩ := h
    have f1 := AutoSeq1.idx_int
    wp_walk using wpAny_loadPart' hl
    repeat (first
      | (refine wpAny_ite_false (by decide) ?_; wp_walk using wpAny_loadPart' hl)
      | (refine wpAny_ite_true (decide_eq_true (by rw [show ((1 : Int) == 1) = true from rfl, Bool.or_true])) ?_; wp_walk using wpAny_loadPart' hl))
    exact ⟨_, rfl, h⟩
def rRepA (K : PySem.W.Frag) : R2 := fun x y H Q => ∃ l k xs, x = .ref l ∧ y = .int k ∧ SqT K H l xs ∧ xs ≠ [] ∧ 1 ≤ k ∧ xs.length * k.toNat ≤ 100000 ∧ (k = 1 → Q (.ref l) H) ∧ (k ≠ 1 → ∀ p, H p = none → Q (.ref p) (upd H p (.tup (List.replicate k.toNat xs).flatten)))
section
variable {X : Cx}
theorem op_repA : OpR X (binaryOp .Mult) (rRepA X.K) := by
  intro pins s σ H x y v u Q I rx ry h
  obtain ⟨l, k, xs, rfl, rfl, hT, hne, h1, hz, q1, q⟩ := h
  cases rx
  obtain ⟨t, rfl⟩ := ry
  obtain ⟨its, r, ⟨⟨cls, dd, data, sl⟩, ho, hc, n, hd⟩, hs⟩ := I.tuple hT
  simp only at hc hd
  subst hc hd
  by_cases hk1 : k = 1
  · subst hk1
    exact wpAny_binaryOp_repeat_ref (T := "tuple") (U := "int") (by decide) ⟨_, ho, rfl⟩ (fun s' => typeIs_int s' 1 t) noFill_tuple_mul F.fills_int_mul F.slot_int_rmul repeat_tuple F.slot_int_index.lookup
      (call_meets F.slot_int_rmul (typeIs_int s 1 t) F.entry_int_rmul (F.args_int_rmul_2 _ _) (int_rmul_tuple 1 t l its.toArray n dd sl)
        ⟨ho, rfl, ⟨_, ho, rfl⟩, call_meets F.slot_tuple_mul ⟨_, ho, rfl⟩ F.entry_tuple_mul (F.args_tuple_mul_2 _ _) (tuple_mul1 l its.toArray n dd sl t) ⟨ho, ⟨.ref l, H, I, rfl, q1 rfl⟩⟩⟩)
  have hle : its.length = xs.length := r.length.symm
  have hn : its ≠ [] := fun e => hne (by
    rw [e] at hle
    exact List.eq_nil_of_length_eq_zero hle.symm)
  have hi : its.toArray.isEmpty = false := by
    cases its with
    | nil => exact absurd rfl hn
    | cons a b => rfl
  have hsz0 : its.toArray.size = xs.length := by rw [List.size_toArray, hle]
  have hm0 : ((its.toArray.size : Nat) : Int) * k = ((xs.length * k.toNat : Nat) : Int) := by
    rw [hsz0, Int.natCast_mul, Int.toNat_of_nonneg (by omega)]
  have hm : ((its.toArray.size : Nat) : Int) * k ≤ 100000 := by
    rw [hm0]
    omega
  have hkk : k ≤ 100000 := by
    have hx : 1 ≤ xs.length := List.length_pos_iff.mpr hne
    have a1 : 1 * k.toNat ≤ xs.length * k.toNat := Nat.mul_le_mul_right _ hx
    omega
  have flen : (List.replicate k.toNat its).flatten.length ≤ sizeLine := by
    rw [PyProof.Rows.lm_len_rep_flat, hle, sizeLine_eq, Nat.mul_comm]
    omega
  have c0 : (decide (k < -(2 ^ 63)) || decide (k ≥ 2 ^ 63)) = false := by
    rw [decide_eq_false (by omega), decide_eq_false (by omega)] <;> rfl
  have c1 : (its.toArray.isEmpty || k == 1) = false := by
    rw [hi, Bool.false_or]
    exact beq_eq_false_iff_ne.mpr hk1
  have c2 : (decide (k ≤ 0) || its.toArray.isEmpty) = false := by
    rw [hi, Bool.or_false]
    exact decide_eq_false (by omega)
  have c4 : Builtin.Tuple.tupleTooMany (((its.toArray.size : Nat) : Int) * k) = false := by
    unfold Builtin.Tuple.tupleTooMany
    rw [sizeLine_eq]
    exact decide_eq_false (by omega)
  refine wpAny_binaryOp_repeat_ref (T := "tuple") (U := "int") (by decide) ⟨_, ho, rfl⟩ (fun s' => typeIs_int s' k t) noFill_tuple_mul F.fills_int_mul F.slot_int_rmul repeat_tuple F.slot_int_index.lookup
    (call_meets F.slot_int_rmul (typeIs_int s k t) F.entry_int_rmul (F.args_int_rmul_2 _ _) (int_rmul_tuple k t l its.toArray n dd sl)
      ⟨ho, rfl, ⟨_, ho, rfl⟩, call_meets F.slot_tuple_mul ⟨_, ho, rfl⟩ F.entry_tuple_mul (F.args_tuple_mul_2 _ _) (tuple_mulW l its.toArray n dd sl k t c0 c1 c2 (by omega) c4 (by rw [size_rep, List.size_toArray]; exact flen)) ⟨ho, ?_⟩⟩)
  rw [size_rep]
  refine ⟨.ref s.heap.objs.size, _, I.laid (t' := s.toks) (o := .tup (List.replicate k.toNat xs).flatten) (fun b ob q => Heap.get?_push_of_some _ q) (Nat.le_refl _) ?_, rfl, q hk1 _ (I.hok.fresh (Nat.le_refl _))⟩
  exact ⟨by rw [PyProof.Rows.lm_len_rep_flat, sizeLine_eq, Nat.mul_comm]; omega, _, r.rep k.toNat, IsTup.new _ _⟩
end
/-- some object that holds them -/
theorem repA_k {K : PySem.W.Frag} {a : Addr} {xs : List V} {k : Int} {Q : VK} {H : Hp} (ha : H a = some (.tup xs)) (hne : xs ≠ []) (h1 : 1 ≤ k) (hz : xs.length * k.toNat ≤ 100000) (q : ∀ y H5, Same H H5 → H5 y = some (.tup (List.replicate k.toNat xs).flatten) → Q (.ref y) H5) : rRepA K (.ref a) (.int k) H Q :=
  ⟨a, k, xs, rfl, rfl, SqT.of ha, hne, h1, hz, fun e => q _ _ (Same.refl _) (by
    rw [ha, e]
    simp), fun _ p np => q _ _ (same_new np) upd_same⟩
end Kr
namespace Kr
open PySem PySem.Spec PyProof.Rows L2
/-! ### expressions that give data: what they leave of the heap, and of which data -/
/-- what holds of the heap all the while, and how heaps follow one another -/
structure Fr where
  I : Hp → Prop
  Rl : Hp → Hp → Prop
  refl : ∀ {G}, Rl G G
  trans : ∀ {A B C}, Rl A B → Rl B C → Rl A C
  up : ∀ {A B}, Same A B → I A → I B
  of : ∀ {A B}, Same A B → Rl A B
  ts : ∀ {A B}, I A → Rl A B → TS A B
def frS : Fr := ⟨fun _ => True, Same, Same.refl _, Same.trans, fun _ _ => trivial, fun s => s, fun _ s => TS.of s⟩
/-- flat data -/
def Bq (F : Fr) (te : TE) (σ : L2.St) (H : Hp) (R : PyData → Prop) : Prop := ∀ G, F.I G → F.Rl H G → ∀ Q : VK, (∀ G' v d, F.I G' → F.Rl G G' → Dq G' v d → flatT d = true → R d → Q v G') → te σ G Q
def BqA (F : Fr) (n : Nat) (ta : TA) (σ : L2.St) (H : Hp) (R : List PyData → Prop) : Prop := ∀ G, F.I G → F.Rl H G → ∀ Q : List V → Hp → Prop, (∀ G' vs ds, F.I G' → F.Rl G G' → DqA G' vs ds → ds.length = n → flatTA ds = true → R ds → Q vs G') → ta σ G Q
/-- whole numbers -/
def Bn (F : Fr) (te : TE) (σ : L2.St) (H : Hp) (R : Int → Prop) : Prop := ∀ G, F.I G → F.Rl H G → ∀ Q : VK, (∀ G' i, F.I G' → F.Rl G G' → R i → Q (.int i) G') → te σ G Q
section
variable {F : Fr} {σ : L2.St} {H : Hp} {te tf : TE} {ta : TA} {R R' : PyData → Prop} {S : List PyData → Prop} {N N' : Int → Prop} {n : Nat}
theorem Bq.mono (h : Bq F te σ H R) (i : ∀ d, R d → R' d) : Bq F te σ H R' := fun G a b Q q => h G a b Q fun G' v d c e f g k => q G' v d c e f g (i d k)
theorem Bn.mono (h : Bn F te σ H N) (i : ∀ d, N d → N' d) : Bn F te σ H N' := fun G a b Q q => h G a b Q fun G' v c e k => q G' v c e (i _ k)
theorem BqA.mono {S' : List PyData → Prop} (h : BqA F n ta σ H S) (i : ∀ d, S d → S' d) : BqA F n ta σ H S' := fun G a b Q q => h G a b Q fun G' v d c e f g k l => q G' v d c e f g k (i _ l)
theorem bn_at {Q : VK} (h : Bn F te σ H N) (a : F.I H) (k : ∀ G i, F.I G → F.Rl H G → N i → Q (.int i) G) : te σ H Q := h H a F.refl Q k
theorem bq_at {Q : VK} (h : Bq F te σ H R) (a : F.I H) (k : ∀ G v d, F.I G → F.Rl H G → Dq G v d → flatT d = true → R d → Q v G) : te σ H Q := h H a F.refl Q k
theorem bn_c {i : Int} (r : N i) : Bn F (tC (.int i)) σ H N := fun G a b Q q => q G i a F.refl r
theorem bn_var {j : Nat} {i : Int} (e : σ[j]? = some (some (.int i))) (r : N i) : Bn F (tVar j) σ H N := fun G a b Q q => ⟨_, e, q G i a F.refl r⟩
theorem bn_op {g : Int → Int → Int} (h : Bn F te σ H fun i => Bn F tf σ H fun j => N (g i j)) : Bn F (tOp (rI0 fun i j => .int (g i j)) te tf) σ H N := fun G a b Q q => h G a b _ fun G1 i I1 r1 h2 => h2 G1 I1 (F.trans b r1) _ fun G2 j I2 r2 k => ⟨i, j, rfl, rfl, q G2 _ I2 (F.trans r1 r2) k⟩
theorem bn_opC {C : Int → Int → Prop} {g : Int → Int → Int} (h : Bn F te σ H fun i => Bn F tf σ H fun j => C i j ∧ N (g i j)) : Bn F (tOp (rI C fun i j => .int (g i j)) te tf) σ H N := fun G a b Q q => h G a b _ fun G1 i I1 r1 h2 => h2 G1 I1 (F.trans b r1) _ fun G2 j I2 r2 k => ⟨i, j, rfl, rfl, k.1, q G2 _ I2 (F.trans r1 r2) k.2⟩
/-- a def that promises a number -/
theorem bq_int (h : Bn F te σ H N) (i : ∀ x, N x → R (.int x)) : Bq F te σ H R := fun G a b Q q => h G a b Q fun G' x c e k => q G' _ _ c e (.int x) rfl (i x k)
theorem bq_c {i : Int} (r : R (.int i)) : Bq F (tC (.int i)) σ H R := fun G a b Q q => q G _ _ a F.refl (.int i) rfl r
theorem bq_str {x : Str} (r : R (.str x)) : Bq F (tC (.str x)) σ H R := fun G a b Q q => q G _ _ a F.refl (.str x) rfl r
theorem bq_non (r : R .none) : Bq F (tC .non) σ H R := fun G a b Q q => q G _ _ a F.refl .non rfl r
theorem bq_bl {k : Bool} (r : R (.bool k)) : Bq F (tC (.bl k)) σ H R := fun G a b Q q => q G _ _ a F.refl (.bl k) rfl r
theorem bq_var {j : Nat} {v : V} {d : PyData} (hI : F.I H) (e : σ[j]? = some (some v)) (q : Dq H v d) (f : flatT d = true) (r : R d) : Bq F (tVar j) σ H R := fun G a b Q k => ⟨v, e, k G v d a F.refl (Dq.upT (F.ts hI b) f q) f r⟩
theorem bq_op {g : Int → Int → Int} (h : Bn F te σ H fun i => Bn F tf σ H fun j => R (.int (g i j))) : Bq F (tOp (rI0 fun i j => .int (g i j)) te tf) σ H R := bq_int (bn_op (N := fun x => R (.int x)) h) fun _ k => k
theorem bq_ivar {j : Nat} {i : Int} (e : σ[j]? = some (some (.int i))) (r : R (.int i)) : Bq F (tVar j) σ H R := bq_int (bn_var (N := fun x => R (.int x)) e r) fun _ k => k
theorem bqa_nil (r : S []) : BqA F 0 tNil σ H S := fun G a b Q q => q G _ _ a F.refl .nil rfl rfl r
theorem bqa_cons (h : Bq F te σ H fun d => BqA F n ta σ H fun ds => S (d :: ds)) : BqA F (n + 1) (tCons te ta) σ H S := fun G a b Q q => h G a b _ fun G1 v d I1 r1 q1 f1 h2 => h2 G1 I1 (F.trans b r1) _ fun G2 vs ds I2 r2 q2 l2 f2 k => q G2 _ _ I2 (F.trans r1 r2) (.cons (Dq.upT (F.ts I1 r2) f1 q1) q2) (by rw [List.length_cons, l2]) (by simp [flatTA, f1, f2]) k
theorem bq_tup (h : BqA F n ta σ H fun ds => R (.tuple ds)) (hn : n ≤ 100000 := by decide) : Bq F (tTup ta) σ H R := fun G a b Q q => h G a b _ fun G1 vs ds I1 r1 q1 l1 f1 k => ⟨sz (by rw [q1.len, l1]; exact hn), fun p np => by
  have s := same_new (o := .tup vs) np
  exact q _ _ _ (F.up s I1) (F.trans r1 (F.of s)) (.tup upd_same (q1.up s)) (by simpa [flatT] using f1) k⟩
theorem bq_tup0 (h : BqA F 0 tNil σ H fun ds => R (.tuple ds)) : Bq F (tTup tNil) σ H R := bq_tup h
theorem bq_tup1 {a : TE} (h : BqA F 1 (tCons a tNil) σ H fun ds => R (.tuple ds)) : Bq F (tTup (tCons a tNil)) σ H R := bq_tup h
theorem bq_tup2 {a b : TE} (h : BqA F 2 (tCons a (tCons b tNil)) σ H fun ds => R (.tuple ds)) : Bq F (tTup (tCons a (tCons b tNil))) σ H R := bq_tup h
theorem bq_tup3 {a b c : TE} (h : BqA F 3 (tCons a (tCons b (tCons c tNil))) σ H fun ds => R (.tuple ds)) : Bq F (tTup (tCons a (tCons b (tCons c tNil)))) σ H R := bq_tup h
/-- a list's display -/
theorem bq_lst {Q : VK} {G : Hp} (h : BqA F n ta σ H S) (a : F.I G) (b : F.Rl H G) (hn : n ≤ 100000) (q : ∀ G1 p vs ds, F.I G1 → F.Rl G G1 → DqA G1 vs ds → ds.length = n → flatTA ds = true → S ds → G1 p = none → Q (.ref p) (upd G1 p (.lst vs))) : tLst ta σ G Q := h G a b _ fun G1 vs ds I1 r1 q1 l1 f1 k => ⟨sz (by rw [q1.len, l1]; exact hn), fun p np => q G1 p vs ds I1 r1 q1 l1 f1 k np⟩
/-- a list with one more item, appended -/
theorem bn_of {N : Int → Prop} (h : Bq F te σ H R) (i : ∀ d, R d → ∃ x, d = .int x ∧ N x) : Bn F te σ H N := fun G a b Q q => h G a b Q fun G' v d c e f g k => by
  obtain ⟨x, rfl, hx⟩ := i d k
  cases f
  exact q G' x c e hx
/-- a if x < y else b, and its like -/
theorem bq_ifc {g : Int → Int → Bool} {t u : TE} (h : Bn F te σ H fun i => Bn F tf σ H fun j => (g i j = true → Bq F t σ H R) ∧ (g i j = false → Bq F u σ H R)) : Bq F (tIf (tTest (tOp (rI0 fun i j => .bl (g i j)) te tf)) t u) σ H R := fun G a b Q q => h G a b _ fun G1 i I1 r1 h2 => h2 G1 I1 (F.trans b r1) _ fun G2 j I2 r2 k => ⟨i, j, rfl, rfl, _, rfl, by
  have r12 := F.trans r1 r2
  show if g i j = true then t σ G2 Q else u σ G2 Q
  by_cases c : g i j = true
  · rw [if_pos c]
    exact k.1 c G2 I2 (F.trans b r12) Q fun G' v d x1 x2 => q G' v d x1 (F.trans r12 x2)
  · rw [if_neg c]
    exact k.2 (Bool.eq_false_iff.mpr c) G2 I2 (F.trans b r12) Q fun G' v d x1 x2 => q G' v d x1 (F.trans r12 x2)⟩
theorem bn_ifc {g : Int → Int → Bool} {t u : TE} {N : Int → Prop} (h : Bn F te σ H fun i => Bn F tf σ H fun j => (g i j = true → Bn F t σ H N) ∧ (g i j = false → Bn F u σ H N)) : Bn F (tIf (tTest (tOp (rI0 fun i j => .bl (g i j)) te tf)) t u) σ H N := fun G a b Q q => h G a b _ fun G1 i I1 r1 h2 => h2 G1 I1 (F.trans b r1) _ fun G2 j I2 r2 k => ⟨i, j, rfl, rfl, _, rfl, by
  have r12 := F.trans r1 r2
  show if g i j = true then t σ G2 Q else u σ G2 Q
  by_cases c : g i j = true
  · rw [if_pos c]
    exact k.1 c G2 I2 (F.trans b r12) Q fun G' v x1 x2 => q G' v x1 (F.trans r12 x2)
  · rw [if_neg c]
    exact k.2 (Bool.eq_false_iff.mpr c) G2 I2 (F.trans b r12) Q fun G' v x1 x2 => q G' v x1 (F.trans r12 x2)⟩
/-- t * k -/
theorem bq_rep {K : PySem.W.Frag} (h : Bq F te σ H fun d => ∃ ds, d = .tuple ds ∧ ds ≠ [] ∧ Bn F tf σ H fun k => 1 ≤ k ∧ ds.length * k.toNat ≤ 100000 ∧ R (.tuple (List.replicate k.toNat ds).flatten)) : Bq F (tOp (rRepA K) te tf) σ H R := fun G a b Q q => h G a b _ fun G1 v d I1 r1 q1 f1 ⟨ds, e, hne, h2⟩ => by
  subst e
  refine h2 G1 I1 (F.trans b r1) _ fun G2 k I2 r2 ⟨k1, k2, k3⟩ => ?_
  obtain ⟨t, xs, rfl, ht, qx⟩ := (Dq.upT (F.ts I1 r2) f1 q1).tup_inv
  have hl := qx.len
  refine repA_k ht (fun z => hne (by rw [z] at hl; exact List.eq_nil_of_length_eq_zero hl.symm)) k1 (by rw [hl]; exact k2) fun y G3 s h3 => ?_
  have rp : ∀ m : Nat, DqA G3 (List.replicate m xs).flatten (List.replicate m ds).flatten := by
    intro m
    induction m with
    | zero => exact .nil
    | succ m ih =>
      rw [List.replicate_succ, List.replicate_succ, List.flatten_cons, List.flatten_cons]
      exact (qx.up s).app ih
  refine q G3 _ _ (F.up s I2) (F.trans (F.trans r1 r2) (F.of s)) (.tup h3 (rp k.toNat)) ?_ k3
  simp only [flatT] at f1 ⊢
  refine flatTA_of fun d hd => ?_
  obtain ⟨l, hl2, hd2⟩ := List.mem_flatten.mp hd
  have := List.eq_of_mem_replicate hl2
  subst this
  have mem : ∀ {es : List PyData}, flatTA es = true → ∀ d ∈ es, flatT d = true := by
    intro es
    induction es with
    | nil => intro _ d h; exact nomatch h
    | cons e es ih =>
      intro h d hd
      have h2 : flatT e = true ∧ flatTA es = true := by simpa [flatTA] using h
      rcases List.mem_cons.mp hd with rfl | hd
      · exact h2.1
      · exact ih h2.2 d hd
  exact mem f1 d hd2
end
/-! ### statements, one by one -/
abbrev nxD (D : Ends) (u : L2.TS) : Ends := { D with nx := u D }
section
variable {te tf : TE} {ta : TA} {t u e : L2.TS} {c : TT} {D : Ends} {σ : L2.St} {H : Hp} {i : Nat} {g : TG} {wi : TI}
theorem sq_asg (h : te σ H fun v H1 => u D (σ.set i (some v)) H1) : tSeq (tAsg te (gName i)) u D σ H := h
theorem sq_drop (h : te σ H fun _ H1 => u D σ H1) : tSeq (tDrop te) u D σ H := h
theorem one_drop (h : te σ H fun _ H1 => D.nx σ H1) : tDrop te D σ H := h
theorem one_asg (h : te σ H fun v H1 => D.nx (σ.set i (some v)) H1) : tAsg te (gName i) D σ H := h
theorem one_ret (h : te σ H D.rt) : tRet te D σ H := h
theorem sq_if (h : c σ H fun b H1 => if b = true then t { D with nx := u D } σ H1 else e { D with nx := u D } σ H1) : tSeq (tIfS c t e) u D σ H := h
theorem sq_rng (h : te σ H fun v H1 => ∃ j : Int, [v] = [V.int j] ∧ -(2 ^ 62) ≤ j ∧ j < 2 ^ 62 ∧ ∃ W : Nat → Nat → L2.St → Hp → Prop, (∃ m, W 0 m σ H1) ∧ ∀ i m σ H, W i m σ H →
  ((Itr 0 j.toNat).stop i H ∧ (nxD D u).nx σ H) ∨ ((Itr 0 j.toNat).go i H ∧ ∃ N : L2.St → Hp → Prop, (∀ σ' H', N σ' H' → ∃ m', m' < m ∧ W (i + 1) m' σ' H') ∧ ∀ x H', (Itr 0 j.toNat).yld i H x H' → g x σ H' fun σ2 H2 => t { nxD D u with nx := N, bk := (nxD D u).nx, ct := N } σ2 H2)) : tSeq (tFor (iRng1 (tCons te tNil)) g t) u D σ H := h
end
end Kr
namespace Kr
open PySem PySem.Spec PyProof.Rows L2
/-! ### words of terms asked: term[0] == ".." -/
section
variable {K : PySem.W.Frag} {σ : L2.St} {H : Hp} {i : Nat} {a : Addr} {xs : List V} {w x : Str} {D : Ends} {t u : L2.TS}
abbrev tWord (K : PySem.W.Frag) (i : Nat) (x : Str) : TT := tTest (tOp rEq (tOp (rIxT K) (tVar i) (tC (.int 0))) (tC (.str x)))
theorem w_test {Q : Bool → Hp → Prop} (hv : σ[i]? = some (some (.ref a))) (ha : H a = some (.tup (.str w :: xs))) (q : Q (decide (V.str w = V.str x)) H) : tWord K i x σ H Q := ⟨.ref a, hv, a, _, ((0 : Nat) : Int), _, rfl, rfl, SqT.of ha, atI_nat (j := 0) rfl, rfl, _, rfl, q⟩
theorem sq_wno (hv : σ[i]? = some (some (.ref a))) (ha : H a = some (.tup (.str w :: xs))) (hne : decide (V.str w = V.str x) = false) (h : u D σ H) : tSeq (tIfS (tWord K i x) t tNext) u D σ H := w_test (Q := fun b H1 => if b = true then t { D with nx := u D } σ H1 else u D σ H1) hv ha (by rw [hne]; exact iteF h)
theorem sq_wyes (hv : σ[i]? = some (some (.ref a))) (ha : H a = some (.tup (.str w :: xs))) (h : t (nxD D u) σ H) : tSeq (tIfS (tWord K i w) t tNext) u D σ H := w_test (Q := fun b H1 => if b = true then t { D with nx := u D } σ H1 else u D σ H1) hv ha (by rw [decide_eq_true rfl]; exact iteT h)
theorem rix {k : Int} {j : Nat} {v : V} {Q : VK} (hv : σ[i]? = some (some (.ref a))) (ha : H a = some (.tup xs)) (hk : k = ((j : Nat) : Int)) (hx : xs[j]? = some v) (q : Q v H) : tOp (rIxT K) (tVar i) (tC (.int k)) σ H Q := by
  subst hk
  exact ⟨.ref a, hv, a, xs, _, v, rfl, rfl, SqT.of ha, atI_nat hx, q⟩
end
/-- what stands at the data of a term -/
theorem tm_doo {H : Hp} {v : V} {d : Mv} (h : Dq H v (tmD (.doo d))) : ∃ a x, v = .ref a ∧ H a = some (.tup [.str "do", x]) ∧ Dq H x (deedD d) := by
  simp only [tmD] at h
  obtain ⟨a, xs, rfl, ha, qx⟩ := Dq.tup_inv h
  cases qx with
  | cons q1 qx =>
  cases qx with
  | cons q2 qx =>
  cases qx
  cases q1
  exact ⟨a, _, rfl, ha, q2⟩
theorem tm_prt {H : Hp} {v : V} {j : Nat} (h : Dq H v (tmD (.part j))) : ∃ a, v = .ref a ∧ H a = some (.tup [.str "part", .int (j : Int)]) := by
  simp only [tmD] at h
  obtain ⟨a, xs, rfl, ha, qx⟩ := Dq.tup_inv h
  cases qx with
  | cons q1 qx =>
  cases qx with
  | cons q2 qx =>
  cases qx
  cases q1
  cases q2
  exact ⟨a, rfl, ha⟩
theorem tm_rw {H : Hp} {v : V} {ts : List Tm} (h : Dq H v (tmD (.row ts))) : ∃ a b ys, v = .ref a ∧ H a = some (.tup [.str "row", .ref b]) ∧ H b = some (.tup ys) ∧ DqA H ys (ts.map tmD) ∧ ys.length = ts.length := by
  simp only [tmD] at h
  obtain ⟨a, xs, rfl, ha, qx⟩ := Dq.tup_inv h
  cases qx with
  | cons q1 qx =>
  cases qx with
  | cons q2 qx =>
  cases qx
  cases q1
  obtain ⟨b, ys, rfl, hb, qy⟩ := Dq.tup_inv q2
  rw [tmDs_map] at qy
  exact ⟨a, b, ys, rfl, ha, hb, qy, by rw [qy.len, List.length_map]⟩
theorem tm_bk {H : Hp} {v : V} {t : Tm} (h : Dq H v (tmD (.back t))) : ∃ a x, v = .ref a ∧ H a = some (.tup [.str "back", x]) ∧ Dq H x (tmD t) := by
  simp only [tmD] at h
  obtain ⟨a, xs, rfl, ha, qx⟩ := Dq.tup_inv h
  cases qx with
  | cons q1 qx =>
  cases qx with
  | cons q2 qx =>
  cases qx
  cases q1
  exact ⟨a, _, rfl, ha, q2⟩
theorem tm_tms {H : Hp} {v : V} {t : Tm} {k : Nat} (h : Dq H v (tmD (.times t k))) : ∃ a x, v = .ref a ∧ H a = some (.tup [.str "times", x, .int (k : Int)]) ∧ Dq H x (tmD t) := by
  simp only [tmD] at h
  obtain ⟨a, xs, rfl, ha, qx⟩ := Dq.tup_inv h
  cases qx with
  | cons q1 qx =>
  cases qx with
  | cons q2 qx =>
  cases qx with
  | cons q3 qx =>
  cases qx
  cases q1
  cases q3
  exact ⟨a, _, rfl, ha, q2⟩
mutual
/-- all terms in it are done at most so often -/
def timK (c : Nat) : Tm → Prop
  | .doo _ => True
  | .part _ => True
  | .row ts => timKs c ts
  | .back t => timK c t
  | .times t k => k ≤ c ∧ timK c t
def timKs (c : Nat) : List Tm → Prop
  | [] => True
  | t :: ts => timK c t ∧ timKs c ts
end
theorem timKs_of {c : Nat} : ∀ {ts : List Tm}, (∀ t ∈ ts, timK c t) → timKs c ts
  | [], _ => by simp [timKs]
  | t :: ts, h => by
    simp only [timKs]
    exact ⟨h t List.mem_cons_self, timKs_of fun x hx => h x (List.mem_cons_of_mem _ hx)⟩
theorem timKs_mem {c : Nat} : ∀ {ts : List Tm}, timKs c ts → ∀ t ∈ ts, timK c t
  | u :: ts, h, t, ht => by
    simp only [timKs] at h
    rcases List.mem_cons.mp ht with rfl | ht
    · exact h.1
    · exact timKs_mem h.2 t ht
end Kr
namespace Kr
open PySem PySem.Spec PyProof.Rows L2
/-- the tables of parts, in a list -/
structure TabL (N : Nat) (H : Hp) (L : Addr) (ws : List (List (List Int))) : Prop where
  at_ : ∃ us : List V, H L = some (.lst us) ∧ DqA H us (ws.map tabD)
  ok : ∀ T ∈ ws, TabOk N T
theorem TabL.up {N : Nat} {H H' : Hp} {L : Addr} {ws : List (List (List Int))} (h : TabL N H L ws) (s : Same H H') : TabL N H' L ws := by
  obtain ⟨us, h1, h2⟩ := h.at_
  exact ⟨⟨us, s _ _ h1, h2.up s⟩, h.ok⟩
theorem tab_worth_ok {N : Nat} (hN : N ≤ 6) {ws : List (List (List Int))} (hw : ∀ T ∈ ws, TabOk N T) : ∀ n (t : Tm), dep t ≤ n → okTm (Deed N) 400 ws.length t → TabOk N (worth (tabM N) ws t)
  | 0, t, h, _ => absurd h (by have := dep_pos t; omega)
  | n + 1, t, h, o => by
    cases t with
    | doo d => simp only [okTm] at o; simp only [worth]; exact o.ok hN
    | part j =>
      simp only [okTm] at o
      simp only [worth]
      rw [List.getD_eq_getElem?_getD, List.getElem?_eq_getElem o]
      exact hw _ (List.getElem_mem o)
    | back t => simp only [okTm] at o; simp only [dep] at h; simp only [worth]; exact (tab_worth_ok hN hw n t (by omega) o).turn hN
    | times t k => simp only [okTm] at o; simp only [dep] at h; simp only [worth]; exact powT_ok hN (tab_worth_ok hN hw n t (by omega) o.2) _
    | row ts =>
      simp only [okTm] at o
      simp only [dep] at h
      simp only [worth]
      rw [worthL_map]
      refine fold_ok hN (still_ok hN) fun a ha => ?_
      obtain ⟨t, ht, rfl⟩ := List.mem_map.mp ha
      exact tab_worth_ok hN hw n t (by have := depL_le ht; omega) (okTms_mem o.2 t ht)
section
variable {P : Program} {w : World} {K : PySem.W.Frag} {mg : Str → Option Value} {base : Heap}
def spTabBy (n : Nat) : Sp := fun vs H Q _ => ∃ (N : Nat) (L : Addr) (v : V) (t : Tm) (ws : List (List (List Int))), vs = [.int (N : Int), .ref L, v] ∧ 3 ≤ N ∧ N ≤ 6 ∧ TabL N H L ws ∧ Dq H v (tmD t) ∧ dep t ≤ n ∧ okTm (Deed N) 400 ws.length t ∧ ∀ H' r, Same H H' → Dq H' r (tabD (worth (tabM N) ws t)) → Q r H'
abbrev nTby : List Str := ["n", "parts", "term", "found", "own"]
theorem scTby : FnScope nTby ["n", "parts", "term"] (defScope sLTableBy) := ⟨rfl, rfl, rfl, by decide +kernel, rfl, by decide +kernel, by decide +kernel⟩
theorem o_lTabBy (D0 : Df K mg "_law_table_by" sLTableBy ["n", "parts", "term"]) (B : Bi mg) (md : Ok P w K mg base 2 "_law_made" ["n", "moves"] spMade) (af : Ok P w K mg base 3 "_law_after" ["n", "one", "other"] spBoth) (tu : Ok P w K mg base 3 "_law_turned" ["n", "table"] spUndone) (of : Ok P w K mg base 4 "_law_often" ["n", "table", "many"] spPower) : ∀ n, Ok P w K mg base (n + 4) "_law_table_by" ["n", "parts", "term"] (spTabBy n)
  | 0 => D0.ok fun f fd F => by
    have no : ∀ vs H Q E, ¬ spTabBy 0 vs H Q E := fun vs H Q E h => by
      obtain ⟨_, _, _, t, _, _, _, _, _, _, hd, _⟩ := h
      have := dep_pos t
      omega
    exact ⟨fun vs H Q E h => absurd h (no vs H Q E), fun A outer s H args us vs Q E _ _ _ _ h => absurd h (no vs H Q E)⟩
  | n + 1 => by
    have ih := o_lTabBy D0 B md af tu of n
    refine D0.ok fun f fd F => F.ok scTby (fun vs H Q E h => ?_) (fun cdv A outer s H vs Q E hr h => ?_)
    · obtain ⟨_, _, _, _, _, rfl, _⟩ := h
      rfl
    · obtain ⟨N, L, v, t, ws, rfl, N3, N6, hL, hv, hdp, hok, q⟩ := h
      have hr2 := hr.mono (show 2 ≤ n + 4 by omega)
      have hr3 := hr.mono (show 3 ≤ n + 4 by omega)
      have hr4 := hr.mono (show 4 ≤ n + 4 by omega)
      refine ⟨_, pss_cons (ps_if (pt_cmpR op_eq (pe_ix ix_tup (pv 2) pe_int (fun _ _ => rfl)) pe_str (nomark _)) (pss_one (ps_ret (pe_fn md hr2 (by rfl) (pa_cons (pv 0) (pa_cons (pe_lst (pa_cons (pe_ix ix_tup (pv 2) pe_int (fun _ _ => rfl)) pa_nil)) pa_nil))))) pss_nil)
      (pss_cons (ps_if (pt_cmpR op_eq (pe_ix ix_tup (pv 2) pe_int (fun _ _ => rfl)) pe_str (nomark _)) (pss_one (ps_ret (pe_ix ix_list (pv 1) (pe_ix ix_tup (pv 2) pe_int (fun _ _ => rfl)) (fun _ _ => rfl)))) pss_nil)
      (pss_cons (ps_if (pt_cmpR op_eq (pe_ix ix_tup (pv 2) pe_int (fun _ _ => rfl)) pe_str (nomark _)) (pss_one (ps_ret (pe_fn tu hr3 (by rfl) (pa_cons (pv 0) (pa_cons (pe_fn ih hr (by rfl) (pa_cons (pv 0) (pa_cons (pv 1) (pa_cons (pe_ix ix_tup (pv 2) pe_int (fun _ _ => rfl)) pa_nil)))) pa_nil))))) pss_nil)
      (pss_cons (ps_if (pt_cmpR op_eq (pe_ix ix_tup (pv 2) pe_int (fun _ _ => rfl)) pe_str (nomark _)) (pss_one (ps_ret (pe_fn of hr4 (by rfl) (pa_cons (pv 0) (pa_cons (pe_fn ih hr (by rfl) (pa_cons (pv 0) (pa_cons (pv 1) (pa_cons (pe_ix ix_tup (pv 2) pe_int (fun _ _ => rfl)) pa_nil)))) (pa_cons (pe_ix ix_tup (pv 2) pe_int (fun _ _ => rfl)) pa_nil)))))) pss_nil)
      (pss_cons (ps_set (i := 3) scTby.nd rfl (.inl rfl) (pe_fn md hr2 (by rfl) (pa_cons (pv 0) (pa_cons (pe_lst pa_nil) pa_nil))))
      (pss_cons (ps_for PassesOwn.never rfl (pi_tup (pe_ix ix_tup (pv 2) pe_int (fun _ _ => rfl))) (pg_name (i := 4) scTby.nd rfl (.inl rfl))
        (pss_one (ps_set (i := 3) scTby.nd rfl (.inl rfl) (pe_fn af hr3 (by rfl) (pa_cons (pv 0) (pa_cons (pv 3) (pa_cons (pe_fn ih hr (by rfl) (pa_cons (pv 0) (pa_cons (pv 1) (pa_cons (pv 4) pa_nil)))) pa_nil)))))))
      (pss_one (ps_ret (pv 3)))))))), ?_⟩
      cases t with
      | doo d =>
        simp only [okTm] at hok
        obtain ⟨a, x, rfl, ha, qd⟩ := tm_doo hv
        refine sq_wyes rfl ha (one_ret ?_)
        refine ⟨.int (N : Int), rfl, rix rfl ha rfl (j := 1) rfl ⟨by show 1 ≤ sizeLine; decide, fun M nM => ?_⟩⟩
        have sM := same_new (o := .lst [x]) nM
        refine ⟨N, M, [x], [d], rfl, N3, N6, upd_same, rfl, fun j v m hv hm => ?_, fun m hm => ?_, fun H' r s1 h => q H' r (sM.trans s1) ?_⟩
        · match j, hv, hm with
          | 0, hv, hm =>
            cases Option.some.inj hv
            cases Option.some.inj hm
            exact deed_inv (qd.up sM)
          | _ + 1, hv, hm => simp at hv
        · rw [List.mem_singleton.mp hm]
          have h1 := hok.ab
          have h2 := hok.bn
          have h3 := hok.asc.len
          exact ⟨⟨by omega, h2⟩, by omega, fun x hx => by have := (hok.asc.2 x hx).2; omega⟩
        · rw [made_one N6 hok] at h
          simp only [worth]
          exact h
      | part j =>
        simp only [okTm] at hok
        obtain ⟨a, rfl, ha⟩ := tm_prt hv
        obtain ⟨us, hu, qu⟩ := hL.at_
        obtain ⟨y, hy, qy⟩ : ∃ y, us[j]? = some y ∧ Dq H y (tabD ws[j]) := by
          have hl := qu.len
          rw [List.length_map] at hl
          obtain ⟨y, hy⟩ : ∃ y, us[j]? = some y := ⟨_, List.getElem?_eq_getElem (by omega)⟩
          obtain ⟨d, hd, qd⟩ := qu.get hy
          rw [List.getElem?_map, List.getElem?_eq_getElem hok] at hd
          cases Option.some.inj hd
          exact ⟨y, hy, qd⟩
        refine sq_wno rfl ha (by decide) (sq_wyes rfl ha (one_ret ?_))
        have := q H y (Same.refl _)
        simp only [worth] at this
        rw [List.getD_eq_getElem?_getD, List.getElem?_eq_getElem hok] at this
        exact ⟨.ref L, rfl, rix rfl ha rfl (j := 1) rfl ⟨L, _, j, _, rfl, rfl, SqL.of hu, atI_nat hy, this qy⟩⟩
      | back t =>
        simp only [okTm] at hok
        simp only [dep] at hdp
        obtain ⟨a, x, rfl, ha, qx⟩ := tm_bk hv
        refine sq_wno rfl ha (by decide) (sq_wno rfl ha (by decide) (sq_wyes rfl ha (one_ret ?_)))
        refine ⟨.int (N : Int), rfl, .int (N : Int), rfl, .ref L, rfl, rix rfl ha rfl (j := 1) rfl ⟨N, L, x, t, ws, rfl, N3, N6, hL, qx, by omega, hok, fun G1 r s1 h1 => ⟨N, r, _, rfl, N6, h1, tab_worth_ok N6 hL.ok n t (by omega) hok, fun G2 r2 s2 h2 => q G2 r2 (s1.trans s2) ?_⟩⟩⟩
        simp only [worth]
        exact h2
      | times t k =>
        simp only [okTm] at hok
        simp only [dep] at hdp
        obtain ⟨a, x, rfl, ha, qx⟩ := tm_tms hv
        refine sq_wno rfl ha (by decide) (sq_wno rfl ha (by decide) (sq_wno rfl ha (by decide) (sq_wyes rfl ha (one_ret ?_))))
        refine ⟨.int (N : Int), rfl, .int (N : Int), rfl, .ref L, rfl, rix rfl ha rfl (j := 1) rfl ⟨N, L, x, t, ws, rfl, N3, N6, hL, qx, by omega, hok.2, fun G1 r s1 h1 => rix rfl (s1 _ _ ha) rfl (j := 2) rfl ⟨N, r, _, _, rfl, N6, h1, tab_worth_ok N6 hL.ok n t (by omega) hok.2, fun G2 r2 s2 h2 => q G2 r2 (s1.trans s2) ?_⟩⟩⟩
        simp only [worth]
        exact h2
      | row ts =>
        simp only [okTm] at hok
        simp only [dep] at hdp
        obtain ⟨a, b, ys, rfl, ha, hb, qy, hyl⟩ := tm_rw hv
        refine sq_wno rfl ha (by decide) (sq_wno rfl ha (by decide) (sq_wno rfl ha (by decide) (sq_wno rfl ha (by decide) ?_)))
        refine sq_asg ⟨.int (N : Int), rfl, by show 0 ≤ sizeLine; decide, fun M nM => ?_⟩
        have sM := same_new (o := .lst []) nM
        refine ⟨N, M, [], [], rfl, N3, N6, upd_same, rfl, fun j v m hv hm => by simp at hv, (fun m hm => nomatch hm), fun G0 f0 s0 h0 => ?_⟩
        rw [made_nil N6] at h0
        have s00 := sM.trans s0
        refine rix rfl (s00 _ _ ha) rfl (j := 1) rfl ⟨b, rfl, ⟨_, SqT.of (s00 _ _ hb)⟩, for_it (walk_tup (K := K) (a := b) (xs := ys)) (fun i σ G => ∃ (fv : V) (v4 : Option V), σ = [some (.int (N : Int)), some (.ref L), some (.ref a), some fv, v4] ∧ Same H G ∧ Dq G fv (tabD (((ts.take i).map (worth (tabM N) ws)).foldl (bothT N) (stillT N)))) ⟨_, _, rfl, s00, h0⟩ (fun _ _ _ _ ⟨_, _, _, sm, _⟩ => SqT.of (sm _ _ hb)) ?_ ?_⟩
        · rintro i x σ _ G hi ⟨fv, v4, rfl, sm, qf⟩ ⟨rfl, hx⟩
          obtain ⟨d0, hd0, qd⟩ := qy.get hx
          rw [List.getElem?_map] at hd0
          obtain ⟨t, ht, rfl⟩ := Option.map_eq_some_iff.mp hd0
          have htm := List.mem_of_getElem? ht
          have htd : dep t ≤ n := by have := depL_le htm; omega
          have hto := okTms_mem hok.2 t htm
          have okf : TabOk N (((ts.take i).map (worth (tabM N) ws)).foldl (bothT N) (stillT N)) := fold_ok N6 (still_ok N6) fun u hu => by
            obtain ⟨w, hw, rfl⟩ := List.mem_map.mp hu
            have hw2 := List.mem_of_mem_take hw
            exact tab_worth_ok N6 hL.ok n w (by have := depL_le hw2; omega) (okTms_mem hok.2 w hw2)
          obtain ⟨b1, b2, b3, b4⟩ := okf.both_in N6
          obtain ⟨b5, b6, b7, b8⟩ := TabOk.both_in N6 (tab_worth_ok N6 hL.ok n t htd hto)
          refine one_asg ⟨.int (N : Int), rfl, fv, rfl, .int (N : Int), rfl, .ref L, rfl, x, rfl, N, L, x, t, ws, rfl, N3, N6, hL.up sm, qd.up sm, htd, hto, fun G1 r s1 h1 => ⟨N, fv, r, _, _, rfl, N6, qf.up s1, h1, b1, b2, b7, b8, fun G2 r2 s2 h2 => ⟨r2, _, rfl, sm.trans (s1.trans s2), ?_⟩⟩⟩
          rw [List.take_add_one, ht, List.map_append, List.foldl_append]
          exact h2
        · rintro σ G ⟨fv, v4, rfl, sm, qf⟩
          rw [hyl, List.take_length] at qf
          dsimp only
          refine one_ret ⟨fv, rfl, q G fv sm ?_⟩
          simp only [worth]
          rw [worthL_map]
          exact qf
end
end Kr
namespace Kr
open PySem PySem.Spec PyProof.Rows L2
/-- lcm(a, b), numbers of some thousand bits -/
def rLcm : List V → Hp → VK → Prop := fun vs H Q => ∃ a b : Nat, vs = [.int (a : Int), .int (b : Int)] ∧ a < 2 ^ 6000 ∧ b < 2 ^ 6000 ∧ Q (.int ((Nat.lcm a b : Nat) : Int)) H
theorem lcm_lt {a b : Nat} (ha : a < 2 ^ 6000) (hb : b < 2 ^ 6000) : Nat.lcm a b < 2 ^ 12000 := by
  refine Nat.lt_of_le_of_lt (PySem.W.mc_lcm_le a b) ?_
  rw [show (2 : Nat) ^ 12000 = 2 ^ 6000 * 2 ^ 6000 by rw [← Nat.pow_add]]
  rcases Nat.eq_zero_or_pos b with h | h
  · rw [h, Nat.mul_zero]
    exact Nat.mul_pos (Nat.two_pow_pos _) (Nat.two_pow_pos _)
  · exact Nat.mul_lt_mul'' ha hb
theorem log_lt {a m : Nat} (h : a < 2 ^ m) (hm : 0 < m) : a.log2 < m := by
  by_cases z : a = 0
  · rw [z]
    simpa using hm
  · exact (Nat.log2_lt z).mpr h
theorem call_lcm {X : Cx} : CallR X (.builtin "math.lcm") rLcm := by
  intro pn sh st hp xs us Q Iv r h
  obtain ⟨a, b, rfl, h1, h2, q⟩ := h
  cases r with
  | cons ra r =>
    cases r with
    | cons rb r =>
      cases r
      obtain ⟨t, rfl⟩ := ra
      obtain ⟨u, rfl⟩ := rb
      have e1 : ((Nat.lcm 1 (a : Int).natAbs).lcm (b : Int).natAbs) = Nat.lcm a b := by rw [PySem.W.mc_lcm_one, Int.natAbs_natCast, Int.natAbs_natCast]
      have l1 : (max 1 (a : Int).natAbs).log2 < 6000 := log_lt (by rw [Int.natAbs_natCast]; exact Nat.max_lt.mpr ⟨Nat.one_lt_two_pow (by decide), h1⟩) (by decide)
      have l2 : (max (a : Int).natAbs (b : Int).natAbs).log2 < 6000 := log_lt (by rw [Int.natAbs_natCast, Int.natAbs_natCast]; exact Nat.max_lt.mpr ⟨h1, h2⟩) (by decide)
      have l3 : (Nat.lcm a b).log2 < 12000 := log_lt (lcm_lt h1 h2) (by decide)
      refine call_function_meets PySem.W.MGF.kind_lcm PySem.W.MGF.plain_lcm PySem.W.MGF.entry_lcm (PySem.W.MGF.args_lcm _ _) (PySem.W.mg_run_lcm a t b u (by omega) (by omega) ?_).meets ?_
      · rw [e1, Int.natAbs_natCast]
        exact Nat.lt_trans l3 (by decide)
      · rw [e1]
        exact ⟨.int ((Nat.lcm a b : Nat) : Int), hp, Iv.kept (t' := sh.toks + 1) (fun _ _ e => e), ⟨_, rfl⟩, q⟩
end Kr
namespace Kr
open PySem PySem.Spec PyProof.Rows L2
/-! ### a bound of an order -/
theorem cube_le : ∀ l : Nat, l < 193 → l ^ 3 ≤ 3 ^ l := by decide +kernel
theorem lcm_cube : ∀ (ls : List Nat) (a s : Nat), a ^ 3 ≤ 3 ^ s → (∀ l ∈ ls, l < 193) → (ls.foldl Nat.lcm a) ^ 3 ≤ 3 ^ (s + ls.sum)
  | [], _, _, h, _ => h
  | l :: ls, a, s, h, hp => by
    have h1 : (Nat.lcm a l) ^ 3 ≤ 3 ^ (s + l) := by
      refine Nat.le_trans (Nat.pow_le_pow_left (PySem.W.mc_lcm_le a l) 3) ?_
      rw [Nat.mul_pow, Nat.pow_add]
      exact Nat.mul_le_mul h (cube_le l (hp l List.mem_cons_self))
    have := lcm_cube ls (Nat.lcm a l) (s + l) h1 fun x hx => hp x (List.mem_cons_of_mem _ hx)
    rw [List.foldl_cons, List.sum_cons, ← Nat.add_assoc]
    exact this
theorem len_flat : ∀ CL : List (List Pr), (CL.map List.length).sum = CL.flatten.length
  | [] => rfl
  | C :: CL => by rw [List.map_cons, List.sum_cons, List.flatten_cons, List.length_append, len_flat CL]
theorem lcm_small {CL : List (List Pr)} (h0 : ∀ C ∈ CL, C.length < 193) (h : CL.flatten.length ≤ 192) (i : Nat) : (((CL.map List.length).take i).foldl Nat.lcm 1) < 2 ^ 110 := by
  have hs : ((CL.map List.length).take i).sum ≤ 192 := by
    have e : (CL.map List.length).sum = ((CL.map List.length).take i).sum + ((CL.map List.length).drop i).sum := by rw [← List.sum_append_nat, List.take_append_drop]
    rw [len_flat] at e
    omega
  have hc := lcm_cube ((CL.map List.length).take i) 1 0 (by decide) fun l hl => by
    obtain ⟨C, hC, rfl⟩ := List.mem_map.mp (List.mem_of_mem_take hl)
    exact h0 C hC
  have h1 : 3 ^ (0 + ((CL.map List.length).take i).sum) ≤ 3 ^ 192 := Nat.pow_le_pow_right (by decide) (by omega)
  apply Classical.byContradiction
  intro hno
  have h2 : (2 ^ 110) ^ 3 ≤ (((CL.map List.length).take i).foldl Nat.lcm 1) ^ 3 := Nat.pow_le_pow_left (by omega) 3
  have h3 : 3 ^ 192 < (2 ^ 110) ^ 3 := by decide +kernel
  omega
/-- a bound of the order, to show it -/
theorem Rounds.ord_lt {n : Nat} {S : Pr → Pr} {CL : List (List Pr)} (hn : n ≤ 6) (h : Rounds n S CL) (h2 : CL.flatten.length ≤ 192) : lcmL (CL.map List.length) < 2 ^ 110 := by
  have := lcm_small (fun C hC => Nat.lt_succ_of_le (h.len hn hC)) h2 (CL.map List.length).length
  rw [List.take_length] at this
  exact this
end Kr
namespace Kr
open PySem PySem.Spec PyProof.Rows L2
theorem bigN_lt : bigN < 2 ^ 6000 := by decide +kernel
theorem lcmL_dvd {ls : List Nat} (h : ∀ l ∈ ls, 0 < l ∧ l ≤ 192) : lcmL ls ∣ bigN := (lcm_fold ls 1 bigN).mpr ⟨Nat.one_dvd _, fun l hl => dvd_big (h l hl).1 (h l hl).2⟩
theorem lcmL_snoc (ls : List Nat) (x : Nat) : lcmL (ls ++ [x]) = Nat.lcm (lcmL ls) x := by unfold lcmL; rw [List.foldl_append]; rfl
def spOrder : Sp := fun vs H Q _ => ∃ (n : Nat) (v : V) (T : List (List Int)), vs = [.int (n : Int), v] ∧ n ≤ 6 ∧ Dq H v (tabD T) ∧ TabOk n T ∧ ∀ H' (o : Nat), Same H H' → IsOrd n (stp n T) o → o < 2 ^ 110 → Q (.int (o : Int)) H'
end Kr
namespace Kr
open PySem PySem.Spec PyProof.Rows L2
/-! ### d.values() of a dict with tuple keys, and the list of them -/
section
variable {prog : Program} {w : World} {A : Around} {E : Value → Shared → Prop} {s : Shared} {o : Obj} {es : Array DictEntry} {ep : Nat}
theorem kdl_rawV {r d : Addr} (hd : o.data = .dict es ep) :
    PySem.W.KdlSrc prog w "dict_values" r d es.size (fun i v => ∃ en : DictEntry, es[i]? = some en ∧ v = en.val) (fun h => h.get? r = some (DSub.viewOb "dict_values" d) ∧ h.get? d = some o) where
  type := fun _ hm => ⟨_, hm.1, rfl⟩
  there := fun _ hm => ⟨Heap.lt_size hm.1, Heap.lt_size hm.2⟩
  keep := fun _ _ hm hk => ⟨hk r (.inl rfl) _ hm.1, hk d (.inr rfl) _ hm.2⟩
  notList := by decide
  notTuple := by decide
  hint := fun _ _ s _ hm hq => PySem.W.kdl_hint_values (s := s) ⟨_, hm.1, rfl⟩ hq
  iter := fun _ s hh hm => ⟨_, _, (fun _ _ hq => DSub.iter_vals hm.1 hm.2 hd hq), DSub.walksVal (a := d) hh (Nat.ne_of_lt (Heap.lt_size hm.2)) hd (fun i e he => ⟨e, he, rfl⟩), ⟨Heap.get?_push_size _ rfl, Heap.get?_push_of_some _ hm.2⟩⟩
theorem meetsValues {d : Addr} (hd : (d == sysModules) = false) :
    MeetsIn prog w (Builtin.«dict.values» ⟨[.ref d], []⟩) (fun _ R s => DT.Raw s.heap d es ep ∧ R (.ok (.ret (.ref s.heap.objs.size))) { s with heap := s.heap.push { cls := .type "dict_values", data := .fields #[.ref d] } }) :=
  .of_wp fun A R s ⟨hm, h⟩ => by
    refine wpAny_bind ?_
    unfold Builtin.Dict.noArgs
    refine wpAny_bind (wpAny_notOrdered_dict hm.typeIs ?_)
    show wpAny _ _ (pure d) _ _ s
    refine wpAny_pure ?_
    show wpAny _ _ (Builtin.Dict.showsAll d >>= _) _ _ s
    unfold Builtin.Dict.showsAll
    rw [if_neg (by rw [hd]; exact Bool.false_ne_true)]
    refine wpAny_bind (wpAny_pure ?_)
    exact wpAny_bind (wpAny_newObj_type (wpAny_pure ⟨_, rfl, h⟩))
theorem callValues {d : Addr} {Q : Value → Shared → Prop} (hd : (d == sysModules) = false) (hm : DT.Raw s.heap d es ep)
    (h : Q (.ref s.heap.objs.size) { s with heap := s.heap.push { cls := .type "dict_values", data := .fields #[.ref d] } }) : wpAny (model prog w) A (call (.builtin "dict.values") [.ref d]) Q E s :=
  call_meetsIn PySem.F.slot_dict_values hm.typeIs PySem.F.entry_dict_values (PySem.F.args_dict_values_1 _) (meetsValues (es := es) (ep := ep) hd) ⟨hm, h⟩
end
def rValsT : V → List V → Hp → VK → Prop := fun x xs H Q => ∃ (a : Addr) (kvs : List (List L2.Key × V)), x = .ref a ∧ xs = [] ∧ H a = some (.dT kvs) ∧ ∀ p, H p = none → Q (.ref p) (upd H p (viewO "dict_values" p a))
theorem mt_valuesT {X : Cx} : MtR X "dict.values" rValsT := by
  intro pins s σ H x xs v us Q I rx rxs h
  obtain ⟨a, kvs, rfl, rfl, ha, q⟩ := h
  cases rx
  cases rxs
  obtain ⟨z, hd, xs', rel, o, es, ep, ho, hx, hdat, _⟩ := dt_of I.hok ha
  refine callValues (es := es) (ep := ep) hd ⟨o, ho, hx, hdat⟩ ?_
  have hf : H s.heap.objs.size = none := I.hok.fresh (Nat.le_refl _)
  exact ⟨.ref s.heap.objs.size, upd H s.heap.objs.size (viewO "dict_values" s.heap.objs.size a), I.laid (t' := s.toks) (fun b u e => Heap.get?_push_of_some _ e) (Nat.le_refl _) (viewO_ok (Heap.get?_push_size _ rfl)), rfl, q _ hf⟩
def rListVals : List V → Hp → VK → Prop := fun xs H Q => ∃ (p d : Addr) (kvs : List (List L2.Key × V)), xs = [.ref p] ∧ H p = some (viewO "dict_values" p d) ∧ H d = some (.dT kvs) ∧ ∀ q, H q = none → Q (.ref q) (upd H q (.lst (kvs.map (·.2))))
theorem call_list_vals {X : Cx} (hc : X.calm = true) : CallR X (.type "list") rListVals := by
  intro pins s σ H xs us Q I r h
  obtain ⟨p, d, kvs, rfl, hp, hd, q⟩ := h
  obtain ⟨u, rfl, rx⟩ := r.one
  cases rx
  have hv : s.heap.get? p = some (DSub.viewOb "dict_values" d) := (show ObjOk X.prog X.w H s.heap p (viewO "dict_values" p d) from I.hok p _ hp).1
  obtain ⟨z, hs, ks, pr, o, es, ep, ho, hx, hdt, he, hn⟩ := (show ObjOk X.prog X.w H s.heap d (.dT kvs) from I.hok d _ hd)
  have l1 : es.size = ks.length := size_of_entries he
  have l2 : kvs.length = ks.length := Paired.length pr
  refine PySem.W.kdl_call (kdl_rawV hdt) (I.ok.hd hc) ⟨hv, ho⟩ (by omega) fun h' tk acc' c' kp e it => ?_
  have rv : Vals (kvs.map (·.2)) acc'.toList := by
    have hl : acc'.toList.length = ks.length := by rw [Array.length_toList, it.1]; exact l1
    refine vals_of_at (by rw [List.length_map, hl]; exact l2) fun j x w h1 h2 => ?_
    obtain ⟨en, hen, hv2⟩ := it.2 j w (by rw [← Array.getElem?_toList]; exact h2)
    have qe := entry_at he j
    rw [hen] at qe
    cases hb : ks[j]? with
    | none =>
      rw [hb] at qe
      exact nomatch (show some en = none from qe)
    | some b =>
      rw [hb] at qe
      have e2 : en = entryOfKey (tupleKind (mixKind X.prog X.w)) b := Option.some.inj qe
      obtain ⟨y, hy, ry⟩ := DX.pget pr hb
      rw [List.getElem?_map, hy] at h1
      cases h1
      rw [hv2, e2]
      exact ry.2.2
  have hz : (kvs.map (·.2)).length ≤ sizeLine := by rw [List.length_map]; exact z
  refine ⟨.ref s.heap.objs.size, _, I.laid (t' := tk) (o := .lst (kvs.map (·.2))) kp (Nat.le_refl _) ?_, rfl, q _ (I.hok.fresh (Nat.le_refl _))⟩
  exact ⟨hz, acc'.toList, c', rv, by rw [Array.toArray_toList]; exact e⟩
end Kr
namespace Kr
open PySem PySem.Spec PyProof.Rows L2
theorem dqa_at {H : Hp} : ∀ {xs : List V} {ds : List PyData}, xs.length = ds.length → (∀ (i : Nat) (x : V) (d : PyData), xs[i]? = some x → ds[i]? = some d → Dq H x d) → DqA H xs ds
  | [], [], _, _ => .nil
  | [], _ :: _, h, _ => by simp at h
  | _ :: _, [], h, _ => by simp at h
  | x :: xs, d :: ds, h, f => .cons (f 0 x d rfl rfl) (dqa_at (by simpa using h) fun i y e h1 h2 => f (i + 1) y e (by simpa using h1) (by simpa using h2))
/-! ### the rounds as the law keeps them -/
abbrev Rw := Pr × List Pr × Nat
def rowP (C : List Pr) : List Rw := C.zipIdx.map fun ps => (ps.1, C, ps.2)
def rowsOf (CL : List (List Pr)) : List Rw := CL.flatMap rowP
def roD (r : Rw) : PyData := .tuple [circD r.2.1, .int (r.2.2 : Int)]
theorem rowP_get {C : List Pr} {i : Nat} : (rowP C)[i]? = C[i]?.map fun p => (p, C, i) := by
  unfold rowP
  rw [List.getElem?_map, List.getElem?_zipIdx]
  cases C[i]? with
  | none => rfl
  | some p => simp
theorem rowP_fst (C : List Pr) : (rowP C).map (·.1) = C := by
  refine List.ext_getElem? fun i => ?_
  rw [List.getElem?_map, rowP_get]
  cases C[i]? <;> rfl
theorem rowsOf_fst : ∀ CL : List (List Pr), (rowsOf CL).map (·.1) = CL.flatten
  | [] => rfl
  | C :: CL => by
    unfold rowsOf
    rw [List.flatMap_cons, List.map_append, rowP_fst, List.flatten_cons]
    exact congrArg _ (rowsOf_fst CL)
theorem rowsOf_mem {CL : List (List Pr)} {r : Rw} (h : r ∈ rowsOf CL) : r.2.1 ∈ CL ∧ r.2.1[r.2.2]? = some r.1 := by
  obtain ⟨C, hC, hr⟩ := List.mem_flatMap.mp h
  obtain ⟨i, hi⟩ := List.getElem?_of_mem hr
  rw [rowP_get] at hi
  obtain ⟨p, hp, rfl⟩ := Option.map_eq_some_iff.mp hi
  exact ⟨hC, hp⟩
theorem rowsOf_snoc (CL : List (List Pr)) (P : List Pr) : rowsOf (CL ++ [P]) = rowsOf CL ++ rowP P := by
  unfold rowsOf
  rw [List.flatMap_append]
  simp
structure RndAt (H : Hp) (CL : List (List Pr)) (kvs : List (List Key × V)) : Prop where
  keys : kvs.map (·.1) = CL.flatten.map pK
  vals : DqA H (kvs.map (·.2)) ((rowsOf CL).map roD)
theorem RndAt.up {H H' : Hp} {CL : List (List Pr)} {kvs : List (List Key × V)} (h : RndAt H CL kvs) (s : Same H H') : RndAt H' CL kvs := ⟨h.keys, h.vals.up s⟩
theorem keys_none {kvs : List (List Key × V)} {L : List Pr} {q : Pr} (h : kvs.map (·.1) = L.map pK) (hq : q ∉ L) : valV kvs (pK q) = none := by
  cases e : valV kvs (pK q) with
  | none => rfl
  | some v =>
    obtain ⟨i, hi⟩ := valV_mem e
    have h1 : (kvs.map (·.1))[i]? = some (pK q) := by rw [List.getElem?_map, hi]; rfl
    rw [h, List.getElem?_map] at h1
    obtain ⟨p, hp, ep⟩ := Option.map_eq_some_iff.mp h1
    exact absurd (pK_inj ep ▸ List.mem_of_getElem? hp) hq
theorem keys_some {kvs : List (List Key × V)} {L : List Pr} {q : Pr} (h : kvs.map (·.1) = L.map pK) (hq : q ∈ L) : ∃ v, valV kvs (pK q) = some v := by
  cases e : valV kvs (pK q) with
  | some v => exact ⟨v, rfl⟩
  | none =>
    unfold valV at e
    rw [Option.map_eq_none_iff, List.find?_eq_none] at e
    have : pK q ∈ kvs.map (·.1) := by rw [h]; exact List.mem_map.mpr ⟨q, hq, rfl⟩
    obtain ⟨kv, hkv, ek⟩ := List.mem_map.mp this
    exact absurd (by simpa using ek) (e kv hkv)
/-- the round of a pair, and its place in it -/
theorem RndAt.val {H : Hp} {CL : List (List Pr)} {kvs : List (List Key × V)} (h : RndAt H CL kvs) {p : Pr} (hp : p ∈ CL.flatten) : ∃ a r xs C s, valV kvs (pK p) = some (.ref a) ∧ H a = some (.tup [.ref r, .int ((s : Nat) : Int)]) ∧ H r = some (.lst xs) ∧ DqA H xs (C.map pD) ∧ C ∈ CL ∧ C[s]? = some p := by
  obtain ⟨v, hv⟩ := keys_some h.keys hp
  obtain ⟨i, hi⟩ := valV_mem hv
  obtain ⟨d, hd, qd⟩ := h.vals.get (i := i) (v := v) (by rw [List.getElem?_map, hi]; rfl)
  rw [List.getElem?_map] at hd
  obtain ⟨r, hr, rfl⟩ := Option.map_eq_some_iff.mp hd
  have h1 : (kvs.map (·.1))[i]? = some (pK p) := by rw [List.getElem?_map, hi]; rfl
  rw [h.keys, ← rowsOf_fst, List.getElem?_map, List.getElem?_map, hr] at h1
  have e1 : r.1 = p := pK_inj (Option.some.inj h1)
  obtain ⟨m1, m2⟩ := rowsOf_mem (List.mem_of_getElem? hr)
  obtain ⟨a, ys, rfl, ha, q⟩ := Dq.tup_inv qd
  cases q with
  | cons q1 q =>
  cases q with
  | cons q2 q =>
  cases q
  cases q2
  cases q1 with
  | @lst b xs _ hb qx =>
  exact ⟨a, b, xs, r.2.1, r.2.2, hv, ha, hb, qx, m1, by rw [m2, e1]⟩
theorem row_at {H : Hp} {xs : List V} {T : List (List Int)} {i : Nat} (q : DqA H xs (T.map entD)) (hi : i < T.length) : ∃ a, xs[i]? = some (.ref a) ∧ H a = some (.tup ((T.getD i []).map V.int)) := by
  have hl : i < xs.length := by rw [q.len, List.length_map]; exact hi
  obtain ⟨e, he, a, ex, ha⟩ := ents_get q (List.getElem?_eq_getElem hl)
  refine ⟨a, by rw [List.getElem?_eq_getElem hl, ex], ?_⟩
  rw [getD_of he]
  exact ha
def spRounds : Sp := fun vs H Q _ => ∃ (n : Nat) (v : V) (T : List (List Int)), vs = [.int (n : Int), v] ∧ n ≤ 6 ∧ Dq H v (tabD T) ∧ TabOk n T ∧ ∀ H' D kvs CL, Same H H' → H D = none → H' D = some (.dT kvs) → RndAt H' CL kvs → Rounds n (stp n T) CL → CL.flatten.Nodup → CL.flatten.length ≤ 192 → Q (.ref D) H'
/-- what holds between the turns -/
structure RnSt (n : Nat) (T : List (List Int)) (D : Addr) (H1 G : Hp) (kvs : List (List Key × V)) (CL : List (List Pr)) : Prop where
  kp : ∀ b o, b ≠ D → H1 b = some o → G b = some o
  dict : G D = some (.dT kvs)
  rn : RndAt (hidS [D] G) CL kvs
  cyc : ∀ C ∈ CL, Cyc (stp n T) C
  nd : CL.flatten.Nodup
  sub : ∀ x ∈ CL.flatten, x ∈ prs n
section
variable {P : Program} {w : World} {K : PySem.W.Frag} {mg : Str → Option Value} {base : Heap}
abbrev nLr : List Str := ["n", "table", "every", "places", "found", "number", "x", "row", "here", "entry"]
theorem o_lRounds (D0 : Df K mg "_law_rounds" sLRounds ["n", "table"]) (B : Bi mg) (ev : Ok P w K mg base 1 "_law_every" ["n"] spEvery) (pl : Ok P w K mg base 2 "_law_places" ["n"] spNumbers) (kb : Ok P w K mg base 1 "_law_keys_behind" ["n", "entry"] spGoal) : Ok P w K mg base 3 "_law_rounds" ["n", "table"] spRounds := by
  have scLr : FnScope nLr ["n", "table"] (defScope sLRounds) := ⟨rfl, rfl, rfl, by decide +kernel, rfl, by decide +kernel, by decide +kernel⟩
  refine D0.ok fun f fd F => F.ok scLr (fun vs H Q E h => ?_) (fun cdv A outer s H vs Q E hr h => ?_)
  · obtain ⟨n, v, T, rfl, _⟩ := h
    rfl
  · obtain ⟨n, v, T, rfl, n1, hv, okT, q⟩ := h
    have hu1 := hu_of hr
    have hr1 := hr.mono (by decide : 1 ≤ 2)
    refine ⟨_, pss_cons (ps_par3 (i := 2) (j := 3) (l := 4) rfl scLr.nd rfl rfl rfl (by decide) (by decide) (by decide) rfl rfl rfl (pa_cons (pe_fn ev hr1 (by rfl) (pa_cons (pv 0) pa_nil)) (pa_cons (pe_fn pl hr (by rfl) (pa_cons (pv 0) pa_nil)) (pa_cons pe_dnewT pa_nil))) (by rfl))
      (pss_cons (ps_for PassesOwn.never rfl (pi_range1 (by rfl) B.range (pa_cons (pe_callB call_len_seq (by rfl) B.len boot_len (pa_cons (pv 2) pa_nil)) pa_nil)) (pg_name (i := 5) scLr.nd rfl (.inl rfl))
        (pss_one (ps_for PassesOwn.never rfl (pi_range1 (by rfl) B.range (pa_cons (pv 0) pa_nil)) (pg_name (i := 6) scLr.nd rfl (.inl rfl))
          (pss_cons (ps_par (i := 7) (j := 8) rfl scLr.nd rfl rfl (by decide) rfl rfl (pa_cons (pe_lst pa_nil) (pa_cons (pe_tup (pa_cons (pv 5) (pa_cons (pv 6) pa_nil))) pa_nil)) (by rfl))
          (pss_one (ps_while PassesOwn.never (PW.pt (pw_and (pt_cmp (pc_dnotin hu1 (pv 8) (pv 4)) (by rfl)) (pw_and1 (pt_cmpR op_ge (pe_ix ix_tup (pe_ix ix_tup (pv 1) (pe_ix ix_tup (pv 8) pe_int (fun _ _ => rfl)) (fun _ _ => rfl)) (pe_ix ix_tup (pv 8) pe_int (fun _ _ => rfl)) (fun _ _ => rfl)) pe_int (nomark _)))))
            (pss_cons (ps_dput hu1 (pv 4) (pv 8) (pe_tup (pa_cons (pv 7) (pa_cons (pe_callB call_len_seq (by rfl) B.len boot_len (pa_cons (pv 7) pa_nil)) pa_nil))) rfl)
            (pss_cons (ps_expr (pe_bm PySem.F.plainAttrs_list PySem.F.slot_list_append PySem.F.type_list_append mt_append (pv 7) (pa_cons (pv 8) pa_nil)))
            (pss_cons (ps_set (i := 9) scLr.nd rfl (.inl rfl) (pe_ix ix_tup (pv 1) (pe_ix ix_tup (pv 8) pe_int (fun _ _ => rfl)) (fun _ _ => rfl)))
            (pss_one (ps_set (i := 8) scLr.nd rfl (.inl rfl) (pe_tup (pa_cons (pe_dget hu1 (pv 3) (pe_fn kb hr1 (by rfl) (pa_cons (pv 0) (pa_cons (pv 9) pa_nil))) (fun _ _ => rfl)) (pa_cons (pe_ix ix_tup (pv 9) (pe_ix ix_tup (pv 8) pe_int (fun _ _ => rfl)) (fun _ _ => rfl)) pa_nil))))))))))))))
      (pss_one (ps_ret (pv 4)))), ?_⟩
    refine ⟨.int n, rfl, n, rfl, n1, fun He ve s1 hve => ?_⟩
    refine ⟨.int n, rfl, n, rfl, n1, fun Hp pl0 nbs s2 hpl hnb => ?_⟩
    refine fun D nD => ?_
    have s3 := same_new (o := .dT []) nD
    have hD : upd Hp D (.dT []) D = some (.dT []) := upd_same
    have hpD : pl0 ≠ D := ne_of_none hpl nD
    have sH := s1.trans (s2.trans s3)
    have nD0 : H D = none := s1.free (s2.free nD)
    have hv1 := hv.up sH
    have hpl1 := s3 _ _ hpl
    have hve1 := hve.up (s2.trans s3)
    generalize upd Hp D (.dT []) = H1 at hD sH hv1 hpl1 hve1
    clear s1 s2 s3 nD hpl hve
    cases hve1 with
    | @lst ea es _ hea qe =>
    have hp64 : 2 ^ n ≤ 64 := by have := all_few n (by omega); rw [all_len n (by omega)] at this; exact this
    have hel : es.length = 2 ^ n := by rw [qe.len, List.length_map, all_len n (by omega)]
    obtain ⟨va, xs, rfl, hva, qx⟩ := Dq.tup_inv hv1
    have hTl := okT.len n1
    have hvD : va ≠ D := ne_of hva hD (by intro z; cases z)
    have nf : ∀ b o, H b = some o → b ≠ D := fun b o hb z => by rw [z, nD0] at hb; cases hb
    refine ⟨_, _, _, rfl, ?_⟩
    try dsimp only [tNext]
    refine ⟨.ref ea, rfl, ea, es, rfl, .inl (SqL.of hea), (es.length : Int), rfl, by omega, by omega, ?_⟩
    rw [Int.toNat_natCast, hel]
    refine for_it (walk_rg (n := 2 ^ n)) (fun i σ G => ∃ (v5 v6 v7 v8 v9 : Option V) (kvs : List (List Key × V)) (CL : List (List Pr)), σ = [some (.int n), some (.ref va), some (.ref ea), some (.ref pl0), some (.ref D), v5, v6, v7, v8, v9] ∧ RnSt n T D H1 G kvs CL ∧ ∀ p ∈ prs n, p.1 < i → p ∈ CL.flatten)
      ⟨_, _, _, _, _, [], [], rfl, ⟨fun _ _ _ h => h, hD, ⟨rfl, .nil⟩, (fun _ h => nomatch h), List.nodup_nil, (fun _ h => nomatch h)⟩, fun _ _ h => absurd h (Nat.not_lt_zero _)⟩ (fun _ _ _ _ _ => trivial) ?_ ?_
    · rintro i _ σ _ G hi ⟨v5, v6, v7, v8, v9, kvs, CL, rfl, st, all⟩ ⟨rfl, rfl⟩
      refine ⟨.int n, rfl, (n : Int), rfl, by omega, by omega, ?_⟩
      rw [Int.toNat_natCast]
      refine for_it (walk_rg (n := n)) (fun j σ G => ∃ (v6 v7 v8 v9 : Option V) (kvs : List (List Key × V)) (CL : List (List Pr)), σ = [some (.int n), some (.ref va), some (.ref ea), some (.ref pl0), some (.ref D), some (.int i), v6, v7, v8, v9] ∧ RnSt n T D H1 G kvs CL ∧ ∀ p ∈ prs n, (p.1 < i ∨ p.1 = i ∧ p.2 < j) → p ∈ CL.flatten)
        ⟨_, _, _, _, kvs, CL, rfl, st, fun p hp h => all p hp (h.elim (fun z => z) fun z => absurd z.2 (Nat.not_lt_zero _))⟩ (fun _ _ _ _ _ => trivial) ?_ ?_
      · rintro j _ σ _ G hj ⟨v6, v7, v8, v9, kvs, CL, rfl, st, all⟩ ⟨rfl, rfl⟩
        have of0 : Offs [D] G := ⟨fun b hb => by
          rw [List.mem_singleton.mp hb]
          exact ⟨_, st.dict, by intro xs z; cases z⟩⟩
        refine ⟨by show 0 ≤ sizeLine; decide, fun c nc => ?_⟩
        have ncD : c ≠ D := fun z => of0.new nc (by rw [z]; simp)
        have sc := same_new (o := .lst []) nc
        have hc : upd G c (.lst []) c = some (.lst []) := upd_same
        have nfc : ∀ b o, G b = some o → b ≠ c := fun b o hb => ne_of_none hb nc
        generalize upd G c (.lst []) = G0 at sc hc
        refine ⟨.int i, rfl, .int j, rfl, by show 2 ≤ sizeLine; decide, fun b0 nb0 => ?_⟩
        have sb := same_new (o := .tup [.int (i : Int), .int (j : Int)]) nb0
        have hb0 : upd G0 b0 (.tup [.int (i : Int), .int (j : Int)]) b0 = some (.tup (pV (i, j))) := upd_same
        have hc1 := sb _ _ hc
        have s01 := sc.trans sb
        generalize upd G0 b0 (.tup [.int (i : Int), .int (j : Int)]) = G1 at sb hb0 hc1 s01
        clear sc hc sb nb0
        refine ⟨_, _, rfl, ?_⟩
        try dsimp only [tNext]
        refine while_by (fun σ G2 => ∃ (b : Addr) (ws : List V) (P : List Pr) (q : Pr) (v9 : Option V) (kvP : List (List Key × V)), σ = [some (.int n), some (.ref va), some (.ref ea), some (.ref pl0), some (.ref D), some (.int i), some (.int j), some (.ref c), some (.ref b), v9] ∧ (∀ b' o, b' ≠ D → b' ≠ c → G1 b' = some o → G2 b' = some o) ∧
            G2 D = some (.dT (kvs ++ kvP)) ∧ (kvs ++ kvP).map (·.1) = (CL.flatten ++ P).map pK ∧ kvP.length = P.length ∧ (∀ (l : Nat) (kv : List Key × V), kvP[l]? = some kv → ∃ a, kv.2 = .ref a ∧ G2 a = some (.tup [.ref c, .int (l : Int)])) ∧ G2 c = some (.lst ws) ∧ DqA G2 ws (P.map pD) ∧ G2 b = some (.tup (pV q)) ∧
            Path (stp n T) P q ∧ (P ++ [q])[0]? = some (i, j) ∧ (CL.flatten ++ P).Nodup ∧ (∀ x ∈ CL.flatten ++ P, x ∈ prs n) ∧ q.1 < 2 ^ n ∧ q.2 < n ∧ (q ∈ prs n ∨ P = []))
          (fun σ G2 => match G2 D with | some (.dT kvm) => 400 - kvm.length | _ => 0)
          ⟨b0, [], [], (i, j), v9, [], rfl, fun _ _ _ _ h => h, by rw [List.append_nil]; exact s01 _ _ st.dict, by rw [List.append_nil, List.append_nil]; exact st.rn.keys, rfl, (fun _ _ h => nomatch h), hc1, .nil, hb0, ⟨fun i x h => by simp at h⟩, rfl, by rw [List.append_nil]; exact st.nd, by rw [List.append_nil]; exact st.sub, hi, hj, .inr rfl⟩ ?_ ?_
        rotate_left
        · exact mono_and (mono_B (mono_dnotin (mono_var 8) (mono_var 4))) (mono_test (mono_op (mono_rI0 _) (mono_op (mono_ixT _) (mono_op (mono_ixT _) (mono_var 1) (mono_op (mono_ixT _) (mono_var 8) (mono_c _))) (mono_op (mono_ixT _) (mono_var 8) (mono_c _))) (mono_c _)))
        rintro σ G2 ⟨b, ws, P, qq, v9, kvP, rfl, k2, hD2, hks, hkl, hkP, hc2, qws, hb2, hpa, hst0, nd2, sub2, hq1, hq2, hqp⟩
        have hLl := Nat.le_trans (sub_len nd2 sub2) (prs_len n (by omega))
        have hkvl : (kvs ++ kvP).length ≤ 192 := by
          have := congrArg List.length hks
          rw [List.length_map, List.length_map] at this
          omega
        have hwl : ws.length = P.length := by rw [qws.len, List.length_map]
        have hPl : P.length ≤ 192 := by rw [List.length_append] at hLl; omega
        have kG : ∀ b' o, b' ≠ D → G b' = some o → G2 b' = some o := fun b' o h1 h2 => k2 _ _ h1 (nfc _ _ h2) (s01 _ _ h2)
        have k1 : ∀ b' o, b' ≠ D → H1 b' = some o → G2 b' = some o := fun b' o h1 h2 => kG _ _ h1 (st.kp _ _ h1 h2)
        have sG : Same (hidS [D] G) (hidS [D] G2) := fun b' o hb => by
          obtain ⟨h1, h2⟩ := hidS_some hb
          rw [hidS_ne h1]
          exact kG _ _ (fun z => h1 (by rw [z]; simp)) h2
        have hqs : ∀ p ∈ prs n, (p.1 < i ∨ p.1 = i ∧ p.2 < j + 1) → p ≠ (i, j) → p ∈ CL.flatten := fun p hp h hne => all p hp (by
          rcases h with h | ⟨h1, h2⟩
          · exact .inl h
          · refine .inr ⟨h1, ?_⟩
            by_cases e : p.2 = j
            · exact absurd (Prod.ext h1 e) hne
            · omega)
        have hva2 := k1 _ _ hvD hva
        refine ⟨.ref b, rfl, .ref D, rfl, D, valV (kvs ++ kvP) (pK qq), rfl, DGet.t hD2 hb2, _, rfl, ?_⟩
        by_cases hin : qq ∈ CL.flatten ++ P
        · obtain ⟨v0, hv0⟩ := keys_some hks hin
          rw [hv0]
          refine iteF (iteF ?_)
          cases hP : P with
          | nil =>
            subst hP
            obtain rfl : kvP = [] := List.length_eq_zero_iff.mp hkl
            rw [List.append_nil] at hD2 hin
            have eq0 : qq = (i, j) := Option.some.inj hst0
            refine ⟨_, _, _, _, kvs, CL, rfl, ⟨k1, hD2, st.rn.up sG, st.cyc, st.nd, st.sub⟩, fun p hp h => ?_⟩
            by_cases e : p = (i, j)
            · rw [e, ← eq0]
              exact hin
            · exact hqs p hp h e
          | cons x r =>
            have hne : P ≠ [] := by rw [hP]; exact List.cons_ne_nil _ _
            have inj : ∀ a b, a ∈ prs n → b ∈ prs n → stp n T a = stp n T b → a = b := fun a b ha hb e => stp_inj n1 okT ha hb e
            have hcy := path_close inj hpa hne nd2 sub2 st.cyc hin
            have efl : (CL ++ [P]).flatten = CL.flatten ++ P := by rw [List.flatten_append]; simp
            have hx0 : (i, j) ∈ P := by
              rw [hP] at hst0
              have : x = (i, j) := Option.some.inj hst0
              rw [hP, ← this]
              exact List.mem_cons_self
            refine ⟨_, _, _, _, kvs ++ kvP, CL ++ [P], rfl, ⟨k1, hD2, ⟨by rw [efl]; exact hks, ?_⟩, fun C hC => ?_, by rw [efl]; exact nd2, by rw [efl]; exact sub2⟩, fun p hp h => ?_⟩
            · rw [List.map_append, rowsOf_snoc, List.map_append]
              refine (st.rn.vals.up sG).app (dqa_at (by rw [List.length_map, List.length_map, hkl]; unfold rowP; rw [List.length_map, List.length_zipIdx]) fun l x d h1 h2 => ?_)
              rw [List.getElem?_map] at h1 h2
              obtain ⟨kv, hkv, rfl⟩ := Option.map_eq_some_iff.mp h1
              obtain ⟨rr, hrr, rfl⟩ := Option.map_eq_some_iff.mp h2
              rw [rowP_get] at hrr
              obtain ⟨pp, hpp, rfl⟩ := Option.map_eq_some_iff.mp hrr
              obtain ⟨a, ea, ha⟩ := hkP l kv hkv
              have of2 : Offs [D] G2 := ⟨fun b' hb => by
                rw [List.mem_singleton.mp hb]
                exact ⟨_, hD2, by intro xs z; cases z⟩⟩
              rw [ea]
              refine .tup (of2.tup ha) (.cons (.lst (xs := ws) (by rw [hidS_ne (by simpa using ncD)]; exact hc2) ?_) (.cons (.int _) .nil))
              exact DqA.upT (fun b' ys hb => of2.tup hb) (pD_flat _) qws
            · rcases List.mem_append.mp hC with d | d
              · exact st.cyc C d
              · rw [List.mem_singleton.mp d]
                exact hcy
            · rw [efl]
              by_cases e : p = (i, j)
              · rw [e]
                exact List.mem_append_right _ hx0
              · exact List.mem_append_left _ (hqs p hp h e)
        · rw [keys_none hks hin]
          obtain ⟨ra, hra, hrr⟩ := row_at qx (i := qq.1) (by rw [hTl]; exact hq1)
          have hE := okT.at_i n1 hq1
          have hraD : ra ≠ D := ne_of hrr hD (by intro z; cases z)
          have hrr2 := k1 _ _ hraD hrr
          have hcell : ((T.getD qq.1 []).map V.int)[qq.2]? = some (.int ((T.getD qq.1 []).getD qq.2 0)) := by rw [List.getElem?_map, getD_get (by rw [hE.len]; exact hq2)]; rfl
          refine iteT ⟨.ref va, rfl, .ref b, rfl, b, _, ((0 : Nat) : Int), _, rfl, rfl, SqT.of hb2, atI_nat (j := 0) rfl, va, xs, _, _, rfl, rfl, SqT.of hva2, atI_nat hra, .ref b, rfl, b, _, ((1 : Nat) : Int), _, rfl, rfl, SqT.of hb2, atI_nat (j := 1) rfl, ra, _, _, _, rfl, rfl, SqT.of hrr2, atI_nat hcell, _, _, rfl, rfl, _, rfl, ?_⟩
          by_cases hpr : qq ∈ prs n
          · have hm : qq.2 ∉ lotI n qq.1 := (mem_prs.mp hpr).2.2
            obtain ⟨z0, z1⟩ := hE.rid qq.2 hq2 hm
            obtain ⟨m, hm2⟩ : ∃ m : Nat, (T.getD qq.1 []).getD qq.2 0 = m := ⟨_, (Int.toNat_of_nonneg z0).symm⟩
            have hstp : stp n T qq = (num n (goalE n (T.getD qq.1 [])), m) := by
              unfold stp
              rw [hm2, Int.toNat_natCast]
            rw [decide_eq_true z0]
            refine iteT ?_
            try dsimp only [tNext]
            refine ⟨.ref c, rfl, .ref c, rfl, c, ws, rfl, .inl (SqL.of hc2), by show 2 ≤ sizeLine; decide, fun a na => ?_⟩
            have sa := same_new (o := .tup [.ref c, .int (ws.length : Nat)]) na
            have ha : upd G2 a (.tup [.ref c, .int (ws.length : Nat)]) a = some (.tup [.ref c, .int (ws.length : Nat)]) := upd_same
            have hD3 := sa _ _ hD2
            have hb3 := sa _ _ hb2
            generalize upd G2 a (.tup [.ref c, .int (ws.length : Nat)]) = G3 at sa ha hD3 hb3
            refine ⟨.ref D, rfl, .ref b, rfl, D, _, rfl, DPut.t (k := pK qq) hD3 hb3 (szl (by omega)), ?_⟩
            rw [putK_new _ (keys_none hks hin)]
            have hD4 : upd G3 D (.dT (kvs ++ kvP ++ [(pK qq, .ref a)])) D = some (.dT (kvs ++ kvP ++ [(pK qq, .ref a)])) := upd_same
            have t4 : TS G3 (upd G3 D (.dT (kvs ++ kvP ++ [(pK qq, .ref a)]))) := fun b' ys hb => by
              rw [upd_ne (ne_of hb hD3 (by intro z; cases z))]
              exact hb
            have k4 : ∀ b' o, b' ≠ D → G2 b' = some o → upd G3 D (.dT (kvs ++ kvP ++ [(pK qq, .ref a)])) b' = some o := fun b' o h1 h2 => by rw [upd_ne h1]; exact sa _ _ h2
            have t24 := (TS.of sa).trans t4
            have ha4 := t4 _ _ ha
            generalize upd G3 D (.dT (kvs ++ kvP ++ [(pK qq, .ref a)])) = G4 at hD4 t4 k4 t24 ha4
            clear sa ha hD3 hb3 t4
            have hc4 := k4 _ _ ncD hc2
            have hb4 := t24 _ _ hb2
            try dsimp only [tNext]
            refine ⟨.ref c, rfl, .inl ⟨rfl, _, SqL.of hc4⟩, .ref b, rfl, c, ws, .ref b, rfl, rfl, hc4, szl (by omega), ?_⟩
            have hc5 : upd G4 c (.lst (ws ++ [.ref b])) c = some (.lst (ws ++ [.ref b])) := upd_same
            have t5 : TS G4 (upd G4 c (.lst (ws ++ [.ref b]))) := TS.lst hc4
            have k5 : ∀ b' o, b' ≠ D → b' ≠ c → G2 b' = some o → upd G4 c (.lst (ws ++ [.ref b])) b' = some o := fun b' o h1 h2 h3 => by rw [upd_ne h2]; exact k4 _ _ h1 h3
            have hD5 : upd G4 c (.lst (ws ++ [.ref b])) D = some (.dT (kvs ++ kvP ++ [(pK qq, .ref a)])) := by rw [upd_ne ncD.symm]; exact hD4
            have t25 := t24.trans t5
            have ha5 := t5 _ _ ha4
            generalize upd G4 c (.lst (ws ++ [.ref b])) = G5 at hc5 t5 k5 hD5 t25 ha5
            clear k4 hD4 ha4 hc4 t5
            have hva5 := t25 _ _ hva2
            have hb5 := t25 _ _ hb2
            have hrr5 := t25 _ _ hrr2
            try dsimp only [tNext]
            refine ⟨.ref va, rfl, .ref b, rfl, b, _, ((0 : Nat) : Int), _, rfl, rfl, SqT.of hb5, atI_nat (j := 0) rfl, va, xs, _, _, rfl, rfl, SqT.of hva5, atI_nat hra, ?_⟩
            try dsimp only [tNext]
            refine ⟨.ref pl0, rfl, .int n, rfl, .ref ra, rfl, n, ra, T.getD qq.1 [], rfl, by omega, hrr5, fun G6 g0 s6 hg => ?_⟩
            have hgl := goal_all n1 (T.getD qq.1 [])
            have hplc : pl0 ≠ c := fun z => by
              have h1 := st.kp _ _ hpD hpl1
              rw [z, nc] at h1
              cases h1
            have hpl6 := s6 _ _ (k5 _ _ hpD hplc (k1 _ _ hpD hpl1))
            refine ⟨pl0, .int ((num n (goalE n (T.getD qq.1 [])) : Nat) : Int), rfl, ?_, .ref ra, rfl, .ref b, rfl, b, _, ((1 : Nat) : Int), _, rfl, rfl, SqT.of (s6 _ _ hb5), atI_nat (j := 1) rfl, ra, _, _, _, rfl, rfl, SqT.of (s6 _ _ hrr5), atI_nat hcell, by show 2 ≤ sizeLine; decide, fun b' nb' => ?_⟩
            · rw [← hnb _ hgl]
              exact DGet.t hpl6 (by rw [lotK_v]; exact hg)
            have s7 := s6.trans (same_new (o := .tup [.int ((num n (goalE n (T.getD qq.1 [])) : Nat) : Int), .int ((T.getD qq.1 []).getD qq.2 0)]) nb')
            have hb7 : upd G6 b' (.tup [.int ((num n (goalE n (T.getD qq.1 [])) : Nat) : Int), .int ((T.getD qq.1 []).getD qq.2 0)]) b' = some (.tup (pV (stp n T qq))) := by
              rw [upd_same, hstp, hm2]
            generalize upd G6 b' (.tup [.int ((num n (goalE n (T.getD qq.1 [])) : Nat) : Int), .int ((T.getD qq.1 []).getD qq.2 0)]) = G7 at s7 hb7
            have t27 := t25.trans (TS.of s7)
            have hD7 := s7 _ _ hD5
            have hnx := stp_in n1 okT hpr
            try dsimp only [tNext]
            refine ⟨⟨b', ws ++ [.ref b], P ++ [qq], stp n T qq, _, kvP ++ [(pK qq, .ref a)], rfl, fun b1 o h1 h2 h3 => s7 _ _ (k5 _ _ h1 h2 (k2 _ _ h1 h2 h3)), by rw [← List.append_assoc]; exact hD7, ?_, by rw [List.length_append, List.length_append, hkl]; rfl, fun l kv hkv => ?_, s7 _ _ hc5, ?_, hb7, hpa.more, ?_, ?_, fun x hx => ?_, (mem_prs.mp hnx).1, (mem_prs.mp hnx).2.1, .inl hnx⟩, ?_⟩
            · rw [← List.append_assoc, ← List.append_assoc, List.map_append, hks, List.map_append (l₁ := CL.flatten ++ P)]
              rfl
            · rcases Nat.lt_trichotomy l kvP.length with d | d | d
              · rw [List.getElem?_append_left d] at hkv
                obtain ⟨a', e1, e2⟩ := hkP l kv hkv
                exact ⟨a', e1, t27 _ _ e2⟩
              · subst d
                rw [List.getElem?_append_right (Nat.le_refl _), Nat.sub_self] at hkv
                cases Option.some.inj hkv
                exact ⟨a, rfl, by rw [hkl, ← hwl]; exact s7 _ _ ha5⟩
              · rw [List.getElem?_eq_none (by rw [List.length_append]; show _ + 1 ≤ _; omega)] at hkv
                cases hkv
            · rw [List.map_append]
              exact dqa_snoc (DqA.upT t27 (pD_flat _) qws) (pD_at (t27 _ _ hb2))
            · rw [List.getElem?_append_left (by rw [List.length_append]; show 0 < _ + 1; omega)]
              exact hst0
            · rw [← List.append_assoc]
              refine List.nodup_append.mpr ⟨nd2, by simp, fun x hx y hy z => ?_⟩
              rw [List.mem_singleton.mp hy] at z
              exact hin (z ▸ hx)
            · rw [← List.append_assoc] at hx
              rcases List.mem_append.mp hx with d | d
              · exact sub2 x d
              · rw [List.mem_singleton.mp d]
                exact hpr
            · show (match G7 D with | some (.dT kvm) => 400 - kvm.length | _ => 0) < (match G2 D with | some (.dT kvm) => 400 - kvm.length | _ => 0)
              rw [hD7, hD2]
              show 400 - (kvs ++ kvP ++ [(pK qq, V.ref a)]).length < 400 - (kvs ++ kvP).length
              rw [List.length_append (as := kvs ++ kvP)]
              show 400 - (_ + 1) < _
              omega
          · have hP0 : P = [] := hqp.resolve_left hpr
            subst hP0
            obtain rfl : kvP = [] := List.length_eq_zero_iff.mp hkl
            rw [List.append_nil] at hD2
            have eq0 : qq = (i, j) := Option.some.inj hst0
            have hkey := hE.key qq.2 hq2 (by
              apply Classical.byContradiction
              intro hno
              exact hpr (mem_prs.mpr ⟨hq1, hq2, hno⟩))
            rw [decide_eq_false (by rw [hkey]; decide)]
            refine iteF ⟨_, _, _, _, kvs, CL, rfl, ⟨k1, hD2, st.rn.up sG, st.cyc, st.nd, st.sub⟩, fun p hp h => hqs p hp h fun e => ?_⟩
            rw [e, ← eq0] at hp
            exact hpr hp
      · rintro σ G ⟨v6, v7, v8, v9, kvs, CL, rfl, st, all⟩
        refine ⟨_, _, _, _, _, kvs, CL, rfl, st, fun p hp h => all p hp ?_⟩
        by_cases c : p.1 < i
        · exact .inl c
        · exact .inr ⟨by omega, (mem_prs.mp hp).2.1⟩
    · rintro σ G ⟨v5, v6, v7, v8, v9, kvs, CL, rfl, st, all⟩
      have hall : ∀ p ∈ prs n, p ∈ CL.flatten := fun p hp => all p hp (mem_prs.mp hp).1
      exact ⟨.ref D, rfl, q G D kvs CL (fun b o hb => st.kp _ _ (nf _ _ hb) (sH _ _ hb)) nD0 st.dict (st.rn.up (hidS_same _ _)) ⟨st.cyc, fun C hC p hp => st.sub p (List.mem_flatten.mpr ⟨C, hC, hp⟩), fun p hp => List.mem_flatten.mp (hall p hp)⟩ st.nd (Nat.le_trans (sub_len st.nd st.sub) (prs_len n (by omega)))⟩
end
end Kr
namespace Kr
open PySem PySem.Spec PyProof.Rows L2
theorem lt_pow {a m k : Nat} (h : a < 2 ^ m) (hk : m ≤ k) : a < 2 ^ k := Nat.lt_of_lt_of_le h (Nat.pow_le_pow_right (by decide) hk)
def spFar : Sp := fun vs H Q _ => ∃ (p l : Addr), vs = [.ref p] ∧ Deck H p l ∧ ∀ H' (r : Int), Deck H' p l → Ext p l H H' → 0 ≤ r → r < 1000000000000000000000000000000 → Q (.int r) H'
def spCommon : Sp := fun vs H Q _ => ∃ a b : Nat, vs = [.int (a : Int), .int (b : Int)] ∧ 0 < a ∧ 0 < b ∧ a < 2 ^ 4000 ∧ b < 2 ^ 4000 ∧ Q (.int ((Nat.lcm a b : Nat) : Int)) H
def spPrimes : Sp := fun vs H Q _ => ∃ m : Nat, vs = [.int (m : Int)] ∧ 0 < m ∧ m < 2 ^ 2000 ∧ ∀ H' p (ps : List Nat), Same H H' → H p = none → H' p = some (.lst (ps.map fun x : Nat => V.int (x : Int))) → (∀ x ∈ ps, 2 ≤ x ∧ x ∣ m) → ps.length ≤ 3000 → Q (.ref p) H'
section
variable {P : Program} {w : World} {K : PySem.W.Frag} {mg : Str → Option Value} {base : Heap}
abbrev nLf : List Str := ["box", "found", "turn"]
theorem o_lFar (D0 : Df K mg "_law_far" sLFar ["box"]) (B : Bi mg) (dr : Ok P w K mg base 1 "_law_draw" ["box", "many"] spDraw) : Ok P w K mg base 2 "_law_far" ["box"] spFar := by
  have scLf : FnScope nLf ["box"] (defScope sLFar) := ⟨rfl, rfl, rfl, by decide +kernel, rfl, by decide +kernel, by decide +kernel⟩
  refine D0.ok fun f fd F => F.ok scLf (fun vs H Q E h => ?_) (fun cdv A outer s H vs Q E hr h => ?_)
  · obtain ⟨p, l, rfl, _⟩ := h
    rfl
  · obtain ⟨p, l, rfl, hd, q⟩ := h
    refine ⟨_, pss_cons (ps_set (i := 1) scLf.nd rfl (.inl rfl) pe_int)
      (pss_cons (ps_for PassesOwn.never rfl (pi_range1 (by rfl) B.range (pa_cons pe_int pa_nil)) (pg_name (i := 2) scLf.nd rfl (.inl rfl))
        (pss_one (ps_set (i := 1) scLf.nd rfl (.inl rfl) (pe_op op_add (pe_op op_mul pe_int (pv 1)) (pe_fn dr hr (by rfl) (pa_cons (pv 0) (pa_cons pe_int pa_nil)))))))
      (pss_one (ps_ret (pv 1)))), ?_⟩
    refine ⟨(6 : Int), rfl, by decide, by decide, ?_⟩
    refine for_it (walk_rg (n := 6)) (fun i σ G => ∃ (r : Int) (v2 : Option V), σ = [some (.ref p), some (.int r), v2] ∧ Deck G p l ∧ Ext p l H G ∧ 0 ≤ r ∧ r < 100000 ^ i) ⟨0, _, rfl, hd, Ext.rfl, by decide, by decide⟩ (fun _ _ _ _ _ => trivial) ?_ ?_
    · rintro i _ σ _ G hi ⟨r, v2, rfl, hG, e, r0, r1⟩ ⟨rfl, rfl⟩
      refine ⟨_, rfl, _, _, rfl, rfl, .inl ⟨by decide, by decide⟩, .ref p, rfl, p, l, 100000, rfl, hG, by decide, by decide, fun G2 u hG2 e2 u0 u1 => ⟨_, _, rfl, rfl, 100000 * r + u, _, rfl, hG2, e.trans e2, by omega, ?_⟩⟩
      rw [Int.pow_succ]
      omega
    · rintro σ G ⟨r, v2, rfl, hG, e, r0, r1⟩
      exact ⟨_, rfl, q _ _ hG e r0 (by simpa using r1)⟩
end
end Kr
namespace Kr
open PySem PySem.Spec PyProof.Rows L2
def spTableOf (n : Nat) : Sp := fun vs H Q _ => ∃ (v : V) (p : List Tm) (m : Nat), vs = [.int (m : Int), v] ∧ m ≤ 6 ∧ Dq H v (.tuple (p.map tmD)) ∧ PrOk (Deed m) 400 n p ∧ ∀ H' r, Same H H' → Dq H' r (tabD (progW (tabM m) p)) → Q r H'
section
variable {P : Program} {w : World} {K : PySem.W.Frag} {mg : Str → Option Value} {base : Heap}
variable {C : Addr}
theorem f_tableOf {f : Addr} {fd : FuncData} {n : Nat} {fi : Addr} {fdi : FuncData} (F : Fun K "table_of" "table_of" sTableOf f fd) (M : Mk K C fi) (mC : mg "TableMeasure" = some (.ref C)) (GI : FnOk P w K mg base CX0 1 fi fdi ["self", "n"] (spMakeN C)) (bI : Binds K fdi ["self", "n"] [])
    (pw : ∀ m (hm : m ≤ 6), Ok P w K mg base (8 + n + 1) "program_worth" ["program", "measure"] (spPW (tabR m hm) C n)) : FnOk P w K mg base CX0 (8 + n + 2) f fd ["n", "program"] (spTableOf n) := by
  have sc : FnScope ["n", "program"] ["n", "program"] (defScope sTableOf) := ⟨rfl, rfl, rfl, by decide +kernel, rfl, by decide +kernel, by decide +kernel⟩
  refine F.ok sc (fun vs H Q E h => ?_) (fun cdv A outer s H vs Q E hr h => ?_)
  · obtain ⟨_, _, _, rfl, _⟩ := h
    rfl
  · obtain ⟨v, p, m, rfl, hm, hv, hp, q⟩ := h
    have hr2 := hr.mono (show 1 + 1 ≤ 8 + n + 1 by omega)
    refine ⟨_, pss_one (ps_ret (pe_fn (pw m hm) hr (by rfl) (pa_cons (pv 1) (pa_cons (pe_make M GI hr2 (by rfl) mC bI .nil pass0 (pa_cons (pv 0) pa_nil)) pa_nil)))), ?_⟩
    refine ⟨v, rfl, .int (m : Int), rfl, fun x dx hx hd hne => ⟨x, dx, m, rfl, upd_same, rfl, ?_⟩⟩
    have s1 : Same H (upd (upd H dx (.own x)) x (.ins C dx [(("_n" : Str), V.int (m : Int))])) := fun b o e => by
      rw [upd_ne (ne_of_none e hx), upd_ne (ne_of_none e hd)]
      exact e
    have e : upd (upd (upd H dx (.own x)) x (.ins C dx [])) x (.ins C dx [(("_n" : Str), V.int (m : Int))]) = upd (upd H dx (.own x)) x (.ins C dx [(("_n" : Str), V.int (m : Int))]) := by
      funext b
      by_cases c : b = x
      · subst c
        rw [upd_same, upd_same]
      · rw [upd_ne c, upd_ne c, upd_ne c]
    rw [e]
    exact ⟨v, .ref x, p, rfl, ⟨x, dx, _, rfl, upd_same, rfl⟩, hv.up s1, Nat.le_refl _, hp, fun H' r s2 h => q H' r (s1.trans s2) h⟩
end
end Kr
namespace Kr
open PySem PySem.Spec PyProof.Rows L2
theorem pow_zeroG {n : Nat} (hn : n ≤ 6) {T : List (List Int)} (h : TabOk n T) : powT n T 0 = stillT n := by
  have e := powT_add hn h 0 0
  have ok := powT_ok hn h 0
  have e2 : bothT n (powT n T 0) (powT n T 0) = powT n T 0 := by simpa using e
  have e3 := congrArg (bothT n (turnT n (powT n T 0))) e2
  rw [← both_assoc hn (ok.turn hn) ok ok, turn_both hn ok, still_both hn ok] at e3
  exact e3
theorem turn_powG {n : Nat} (hn : n ≤ 6) {T : List (List Int)} (h : TabOk n T) (k : Int) : turnT n (powT n T k) = powT n T (-k) :=
  (inv_one hn (powT_ok hn h k) (powT_ok hn h (-k)) (by rw [powT_add hn h, show k + -k = 0 by omega, pow_zeroG hn h])).symm
theorem pow_powG {n : Nat} (hn : n ≤ 6) {T : List (List Int)} (h : TabOk n T) (a : Int) : ∀ k : Nat, powT n (powT n T a) (k : Int) = powT n T (a * (k : Int))
  | 0 => by
    show powT n (powT n T a) 0 = powT n T (a * 0)
    rw [pow_zeroG hn (powT_ok hn h a), Int.mul_zero, pow_zeroG hn h]
  | k + 1 => by
    have e : ((k + 1 : Nat) : Int) = (k : Int) + 1 := by omega
    rw [e, ← powT_succ hn (powT_ok hn h a), pow_powG hn h a k, powT_add hn h, Int.mul_add, Int.mul_one]
theorem pow_turnG {n : Nat} (hn : n ≤ 6) {T : List (List Int)} (h : TabOk n T) (k : Nat) : powT n (turnT n T) (k : Int) = powT n T (-(k : Int)) := by
  have e : turnT n T = powT n T (-1) := by
    rw [← turn_powG hn h 1, powT_one hn h]
  rw [e, pow_powG hn h, show (-1 : Int) * (k : Int) = -(k : Int) by omega]
theorem made_fold2 {n : Nat} (hn : n ≤ 6) : ∀ (ys xs : List Mv), (∀ m ∈ xs ++ ys, Deed n m) → (ys.map fun m => deedT n m.1 m.2.1 m.2.2).foldl (bothT n) (madeT n xs) = madeT n (xs ++ ys)
  | [], xs, d => by rw [List.append_nil]; rfl
  | m :: ys, xs, d => by
    have d2 : ∀ x ∈ (xs ++ [m]) ++ ys, Deed n x := fun x hx => d x (by rw [List.append_assoc] at hx; exact hx)
    rw [List.map_cons, List.foldl_cons, ← made_snoc hn fun x hx => d2 x (List.mem_append_left _ hx), made_fold2 hn ys (xs ++ [m]) d2, List.append_assoc]
    rfl
theorem made_foldG {n : Nat} (hn : n ≤ 6) {ms : List Mv} (d : ∀ m ∈ ms, Deed n m) : (ms.map fun m => deedT n m.1 m.2.1 m.2.2).foldl (bothT n) (stillT n) = madeT n ms := by
  have := made_fold2 hn ms [] d
  rwa [made_nil hn] at this
/-- a row of deeds is their table -/
theorem row_madeG {n : Nat} (hn : n ≤ 6) {ms : List Mv} (d : ∀ m ∈ ms, Deed n m) (ws : List (List (List Int))) : worth (tabM n) ws (.row (ms.map .doo)) = madeT n ms := by
  simp only [worth]
  rw [worthL_map, List.map_map, ← made_foldG hn d]
  rfl
end Kr
namespace Kr
open PySem PySem.Spec PyProof.Rows L2
mutual
theorem tm_flat : ∀ t : Tm, flatT (tmD t) = true
  | .doo d => by simp [tmD, flatT, flatTA, deed_flat]
  | .part j => by simp [tmD, flatT, flatTA]
  | .row ts => by simp [tmD, flatT, flatTA, tms_flat ts]
  | .back t => by simp [tmD, flatT, flatTA, tm_flat t]
  | .times t k => by simp [tmD, flatT, flatTA, tm_flat t]
theorem tms_flat : ∀ ts : List Tm, flatTA (tmDs ts) = true
  | [] => by simp [tmDs, flatTA]
  | t :: ts => by simp [tmDs, flatTA, tm_flat t, tms_flat ts]
end
theorem okTms_of {D : Mv → Prop} {r k : Nat} : ∀ {ts : List Tm}, (∀ t ∈ ts, okTm D r k t) → okTms D r k ts
  | [], _ => by simp [okTms]
  | t :: ts, h => by
    simp only [okTms]
    exact ⟨h t List.mem_cons_self, okTms_of fun x hx => h x (List.mem_cons_of_mem _ hx)⟩
theorem depL_of {m : Nat} : ∀ {ts : List Tm}, (∀ t ∈ ts, dep t ≤ m) → depL ts ≤ m
  | [], _ => Nat.zero_le _
  | t :: ts, h => by
    simp only [depL]
    exact Nat.max_le.mpr ⟨h t List.mem_cons_self, depL_of fun x hx => h x (List.mem_cons_of_mem _ hx)⟩
theorem joinC7 {c : TT} {σ : L2.St} {H : Hp} {Q : Bool → Hp → Prop} (R : Bool → Hp → Prop) (h : ∀ b G, R b G → Q b G) (hc : ∀ Q' : Bool → Hp → Prop, (∀ b G, R b G → Q' b G) → c σ H Q') : c σ H Q := hc Q h
end Kr
namespace Kr
open PySem PySem.Spec PyProof.Rows L2
def tyN : PyData → String
  | .none => "NoneType"
  | .bool _ => "bool"
  | .int _ => "int"
  | .str _ => "str"
  | .list _ => "list"
  | .tuple _ => "tuple"
  | .dict _ => "dict"
theorem Dq.ty {K : PySem.W.Frag} {H : Hp} {v : V} {d : PyData} (h : Dq H v d) : TyX K H v (.type (tyN d)) := by
  cases h with
  | non => exact .base .non
  | bl b => exact .base (.bl b)
  | int i => exact .base (.int i)
  | str x => exact .base (.str x)
  | lst e q => exact .base (.lst e)
  | tup e q => exact .base (.tup e)
  | dic e => exact .base (.dK e)
def isI : PyData → Bool
  | .int _ => true
  | .bool _ => true
  | _ => false
def isBo : PyData → Bool
  | .bool _ => true
  | _ => false
def isTu : PyData → Bool
  | .tuple _ => true
  | _ => false
theorem kit_int {K : PySem.W.Frag} : ∀ d : PyData, PySem.W.kitOne K (.type (tyN d)) (.type "int") = some (isI d)
  | .none => kit_ty (show kitB "NoneType" "int" = some false by decide +kernel)
  | .bool _ => kit_ty (show kitB "bool" "int" = some true by decide +kernel)
  | .int _ => kit_ty (show kitB "int" "int" = some true by decide +kernel)
  | .str _ => kit_ty (show kitB "str" "int" = some false by decide +kernel)
  | .list _ => kit_ty (show kitB "list" "int" = some false by decide +kernel)
  | .tuple _ => kit_ty (show kitB "tuple" "int" = some false by decide +kernel)
  | .dict _ => kit_ty (show kitB "dict" "int" = some false by decide +kernel)
theorem kit_bool {K : PySem.W.Frag} : ∀ d : PyData, PySem.W.kitOne K (.type (tyN d)) (.type "bool") = some (isBo d)
  | .none => kit_ty (show kitB "NoneType" "bool" = some false by decide +kernel)
  | .bool _ => kit_ty (show kitB "bool" "bool" = some true by decide +kernel)
  | .int _ => kit_ty (show kitB "int" "bool" = some false by decide +kernel)
  | .str _ => kit_ty (show kitB "str" "bool" = some false by decide +kernel)
  | .list _ => kit_ty (show kitB "list" "bool" = some false by decide +kernel)
  | .tuple _ => kit_ty (show kitB "tuple" "bool" = some false by decide +kernel)
  | .dict _ => kit_ty (show kitB "dict" "bool" = some false by decide +kernel)
theorem kit_tuple {K : PySem.W.Frag} : ∀ d : PyData, PySem.W.kitOne K (.type (tyN d)) (.type "tuple") = some (isTu d)
  | .none => kit_ty (show kitB "NoneType" "tuple" = some false by decide +kernel)
  | .bool _ => kit_ty (show kitB "bool" "tuple" = some false by decide +kernel)
  | .int _ => kit_ty (show kitB "int" "tuple" = some false by decide +kernel)
  | .str _ => kit_ty (show kitB "str" "tuple" = some false by decide +kernel)
  | .list _ => kit_ty (show kitB "list" "tuple" = some false by decide +kernel)
  | .tuple _ => kit_ty (show kitB "tuple" "tuple" = some true by decide +kernel)
  | .dict _ => kit_ty (show kitB "dict" "tuple" = some false by decide +kernel)
/-- an integer, no bool, within bounds -/
def isB (d : PyData) (lo hi : Int) : Bool := match d with
  | .int i => decide (lo ≤ i) && decide (i ≤ hi)
  | _ => false
/-- a tuple of so many items -/
def isT (d : PyData) (n : Int) : Bool := match d with
  | .tuple xs => decide ((xs.length : Int) = n)
  | _ => false
def spB : Sp := fun vs H Q _ => ∃ (v : V) (d : PyData) (lo hi : Int), vs = [v, .int lo, .int hi] ∧ Dq H v d ∧ Q (.bl (isB d lo hi)) H
def spT : Sp := fun vs H Q _ => ∃ (v : V) (d : PyData) (n : Int), vs = [v, .int n] ∧ Dq H v d ∧ Q (.bl (isT d n)) H
end Kr
namespace Kr
/-! a term kept within narrower bounds keeps the wider ones -/
mutual
theorem okTm_mono {D D' : Mv → Prop} {r r' k k' : Nat} (hD : ∀ d, D d → D' d) (hr : r ≤ r') (hk : k ≤ k') : ∀ t : Tm, okTm D r k t → okTm D' r' k' t
  | .doo d, h => by
    simp only [okTm] at h ⊢
    exact hD d h
  | .part j, h => by
    simp only [okTm] at h ⊢
    exact Nat.lt_of_lt_of_le h hk
  | .row ts, h => by
    simp only [okTm] at h ⊢
    exact ⟨Nat.le_trans h.1 hr, okTms_mono hD hr hk ts h.2⟩
  | .back t, h => by
    simp only [okTm] at h ⊢
    exact okTm_mono hD hr hk t h
  | .times t n, h => by
    simp only [okTm] at h ⊢
    exact ⟨h.1, okTm_mono hD hr hk t h.2⟩
theorem okTms_mono {D D' : Mv → Prop} {r r' k k' : Nat} (hD : ∀ d, D d → D' d) (hr : r ≤ r') (hk : k ≤ k') : ∀ ts : List Tm, okTms D r k ts → okTms D' r' k' ts
  | [], _ => by simp [okTms]
  | t :: ts, h => by
    simp only [okTms] at h ⊢
    exact ⟨okTm_mono hD hr hk t h.1, okTms_mono hD hr hk ts h.2⟩
end
end Kr
namespace Kr
open PySem PySem.Spec PyProof.Rows L2
theorem Deed.few {n : Nat} {d : Mv} (h : Deed n d) : d.1.length + 2 ≤ n := by
  have h1 := h.ab
  have h2 := h.bn
  have := sub_len (C := d.2.1 :: d.2.2 :: d.1) (L := List.range n) (List.nodup_cons.mpr ⟨fun z => by
    rcases List.mem_cons.mp z with e | e
    · omega
    · exact h.na e, List.nodup_cons.mpr ⟨h.nb, h.asc.1.imp fun {a b} (q : a < b) => Nat.ne_of_lt q⟩⟩) fun x hx => by
    rw [List.mem_range]
    simp only [List.mem_cons] at hx
    rcases hx with rfl | rfl | hx
    · omega
    · exact h2
    · have := (h.asc.2 x hx).2; omega
  simpa using this
/-! ### how many items stand in a thing -/
mutual
def itm : PyData → Nat
  | .tuple ds => ds.length + itmA ds
  | .none | .bool _ | .int _ | .str _ | .list _ | .dict _ => 0
def itmA : List PyData → Nat
  | [] => 0
  | d :: ds => itm d + itmA ds
end
theorem itmA_map : ∀ ds : List PyData, itmA ds = (ds.map itm).sum
  | [] => rfl
  | d :: ds => by
    simp only [itmA, List.map_cons, List.sum_cons]
    rw [itmA_map ds]
theorem depthAll_le : ∀ {ds : List PyData} {d : PyData}, d ∈ ds → d.depth ≤ PyData.depthAll ds
  | e :: ds, d, h => by
    simp only [PyData.depthAll]
    rcases List.mem_cons.mp h with rfl | h
    · exact Nat.le_max_left _ _
    · exact Nat.le_trans (depthAll_le h) (Nat.le_max_right _ _)
theorem flatTA_mem : ∀ {ds : List PyData}, flatTA ds = true → ∀ d ∈ ds, flatT d = true
  | e :: ds, h, d, hd => by
    have h2 : flatT e = true ∧ flatTA ds = true := by simpa [flatTA] using h
    rcases List.mem_cons.mp hd with rfl | hd
    · exact h2.1
    · exact flatTA_mem h2.2 d hd
theorem kit_tl {K : PySem.W.Frag} {d : PyData} (h : flatT d = true) : PySem.W.kitAny K (.type (tyN d)) [.type "tuple", .type "list"] = some (isTu d) := by
  have h1 := kit_tuple (K := K) d
  cases d with
  | tuple ds => unfold PySem.W.kitAny; rw [h1]; rfl
  | list _ => simp [flatT] at h
  | dict _ => simp [flatT] at h
  | none => unfold PySem.W.kitAny; rw [h1]; simp only [isTu]; unfold PySem.W.kitAny; rw [show PySem.W.kitOne K (.type (tyN .none)) (.type "list") = some false from kit_ty (show kitB "NoneType" "list" = some false by decide +kernel)]; rfl
  | bool _ => unfold PySem.W.kitAny; rw [h1]; simp only [isTu]; unfold PySem.W.kitAny; rw [show PySem.W.kitOne K (.type (tyN (.bool _))) (.type "list") = some false from kit_ty (show kitB "bool" "list" = some false by decide +kernel)]; rfl
  | int _ => unfold PySem.W.kitAny; rw [h1]; simp only [isTu]; unfold PySem.W.kitAny; rw [show PySem.W.kitOne K (.type (tyN (.int _))) (.type "list") = some false from kit_ty (show kitB "int" "list" = some false by decide +kernel)]; rfl
  | str _ => unfold PySem.W.kitAny; rw [h1]; simp only [isTu]; unfold PySem.W.kitAny; rw [show PySem.W.kitOne K (.type (tyN (.str _))) (.type "list") = some false from kit_ty (show kitB "str" "list" = some false by decide +kernel)]; rfl
mutual
/-- tuples of at most m items -/
def widT (m : Nat) : PyData → Bool
  | .tuple xs => decide (xs.length ≤ m) && widTA m xs
  | .none | .bool _ | .int _ | .str _ | .list _ | .dict _ => true
def widTA (m : Nat) : List PyData → Bool
  | [] => true
  | x :: xs => widT m x && widTA m xs
end
theorem widTA_mem {m : Nat} : ∀ {ds : List PyData}, widTA m ds = true → ∀ d ∈ ds, widT m d = true
  | e :: ds, h, d, hd => by
    have h2 : widT m e = true ∧ widTA m ds = true := by simpa [widTA] using h
    rcases List.mem_cons.mp hd with rfl | hd
    · exact h2.1
    · exact widTA_mem h2.2 d hd
/-! ### what few items show -/
mutual
/-- numbers and texts of few signs -/
def lowT : PyData → Bool
  | .none | .bool _ => true
  | .int i => decide (i.natAbs < 2 ^ 100)
  | .str x => (x.cps.toList.all fun c => decide (c < 16 ^ 8)) && decide (x.length ≤ 100)
  | .tuple xs => lowTA xs
  | .list _ | .dict _ => false
def lowTA : List PyData → Bool
  | [] => true
  | x :: xs => lowT x && lowTA xs
end
theorem low_leaf {d : PyData} (h : lowT d = true) (hn : isTu d = false) : Sm 1 100 d := by
  cases d with
  | none => exact ⟨rfl, rfl, by simp [PyData.depth], by simp [PyData.weight]⟩
  | bool b => exact ⟨rfl, rfl, by simp [PyData.depth], by simp [PyData.weight]⟩
  | int i =>
    have hi : i.natAbs < 2 ^ 100 := by simpa [lowT] using h
    have a := Sm.int (i := i) (Nat.lt_of_lt_of_le hi (by decide))
    refine ⟨a.sh, a.ls, a.dp, ?_⟩
    simp only [PyData.weight]
    split
    · omega
    · rename_i h0
      have h1 : i.natAbs ≠ 0 := fun z => h0 (by simp; omega)
      have : i.natAbs.log2 < 100 := (Nat.log2_lt h1).mpr hi
      omega
  | str x =>
    have hx : (x.cps.toList.all fun c => decide (c < 16 ^ 8)) = true ∧ x.length ≤ 100 := by simpa [lowT] using h
    exact .strm hx.1 hx.2
  | tuple _ => simp [isTu] at hn
  | list _ => simp [lowT] at h
  | dict _ => simp [lowT] at h
theorem low_isTu {d : PyData} (h : isTu d = true) : ∃ ds, d = .tuple ds := by
  cases d with
  | tuple ds => exact ⟨ds, rfl⟩
  | _ => exact absurd h (by simp [isTu])
mutual
theorem low_sm : ∀ d : PyData, lowT d = true → d.showable = true ∧ d.leavesShort 41 = true ∧ (isTu d = true → d.weight ≤ 101 * itm d) ∧ d.weight ≤ 101 * itm d + 100
  | .none, _ => by simp [PyData.showable, PyData.leavesShort, PyData.weight, isTu]
  | .bool _, _ => by simp [PyData.showable, PyData.leavesShort, PyData.weight, isTu]
  | .int i, h => by
    have a := low_leaf h rfl
    have := a.wt
    exact ⟨a.sh, a.ls, fun z => by simp [isTu] at z, by omega⟩
  | .str x, h => by
    have a := low_leaf h rfl
    have := a.wt
    exact ⟨a.sh, a.ls, fun z => by simp [isTu] at z, by omega⟩
  | .tuple xs, h => by
    simp only [lowT] at h
    obtain ⟨h1, h2, h3⟩ := lowA_sm xs h
    refine ⟨by simpa [PyData.showable] using h1, by simpa [PyData.leavesShort] using h2, fun _ => ?_, ?_⟩
    · simp only [PyData.weight, itm]
      omega
    · simp only [PyData.weight, itm]
      omega
  | .list _, h => by simp [lowT] at h
  | .dict _, h => by simp [lowT] at h
theorem lowA_sm : ∀ ds : List PyData, lowTA ds = true → PyData.showableAll ds = true ∧ PyData.leavesShortAll 41 ds = true ∧ PyData.weightAll ds ≤ 101 * (ds.length + itmA ds)
  | [], _ => by simp [PyData.showableAll, PyData.leavesShortAll, PyData.weightAll]
  | d :: ds, h => by
    have h2 : lowT d = true ∧ lowTA ds = true := by simpa [lowTA] using h
    obtain ⟨a1, a2, _, a4⟩ := low_sm d h2.1
    obtain ⟨b1, b2, b3⟩ := lowA_sm ds h2.2
    refine ⟨by simp [PyData.showableAll, a1, b1], by simp [PyData.leavesShortAll, a2, b2], ?_⟩
    simp only [PyData.weightAll, itmA, List.length_cons]
    omega
end
theorem sm_low {d : PyData} {k m : Nat} (h : lowT d = true) (ht : isTu d = true) (hk : d.depth ≤ k) (hm : itm d ≤ m) : Sm k (101 * m) d := by
  obtain ⟨h1, h2, h3, _⟩ := low_sm d h
  exact ⟨h1, h2, hk, Nat.le_trans (h3 ht) (Nat.mul_le_mul_left _ hm)⟩
/-- terms -/
theorem low_lot {l : List Nat} (h : ∀ x ∈ l, x < 24) : lowT (lotD l) = true := by
  have : ∀ l : List Nat, (∀ x ∈ l, x < 24) → lowTA (l.map fun x : Nat => PyData.int (x : Int)) = true := by
    intro l
    induction l with
    | nil => intro _; rfl
    | cons x l ih =>
      intro h
      have hx := h x List.mem_cons_self
      simp only [List.map_cons, lowTA, lowT, ih fun y hy => h y (List.mem_cons_of_mem _ hy), Bool.and_true, decide_eq_true_eq, Int.natAbs_natCast]
      exact Nat.lt_trans hx (by decide)
  simp only [lotD, lowT]
  exact this l h
theorem low_deed {n : Nat} (hn : n ≤ 24) {d : Mv} (h : Deed n d) : lowT (deedD d) = true := by
  have h1 := h.ab
  have h2 := h.bn
  have h3 := low_lot (l := d.1) fun x hx => by have := (h.asc.2 x hx).2; omega
  simp only [deedD, lowT, lowTA, h3, Bool.true_and, Bool.and_true, Int.natAbs_natCast, Bool.and_eq_true, decide_eq_true_eq]
  exact ⟨Nat.lt_trans (by omega : d.2.1 < 24) (by decide), Nat.lt_trans (by omega : d.2.2 < 24) (by decide)⟩
mutual
theorem low_tm {n r k : Nat} (hn : n ≤ 24) (hk : k ≤ 400) : ∀ t : Tm, okTm (Deed n) r k t → lowT (tmD t) = true
  | .doo d, h => by
    simp only [okTm] at h
    simp only [tmD, lowT, lowTA, low_deed hn h]
    decide +kernel
  | .part j, h => by
    simp only [okTm] at h
    simp only [tmD, lowT, lowTA, Int.natAbs_natCast]
    rw [decide_eq_true (show j < 2 ^ 100 from Nat.lt_trans (by omega : j < 400) (by decide))]
    decide +kernel
  | .row ts, h => by
    simp only [okTm] at h
    simp only [tmD, lowT, lowTA, low_tms hn hk ts h.2]
    decide +kernel
  | .back t, h => by
    simp only [okTm] at h
    simp only [tmD, lowT, lowTA, low_tm hn hk t h]
    decide +kernel
  | .times t m, h => by
    simp only [okTm] at h
    simp only [tmD, lowT, lowTA, low_tm hn hk t h.2, Int.natAbs_natCast]
    rw [decide_eq_true (show m < 2 ^ 100 from Nat.lt_of_le_of_lt h.1 (by decide +kernel))]
    decide +kernel
theorem low_tms {n r k : Nat} (hn : n ≤ 24) (hk : k ≤ 400) : ∀ ts : List Tm, okTms (Deed n) r k ts → lowTA (tmDs ts) = true
  | [], _ => rfl
  | t :: ts, h => by
    simp only [okTms] at h
    simp only [tmDs, lowTA, low_tm hn hk t h.1, low_tms hn hk ts h.2]
    rfl
end
mutual
theorem wid_tm {n r k : Nat} (hn : n ≤ 24) (hr : r ≤ 400) : ∀ t : Tm, okTm (Deed n) r k t → widT 400 (tmD t) = true
  | .doo d, h => by
    simp only [okTm] at h
    have h1 := h.few
    have h2 : ∀ l : List Nat, widTA 400 (l.map fun x : Nat => PyData.int (x : Int)) = true := by
      intro l
      induction l with
      | nil => rfl
      | cons x l ih => simp only [List.map_cons, widTA, widT, ih]; rfl
    have h3 : widT 400 (lotD d.1) = true := by
      simp only [lotD, widT, h2, List.length_map, Bool.and_true, decide_eq_true_eq]
      omega
    simp only [tmD, deedD, widT, widTA, h3]
    rfl
  | .part j, h => by simp only [tmD, widT, widTA]; rfl
  | .row ts, h => by
    simp only [okTm] at h
    have h1 : (tmDs ts).length = ts.length := by rw [tmDs_map, List.length_map]
    simp only [tmD, widT, widTA, wid_tms hn hr ts h.2, h1]
    rw [decide_eq_true (show ts.length ≤ 400 by omega)]
    rfl
  | .back t, h => by
    simp only [okTm] at h
    simp only [tmD, widT, widTA, wid_tm hn hr t h]
    rfl
  | .times t m, h => by
    simp only [okTm] at h
    simp only [tmD, widT, widTA, wid_tm hn hr t h.2]
    rfl
theorem wid_tms {n r k : Nat} (hn : n ≤ 24) (hr : r ≤ 400) : ∀ ts : List Tm, okTms (Deed n) r k ts → widTA 400 (tmDs ts) = true
  | [], _ => rfl
  | t :: ts, h => by
    simp only [okTms] at h
    simp only [tmDs, widTA, wid_tm hn hr t h.1, wid_tms hn hr ts h.2]
    rfl
end
theorem lot_depth (l : List Nat) : (lotD l).depth ≤ 1 := by
  have : ∀ l : List Nat, PyData.depthAll (l.map fun x : Nat => PyData.int (x : Int)) = 0 := by
    intro l
    induction l with
    | nil => rfl
    | cons x l ih => simp only [List.map_cons, PyData.depthAll, PyData.depth, ih]; rfl
  simp only [lotD, PyData.depth, this]
  omega
mutual
theorem tm_depth : ∀ t : Tm, (tmD t).depth ≤ 2 * dep t + 1
  | .doo d => by
    have := lot_depth d.1
    simp only [tmD, deedD, PyData.depth, PyData.depthAll, dep]
    omega
  | .part j => by simp only [tmD, PyData.depth, PyData.depthAll, dep]; omega
  | .row ts => by
    have := tms_depth ts
    simp only [tmD, PyData.depth, PyData.depthAll, dep]
    omega
  | .back t => by
    have := tm_depth t
    simp only [tmD, PyData.depth, PyData.depthAll, dep]
    omega
  | .times t k => by
    have := tm_depth t
    simp only [tmD, PyData.depth, PyData.depthAll, dep]
    omega
theorem tms_depth : ∀ ts : List Tm, PyData.depthAll (tmDs ts) ≤ 2 * depL ts + 1
  | [] => by simp [tmDs, PyData.depthAll]
  | t :: ts => by
    have h1 := tm_depth t
    have h2 := tms_depth ts
    simp only [tmDs, PyData.depthAll, depL]
    omega
end
end Kr
namespace Kr
open PySem PySem.Spec PyProof.Rows L2
/-- the data of a term: of deeds of n places, rows of at most r terms, behind k others, at most m deep, of at most c items -/
def IsTm (n r k m c : Nat) (d : PyData) : Prop := ∃ t, d = tmD t ∧ okTm (Deed n) r k t ∧ dep t ≤ m ∧ itm (tmD t) ≤ c
theorem lot_itm (l : List Nat) : itm (lotD l) = l.length := by
  have : ∀ l : List Nat, itmA (l.map fun x : Nat => PyData.int (x : Int)) = 0 := by
    intro l
    induction l with
    | nil => rfl
    | cons x l ih => simp only [List.map_cons, itmA, itm, ih]
  simp only [lotD, itm, this, List.length_map]
  rfl
theorem deed_itm {n : Nat} (hn : n ≤ 24) {d : Mv} (h : Deed n d) : itm (deedD d) ≤ 25 := by
  have h1 := h.few
  have h2 := lot_itm d.1
  simp only [deedD, itm, itmA, h2, List.length_cons, List.length_nil]
  omega
theorem tm_do {n r k m : Nat} (hn : n ≤ 24) {d : Mv} (h : Deed n d) : IsTm n r k (m + 1) 27 (.tuple [.str "do", deedD d]) := ⟨.doo d, by simp only [tmD], by simp only [okTm]; exact h, by simp only [dep]; omega, by
  have := deed_itm hn h
  simp only [tmD, itm, itmA, List.length_cons, List.length_nil]
  omega⟩
theorem tm_part {n r k m : Nat} {i : Int} (h0 : 0 ≤ i) (h : i < k) : IsTm n r k (m + 1) 2 (.tuple [.str "part", .int i]) := ⟨.part i.toNat, by simp only [tmD]; rw [Int.toNat_of_nonneg h0], by simp only [okTm]; omega, by simp only [dep]; omega, by
  simp only [tmD, itm, itmA, List.length_cons, List.length_nil]
  omega⟩
theorem tm_back {n r k m c : Nat} {d : PyData} (h : IsTm n r k m c d) : IsTm n r k (m + 1) (c + 2) (.tuple [.str "back", d]) := by
  obtain ⟨t, rfl, h1, h2, h3⟩ := h
  exact ⟨.back t, by simp only [tmD], by simp only [okTm]; exact h1, by simp only [dep]; omega, by
    simp only [tmD, itm, itmA, List.length_cons, List.length_nil]
    omega⟩
theorem tm_times {n r k m c : Nat} {d : PyData} {i : Int} (h : IsTm n r k m c d) (h0 : 0 ≤ i) (hi : i ≤ 10 ^ 30) : IsTm n r k (m + 1) (c + 3) (.tuple [.str "times", d, .int i]) := by
  obtain ⟨t, rfl, h1, h2, h3⟩ := h
  refine ⟨.times t i.toNat, by simp only [tmD]; rw [Int.toNat_of_nonneg h0], ?_, by simp only [dep]; omega, by
    simp only [tmD, itm, itmA, List.length_cons, List.length_nil]
    omega⟩
  simp only [okTm]
  exact ⟨by omega, h1⟩
theorem tm_list {n r k m c : Nat} : ∀ {ds : List PyData}, (∀ d ∈ ds, IsTm n r k m c d) → ∃ ts, ds = tmDs ts ∧ okTms (Deed n) r k ts ∧ depL ts ≤ m ∧ ts.length = ds.length ∧ itmA (tmDs ts) ≤ ds.length * c
  | [], _ => ⟨[], rfl, by simp [okTms], by simp [depL], rfl, by simp [tmDs, itmA]⟩
  | d :: ds, h => by
    obtain ⟨t, rfl, h1, h2, h6⟩ := h d List.mem_cons_self
    obtain ⟨ts, rfl, h3, h4, h5, h7⟩ := tm_list fun x hx => h x (List.mem_cons_of_mem _ hx)
    refine ⟨t :: ts, by simp only [tmDs], ?_, ?_, by simp [h5], ?_⟩
    · simp only [okTms]
      exact ⟨h1, h3⟩
    · simp only [depL]
      exact Nat.max_le.mpr ⟨h2, h4⟩
    · simp only [tmDs, itmA, List.length_cons, Nat.succ_mul]
      omega
theorem tm_row {n r k m c : Nat} {ds : List PyData} (h : ∀ d ∈ ds, IsTm n r k m c d) (hl : ds.length ≤ r) : IsTm n r k (m + 1) (2 + ds.length * (c + 1)) (.tuple [.str "row", .tuple ds]) := by
  obtain ⟨ts, rfl, h1, h2, h3, h4⟩ := tm_list h
  refine ⟨.row ts, by simp only [tmD], ?_, by simp only [dep]; omega, ?_⟩
  · simp only [okTm]
    exact ⟨by omega, h1⟩
  · simp only [tmD, itm, itmA, List.length_cons, List.length_nil, Nat.mul_add]
    omega
theorem tm_row1 {n r k m c : Nat} {a : PyData} (ha : IsTm n r k m c a) (hr : 1 ≤ r) : IsTm n r k (m + 1) (c + 3) (.tuple [.str "row", .tuple [a]]) := by
  obtain ⟨t, h0, h1, h2, h3⟩ := tm_row (ds := [a]) (fun d hd => by rw [List.mem_singleton.mp hd]; exact ha) hr
  exact ⟨t, h0, h1, h2, by simp only [List.length_cons, List.length_nil] at h3; omega⟩
theorem tm_row2 {n r k m c : Nat} {a b : PyData} (ha : IsTm n r k m c a) (hb : IsTm n r k m c b) (hr : 2 ≤ r) : IsTm n r k (m + 1) (2 * c + 4) (.tuple [.str "row", .tuple [a, b]]) := by
  obtain ⟨t, h0, h1, h2, h3⟩ := tm_row (ds := [a, b]) (fun d hd => by
    simp only [List.mem_cons, List.not_mem_nil, or_false] at hd
    rcases hd with rfl | rfl
    · exact ha
    · exact hb) hr
  exact ⟨t, h0, h1, h2, by simp only [List.length_cons, List.length_nil] at h3; omega⟩
theorem IsTm.mono {n r k m c r' k' m' c' : Nat} {d : PyData} (h : IsTm n r k m c d) (hr : r ≤ r' := by omega) (hk : k ≤ k' := by omega) (hm : m ≤ m' := by omega) (hc : c ≤ c' := by omega) : IsTm n r' k' m' c' d := by
  obtain ⟨t, rfl, h1, h2, h3⟩ := h
  exact ⟨t, rfl, okTm_mono (fun _ q => q) hr hk t h1, by omega, by omega⟩
theorem IsTm.itm {n r k m c : Nat} {d : PyData} (h : IsTm n r k m c d) : itm d ≤ c := by
  obtain ⟨t, rfl, h1, h2, h3⟩ := h
  exact h3
end Kr
namespace Kr
open PySem PySem.Spec PyProof.Rows L2
/-- a drawn item of a list or a tuple -/
def spPick : Sp := fun vs H Q _ => ∃ (p l a : Addr) (xs : List V), vs = [.ref p, .ref a] ∧ Deck H p l ∧ (hid p l H a = some (.lst xs) ∨ hid p l H a = some (.tup xs)) ∧ 0 < xs.length ∧ xs.length < 100000 ∧
  ∀ (H' : Hp) (r : Nat) (v : V), Deck H' p l → Ext p l H H' → xs[r]? = some v → Q v H'
section
variable {P : Program} {w : World} {K : PySem.W.Frag} {mg : Str → Option Value} {base : Heap}
theorem o_pick (D : Df K mg "_law_pick" sPick ["box", "items"]) (B : Bi mg) (d : Ok P w K mg base 1 "_law_draw" ["box", "many"] spDraw) : Ok P w K mg base 2 "_law_pick" ["box", "items"] spPick := by
  have scPk : FnScope ["box", "items"] ["box", "items"] (defScope sPick) := ⟨rfl, rfl, rfl, by decide +kernel, rfl, by decide +kernel, by decide +kernel⟩
  refine D.ok fun f fd F => F.ok scPk (fun vs H Q E h => ?_) (fun cdv A outer s H vs Q E hr h => ?_)
  · obtain ⟨p, l, a, xs, rfl, _⟩ := h
    rfl
  · obtain ⟨p, l, a, xs, rfl, Dk, ha, h0, hl, q⟩ := h
    refine ⟨_, pss_one (ps_ret (pe_ix ix_seq (pv 1) (pe_fn d hr (by rfl) (pa_cons (pv 0) (pa_cons (pe_callB call_len_seq (by rfl) B.len boot_len (pa_cons (pv 1) pa_nil)) pa_nil))) (fun _ _ => rfl))), ?_⟩
    have hs : SqL K H a xs ∨ SqT K H a xs := ha.elim (fun z => .inl (SqL.of (hid_same p l H _ _ z))) fun z => .inr (SqT.of (hid_same p l H _ _ z))
    refine ⟨.ref a, rfl, .ref p, rfl, .ref a, rfl, a, xs, rfl, hs, p, l, (xs.length : Nat), rfl, Dk, by omega, by omega, fun H2 z D2 E2 z0 z1 => ?_⟩
    obtain ⟨r, rfl⟩ : ∃ r : Nat, z = r := ⟨z.toNat, by omega⟩
    obtain ⟨v, hv⟩ : ∃ v, xs[r]? = some v := ⟨_, List.getElem?_eq_getElem (by omega)⟩
    have k := q H2 r v D2 E2 hv
    rcases ha with z | z
    · exact .inl ⟨a, xs, r, v, rfl, rfl, SqL.of (hid_same p l H2 _ _ (E2 _ _ z)), atI_nat hv, k⟩
    · exact .inr (.inl ⟨a, xs, r, v, rfl, rfl, SqT.of (hid_same p l H2 _ _ (E2 _ _ z)), atI_nat hv, k⟩)
end
end Kr
namespace Kr
open PySem PySem.Spec PyProof.Rows L2
/-! ### displays beside the deck -/
def frD (p l : Addr) : Fr := ⟨fun G => Deck G p l, fun A B => Ext p l A B, Ext.rfl, fun a b => Same.trans a b, fun s d => d.up s, fun s => Ext.of s, fun D E => TS.deck D E⟩
section
variable {P : Program} {w : World} {K : PySem.W.Frag} {mg : Str → Option Value} {base : Heap}
variable {p l : Addr} {σ : L2.St} {H : Hp} {te tf : TE} {ta : TA} {n : Nat} {i j : Nat}
theorem bn_draw {N : Int → Prop} (hp : σ[i]? = some (some (.ref p))) (h : Bn (frD p l) te σ H fun m => 1 ≤ m ∧ m < 1073741824 ∧ ∀ r, 0 ≤ r → r < m → N r) : Bn (frD p l) (tCall spDraw [] E0 (tCons (tVar i) (tCons te tNil))) σ H N := fun G a b Q q =>
  ⟨_, hp, h G a b _ fun G1 m I1 r1 ⟨m0, m1, k⟩ => ⟨p, l, m, rfl, I1, m0, m1, fun G2 r D2 E2 h0 h1 => q G2 r D2 (Same.trans r1 E2) (k r h0 h1)⟩⟩
theorem bq_deed (hp : σ[i]? = some (some (.ref p))) (hn : σ[j]? = some (some (.int (n : Int)))) (n0 : 3 ≤ n) (n1 : n ≤ 6) : Bq (frD p l) (tCall spDeed [] E0 (tCons (tVar i) (tCons (tVar j) tNil))) σ H (fun d => ∃ m, d = deedD m ∧ Deed n m) := fun G a b Q q =>
  ⟨_, hp, _, hn, p, l, n, rfl, a, n0, n1, fun G1 v d D1 E1 qv hd => q G1 v _ D1 E1 (deed_dq qv) (deed_flat d) ⟨d, rfl, hd⟩⟩
theorem flat_mem : ∀ {es : List PyData}, flatTA es = true → ∀ d ∈ es, flatT d = true
  | e :: es, h, d, hd => by
    have h2 : flatT e = true ∧ flatTA es = true := by simpa [flatTA] using h
    rcases List.mem_cons.mp hd with rfl | hd
    · exact h2.1
    · exact flat_mem h2.2 d hd
theorem bq_pick {S : List PyData → Prop} {R : PyData → Prop} {m : Nat} (hp : σ[i]? = some (some (.ref p))) (h : BqA (frD p l) (m + 1) ta σ H S) (hS : ∀ ds d, S ds → d ∈ ds → R d) (hm : m < 10000 := by decide) : Bq (frD p l) (tCall spPick [] E0 (tCons (tVar i) (tCons (tLst ta) tNil))) σ H R := fun G a b Q q =>
  ⟨_, hp, bq_lst h a b (by omega) fun G1 L vs ds I1 r1 q1 l1 f1 k nL => by
    obtain ⟨n1, n2⟩ := Deck.new I1 nL
    have s := same_new (o := .lst vs) nL
    have hl := q1.len
    refine ⟨p, l, L, vs, rfl, Deck.up I1 s, .inl (hid_upd n1 n2), by omega, by omega, fun G2 x v D2 E2 hx => ?_⟩
    obtain ⟨d, hd, qd⟩ := q1.get hx
    have fd : flatT d = true := flat_mem f1 d (List.mem_of_getElem? hd)
    exact q G2 v d D2 (Same.trans r1 (Same.trans (Ext.of s) E2)) (Dq.upT (TS.deck (Deck.up I1 s) E2) fd (qd.up s)) fd (hS ds d k (List.mem_of_getElem? hd))⟩
theorem bn_pick {N : Int → Prop} {m : Nat} (hp : σ[i]? = some (some (.ref p))) (h : BqA (frD p l) (m + 1) ta σ H fun ds => ∀ d ∈ ds, ∃ x, d = .int x ∧ N x) (hm : m < 10000 := by decide) : Bn (frD p l) (tCall spPick [] E0 (tCons (tVar i) (tCons (tLst ta) tNil))) σ H N :=
  bn_of (bq_pick (R := fun d => ∃ x, d = .int x ∧ N x) hp h (fun ds d k hd => k d hd) hm) fun d k => k
/-- a list that a comprehension over a range fills with flat data, each drawn -/
theorem bq_lcR {g : Nat} {vs : List Nat} {R : PyData → Prop} {m : Nat} {Qd : Hp → Prop} {G : Hp} {D : Addr} (nD : G D = none) (hm : m ≤ 100000) (a : Deck G p l) (hw : ∀ x : Int, wipe ((wipe σ vs).set g (some (.int x))) vs = wipe σ vs)
    (h : ∀ k, k < m → Bq (frD p l) te ((wipe σ vs).set g (some (.int (k : Int)))) G R) (q : ∀ G1 us ds, Deck G1 p l → Ext p l G G1 → D ≠ p → D ≠ l → G1 D = some (.lst us) → DqA G1 us ds → ds.length = m → flatTA ds = true → (∀ d ∈ ds, R d) → Qd G1) :
    ∃ W : Nat → Nat → Hp → Prop, (∃ k, W 0 k (upd G D (.lst []))) ∧ ∀ i k H, W i k H →
      ((Itr 0 m).stop i H ∧ Qd H) ∨ ((Itr 0 m).go i H ∧ ∃ Nx : Hp → Prop, (∀ H', Nx H' → ∃ k', k' < k ∧ W (i + 1) k' H') ∧ ∀ x H', (Itr 0 m).yld i H x H' → gName g x (wipe σ vs) H' fun σ2 H2 => wipe σ2 vs = wipe σ vs ∧ tYes σ2 H2 fun b H3 =>
        if b = true then te σ2 H3 fun y H4 => ∃ acc, H4 D = some (.lst acc) ∧ acc.length < sizeLine ∧ Nx (upd H4 D (.lst (acc ++ [y]))) else Nx H3) := by
  obtain ⟨nDp, nDl⟩ := a.new nD
  refine lc_it (walk_rg (n := m)) (fun i G2 => ∃ (us : List V) (ds : List PyData), G2 D = some (.lst us) ∧ Deck G2 p l ∧ Ext p l G G2 ∧ us.length = i ∧ DqA G2 us ds ∧ flatTA ds = true ∧ ∀ d ∈ ds, R d) ⟨[], [], upd_same, a.mut nDp nDl, Ext.mut Ext.rfl nD, rfl, .nil, rfl, (fun _ h => nomatch h)⟩ (fun _ _ _ _ => trivial) ?_ ?_
  · rintro i x _ G2 hi ⟨us, ds, hD, DG, EG, hul, qu, fu, hds⟩ ⟨rfl, rfl⟩
    refine ⟨hw _, ?_⟩
    dsimp only [tYes]
    rw [if_pos rfl]
    refine h i hi _ DG EG _ fun G3 v d D3 E3 qd fd hd => ?_
    have D3 : Deck G3 p l := D3
    have E3 : Ext p l G2 G3 := E3
    have hD3 := E3.at_ nDp nDl hD
    have ts3 : TS G3 (upd G3 D (.lst (us ++ [v]))) := TS.lst hD3
    refine ⟨us, hD3, szm (by omega), us ++ [v], ds ++ [d], upd_same, D3.mut nDp nDl, Ext.mut (Same.trans EG E3) nD, by rw [List.length_append, hul]; rfl, dqa_snoc (DqA.upT ts3 fu (DqA.upT (TS.deck DG E3) fu qu)) (Dq.upT ts3 fd qd), ?_, fun y hy => ?_⟩
    · have : ∀ e : List PyData, flatTA e = true → flatTA (e ++ [d]) = true := by
        intro e
        induction e with
        | nil => intro _; simp [flatTA, fd]
        | cons x e ih =>
          intro h
          have h3 : flatT x = true ∧ flatTA e = true := by simpa [flatTA] using h
          simp [flatTA, h3.1, ih h3.2]
      exact this ds fu
    · rcases List.mem_append.mp hy with c | c
      · exact hds y c
      · rw [List.mem_singleton.mp c]
        exact hd
  · rintro G2 ⟨us, ds, hD, DG, EG, hul, qu, fu, hds⟩
    exact q G2 us ds DG EG nDp nDl hD qu (by rw [← qu.len, hul]) fu hds
end
end Kr
namespace Kr
open PySem PySem.Spec PyProof.Rows L2
local macro_rules | `(tactic| walk_at "bq") => `(tactic| repeat' (first | with_reducible refine bqa_nil ?_ | with_reducible refine bqa_cons ?_ | with_reducible refine bq_tup1 ?_ | with_reducible refine bq_tup2 ?_ | with_reducible refine bq_tup3 ?_ | with_reducible refine bq_str ?_ | with_reducible refine bq_c ?_ | with_reducible refine bn_c ?_ | with_reducible refine bn_op ?_))
theorem val_joinG {c : TT} {t e : TE} {σ : L2.St} {H : Hp} {Q : VK} (R : V → Hp → Prop) (k : ∀ v G, R v G → Q v G) (h : ∀ Q' : VK, (∀ v G, R v G → Q' v G) → tIf c t e σ H Q') : tIf c t e σ H Q := h Q k
theorem if_eqcG {te t u : TE} {c : V} {σ : L2.St} {H : Hp} {Q : VK} (h : te σ H fun x H1 => rEq x c H1 fun z H2 => ∃ b, z = .bl b ∧ (if b = true then t σ H2 Q else u σ H2 Q)) : tIf (tTest (tOp rEq te (tC c))) t u σ H Q := h
section
variable {F : Fr} {σ : L2.St} {H : Hp} {t u : TE} {j : Nat}
theorem bq_ifbG {b : Bool} {R : PyData → Prop} (e : σ[j]? = some (some (.bl b))) (ht : b = true → Bq F t σ H R) (hu : b = false → Bq F u σ H R) : Bq F (tIf (tB (tVar j)) t u) σ H R := fun G a r Q q => by
  cases b with
  | true => exact ⟨_, e, true, rfl, iteT (ht rfl G a r Q q)⟩
  | false => exact ⟨_, e, false, rfl, iteF (hu rfl G a r Q q)⟩
theorem bn_ifbG {b : Bool} {N : Int → Prop} (e : σ[j]? = some (some (.bl b))) (ht : b = true → Bn F t σ H N) (hu : b = false → Bn F u σ H N) : Bn F (tIf (tB (tVar j)) t u) σ H N := fun G a r Q q => by
  cases b with
  | true => exact ⟨_, e, true, rfl, iteT (ht rfl G a r Q q)⟩
  | false => exact ⟨_, e, false, rfl, iteF (hu rfl G a r Q q)⟩
theorem bn_negG {N : Int → Prop} {i : Int} (e : σ[j]? = some (some (.int i))) (r : N (-i)) : Bn F (tUn (rU fun i => .int (-i)) (tVar j)) σ H N := fun G a b Q q => ⟨_, e, i, rfl, q G _ a F.refl r⟩
end
theorem bn_farG {p l : Addr} {σ : L2.St} {H : Hp} {i : Nat} {N : Int → Prop} (hp : σ[i]? = some (some (.ref p))) (r : ∀ x : Int, 0 ≤ x → x < 1000000000000000000000000000000 → N x) : Bn (frD p l) (tCall spFar [] E0 (tCons (tVar i) tNil)) σ H N := fun G a b Q q => ⟨_, hp, p, l, rfl, a, fun G' x D E h0 h1 => q G' x D E (r x h0 h1)⟩
theorem deeds_ofG {N : Nat} : ∀ {ds : List PyData}, (∀ d ∈ ds, ∃ m, d = deedD m ∧ Deed N m) → ∃ ms : List Mv, ds = ms.map deedD ∧ ∀ m ∈ ms, Deed N m
  | [], _ => ⟨[], rfl, fun _ h => nomatch h⟩
  | d :: ds, h => by
    obtain ⟨m, rfl, hm⟩ := h d List.mem_cons_self
    obtain ⟨ms, rfl, hms⟩ := deeds_ofG fun x hx => h x (List.mem_cons_of_mem _ hx)
    exact ⟨m :: ms, rfl, fun x hx => by
      rcases List.mem_cons.mp hx with rfl | hx
      · exact hm
      · exact hms x hx⟩
def greatP (ms : List Mv) (b : Bool) (c : Nat) : List Tm := [.row (ms.map .doo), .times (if b = true then .back (.part 0) else .part 0) c]
theorem greatP_ok {N : Nat} {ms : List Mv} (d : ∀ m ∈ ms, Deed N m) (hl : ms.length ≤ 5) {b : Bool} {c : Nat} (hc : c ≤ 10 ^ 30) : PrOk (Deed N) 400 5 (greatP ms b c) := ⟨by simp [greatP], by simp [greatP], fun i t ht => by
  match i, ht with
  | 0, ht =>
    cases Option.some.inj ht
    refine ⟨?_, ?_⟩
    · simp only [okTm]
      exact ⟨by rw [List.length_map]; omega, okTms_of fun t ht => by
        obtain ⟨m, hm, rfl⟩ := List.mem_map.mp ht
        simp only [okTm]
        exact d m hm⟩
    · simp only [dep]
      have := depL_of (m := 1) (ts := ms.map Tm.doo) fun t ht => by
        obtain ⟨m, hm, rfl⟩ := List.mem_map.mp ht
        simp only [dep]
        omega
      omega
  | 1, ht =>
    cases Option.some.inj ht
    cases b
    · exact ⟨by simp [okTm]; exact hc, by simp [dep]⟩
    · exact ⟨by simp [okTm]; exact hc, by simp [dep]⟩
  | _ + 2, ht => simp [greatP] at ht⟩
theorem greatP_tab {N : Nat} (hN : N ≤ 6) {ms : List Mv} (d : ∀ m ∈ ms, Deed N m) (b : Bool) (c : Nat) : progW (tabM N) (greatP ms b c) = powT N (madeT N ms) (if b = true then -(c : Int) else (c : Int)) := by
  have e : progW (tabM N) (greatP ms b c) = worth (tabM N) [worth (tabM N) [] (.row (ms.map .doo))] (.times (if b = true then .back (.part 0) else .part 0) c) := rfl
  rw [e, row_madeG hN d]
  cases b with
  | false => rfl
  | true =>
    show powT N (turnT N (madeT N ms)) (c : Int) = _
    rw [pow_turnG hN (made_ok hN d)]
    rfl
def spGreat : Sp := fun vs H Q _ => ∃ (p l : Addr), vs = [.ref p] ∧ Deck H p l ∧ ∀ H', Q (.bl true) H'
section
variable {P : Program} {w : World} {K : PySem.W.Frag} {mg : Str → Option Value} {base : Heap}
abbrev n_lGreat : List Str := ["box", "n", "moves", "turn", "many", "is_back", "program", "deed", "due"]
theorem sc_lGreat : FnScope n_lGreat ["box"] (defScope sLIsGreat) := ⟨rfl, rfl, rfl, by decide +kernel, rfl, by decide +kernel, by decide +kernel⟩
theorem o_lGreat (D0 : Df K mg "_law_is_great" sLIsGreat ["box"]) (B : Bi mg) (dr : Ok P w K mg base 1 "_law_draw" ["box", "many"] spDraw) (dd : Ok P w K mg base 3 "_law_deed" ["box", "n"] spDeed) (pk : Ok P w K mg base 2 "_law_pick" ["box", "items"] spPick) (fa : Ok P w K mg base 2 "_law_far" ["box"] spFar) (md : Ok P w K mg base 2 "_law_made" ["n", "moves"] spMade) (of : Ok P w K mg base 4 "_law_often" ["n", "table", "many"] spPower) (to : OkN P w K mg base 15 "table_of" ["n", "program"] ["program", "n"] (spTableOf 5)) : OkG P w K mg base 40 "_law_is_great" ["box"] spGreat := by
  refine D0.okG fun f fd F => okG F sc_lGreat (fun vs H Q E h => ?_) (fun cdv A outer s H vs Q E hg hr h => ?_)
  · obtain ⟨_, _, rfl, _⟩ := h
    rfl
  · obtain ⟨p, l, rfl, Dk, q⟩ := h
    have hr_dr := hr.mono (show 1 ≤ 39 by omega)
    have hr_dd := hr.mono (show 3 ≤ 39 by omega)
    have hr_pk := hr.mono (show 2 ≤ 39 by omega)
    have hr_fa := hr.mono (show 2 ≤ 39 by omega)
    have hr_md := hr.mono (show 2 ≤ 39 by omega)
    have hr_of := hr.mono (show 4 ≤ 39 by omega)
    have hr_to := hr.mono (show 15 ≤ 39 by omega)
    have hu : (cxOf CX0 P w K mg base n_lGreat "_law_is_great" (defScope sLIsGreat) f cdv A outer s H E).A.units + 64 < cLine := hr.units
    have hu1 := hu_of hr
    have cr := call_repr (X := (cxOf CX0 P w K mg base n_lGreat "_law_is_great" (defScope sLIsGreat) f cdv A outer s H E).nox) hg hr.units
    refine ⟨_, pss_cons (ps_set (i := 1) sc_lGreat.nd rfl (.inr rfl) (pe_ifExp (pt_cmpR op_eq (pe_fn dr hr_dr (by rfl) (pa_cons (pv 0) (pa_cons pe_int pa_nil))) pe_int (nomark _)) pe_int pe_int))
      (pss_cons (ps_setLc (i := 2) (own := [("turn", 3)]) (g := gName 3) (tt := tYes) rfl sc_lGreat.nd rfl rfl (sw_true rfl rfl rfl (by decide +kernel)) (pi_range1 (by rfl) B.range (pa_cons (pe_op op_add pe_int (pe_fn dr hr_dr (by rfl) (pa_cons (pv 0) (pa_cons pe_int pa_nil)))) pa_nil)) (blkOk_by (own := [("turn", 3)]) (N := n_lGreat) (sc := defScope sLIsGreat) (by decide +kernel)) (fun _ _ _ _ _ => pg_name (i := 3) sc_lGreat.nd rfl (.inl rfl)) (fun _ _ _ _ _ => pts_nil) (fun _ _ _ _ _ => (pe_fn dd hr_dd (by rfl) (pa_cons (pv 0) (pa_cons (pv 1) pa_nil)))))
      (pss_cons (ps_set (i := 4) sc_lGreat.nd rfl (.inl rfl) (pe_ifExp (pt_cmpR op_eq (pv 1) pe_int (nomark _)) (pe_op op_sub (pe_op op_pow pe_int pe_int) (pe_fn dr hr_dr (by rfl) (pa_cons (pv 0) (pa_cons pe_int pa_nil)))) (pe_fn pk hr_pk (by rfl) (pa_cons (pv 0) (pa_cons (pe_lst (pa_cons (pe_op op_pow pe_int pe_int) (pa_cons (pe_op op_sub (pe_op op_pow pe_int pe_int) pe_int) (pa_cons (pe_fn fa hr_fa (by rfl) (pa_cons (pv 0) pa_nil)) pa_nil)))) pa_nil)))))
      (pss_cons (ps_set (i := 5) sc_lGreat.nd rfl (.inl rfl) (pe_cmpR op_eq (pe_fn dr hr_dr (by rfl) (pa_cons (pv 0) (pa_cons pe_int pa_nil))) pe_int (nomark _)))
      (pss_cons (ps_set (i := 6) sc_lGreat.nd rfl (.inl rfl) (pe_tup (pa_cons (pe_tup (pa_cons pe_str (pa_cons (pe_callTy call_tuple_of (by rfl) B.tuple (by decide +kernel) (pa_cons (pe_lc (own := [("deed", 7)]) (g := gName 7) (tt := tYes) rfl sc_lGreat.nd (pi_list (pv 2)) (blkOk_by (own := [("deed", 7)]) (N := n_lGreat) (sc := defScope sLIsGreat) (by decide +kernel)) (fun _ _ _ _ _ => pg_name (i := 7) sc_lGreat.nd rfl (.inl rfl)) (fun _ _ _ _ _ => pts_nil) (fun _ _ _ _ _ => (pe_tup (pa_cons pe_str (pa_cons (pv 7) pa_nil))))) pa_nil)) pa_nil))) pa_nil)))
      (pss_cons (ps_set (i := 6) sc_lGreat.nd rfl (.inl rfl) (pe_op op_catA (pv 6) (pe_tup (pa_cons (pe_tup (pa_cons pe_str (pa_cons (pe_ifExp (pt_val (pv 5)) (pe_tup (pa_cons pe_str (pa_cons (pe_tup (pa_cons pe_str (pa_cons pe_int pa_nil))) pa_nil))) (pe_tup (pa_cons pe_str (pa_cons pe_int pa_nil)))) (pa_cons (pv 4) pa_nil)))) pa_nil))))
      (pss_cons (ps_set (i := 8) sc_lGreat.nd rfl (.inl rfl) (pe_fn of hr_of (by rfl) (pa_cons (pv 1) (pa_cons (pe_fn md hr_md (by rfl) (pa_cons (pv 1) (pa_cons (pv 2) pa_nil))) (pa_cons (pe_ifExp (pt_val (pv 5)) (pe_un un_neg (pv 4)) (pv 4)) pa_nil)))))
      (pss_one (ps_ret (pe_cmpR op_eq (pe_callB cr (by rfl) B.repr (by decide +kernel) (pa_cons (pe_fn to.ok hr_to (by rfl) (pa_cons (pv 1) (pa_cons (pv 6) pa_nil))) pa_nil)) (pe_callB cr (by rfl) B.repr (by decide +kernel) (pa_cons (pv 8) pa_nil)) (nomark _)))))))))), ?_⟩
    refine sq_asg (val_joinG (R := fun v G => ∃ N : Nat, v = .int (N : Int) ∧ 3 ≤ N ∧ N ≤ 6 ∧ Deck G p l) (fun v G1 ⟨N, e, N3, N6, D1⟩ => ?_) fun Q' k => ?_)
    rotate_left
    · exact if_eqcG ⟨.ref p, rfl, p, l, 4, rfl, Dk, by decide, by decide, fun G r D E r0 r1 => ⟨rfl, _, rfl, ite2 (fun c => k _ _ ⟨6, rfl, by decide, by decide, D⟩) (fun c => k _ _ ⟨5, rfl, by decide, by decide, D⟩)⟩⟩
    subst e
    clear Dk
    refine sq_asg ⟨.ref p, rfl, p, l, 3, rfl, D1, by decide, by decide, fun G2 r D2 E2 r0 r1 => ?_⟩
    refine ⟨_, _, rfl, rfl, 2 + r, rfl, by omega, by omega, fun D nD => bq_lcR nD (p := p) (l := l) (σ := [some (.ref p), some (.int (N : Int)), none, none, none, none, none, none, none]) (vs := [3]) (g := 3) (m := (2 + r).toNat) (R := fun d => ∃ m, d = deedD m ∧ Deed N m) (by omega) D2 (fun _ => rfl) (fun k hk => bq_deed rfl rfl N3 N6) fun G3 us ds D3 E3 nDp nDl hD qu hl fu hds => ?_⟩
    obtain ⟨ms, rfl, hms⟩ := deeds_ofG hds
    have D3 : Deck G3 p l := D3
    have hml : ms.length ≤ 5 := by rw [List.length_map] at hl; omega
    have hul : us.length = ms.length := by rw [qu.len, List.length_map]
    clear D2 E2 E3 D1 hl hds
    have e9 : (10 : Int) ^ (9 : Int).toNat = 1000000000 := by decide +kernel
    have e30 : (10 : Int) ^ (30 : Int).toNat = ((10 ^ 30 : Nat) : Int) := by decide +kernel
    have e31 : (10 ^ 30 : Nat) = 1000000000000000000000000000000 := by decide +kernel
    refine sq_asg (val_joinG (R := fun v G => ∃ c : Nat, v = .int (c : Int) ∧ c ≤ 10 ^ 30 ∧ Deck G p l ∧ Ext p l G3 G) (fun v G4 ⟨c, e, hc, D4, E4⟩ => ?_) fun Q' k => ?_)
    rotate_left
    · refine if_eqcG ⟨_, rfl, rfl, _, rfl, ite2 (fun c => ?_) (fun c => ?_)⟩
      · refine bn_at (F := frD p l) (H := G3) (N := fun x => ∃ c : Nat, x = (c : Int) ∧ c ≤ 10 ^ 30) (bn_op (bn_opC (bn_c (bn_c ⟨⟨by decide, by decide, by decide⟩, bn_draw rfl (bn_c ⟨by decide, by decide, fun r h0 h1 => ⟨(1000000000 - r).toNat, ?_, ?_⟩⟩)⟩)))) D3 fun G4 x D4 E4 ⟨c, e, hc⟩ => k _ _ ⟨c, by rw [e], hc, D4, E4⟩
        · rw [e9]
          omega
        · rw [e31]
          omega
      · refine bn_at (F := frD p l) (H := G3) (N := fun x => ∃ c : Nat, x = (c : Int) ∧ c ≤ 10 ^ 30) (bn_pick (m := 2) rfl ?_) D3 fun G4 x D4 E4 ⟨c, e, hc⟩ => k _ _ ⟨c, by rw [e], hc, D4, E4⟩
        walk_at "bq"
        refine bq_int (N := fun x => ∃ c : Nat, x = (c : Int) ∧ c ≤ 10 ^ 30) (bn_opC (bn_c (bn_c ⟨⟨by decide, by decide, by decide⟩, 10 ^ 30, e30, Nat.le_refl _⟩))) fun x hx => ?_
        walk_at "bq"
        refine bq_int (N := fun x => ∃ c : Nat, x = (c : Int) ∧ c ≤ 10 ^ 30) (bn_op (bn_opC (bn_c (bn_c ⟨⟨by decide, by decide, by decide⟩, bn_c ⟨10 ^ 30 - 1, by rw [e30, e31]; rfl, Nat.sub_le _ _⟩⟩)))) fun y hy => ?_
        walk_at "bq"
        refine bq_int (N := fun x => ∃ c : Nat, x = (c : Int) ∧ c ≤ 10 ^ 30) (bn_farG rfl fun x h0 h1 => ⟨x.toNat, by omega, by rw [e31]; omega⟩) fun z hz => ?_
        walk_at "bq"
        intro d hd
        simp only [List.mem_cons, List.not_mem_nil, or_false] at hd
        rcases hd with rfl | rfl | rfl
        · exact ⟨_, rfl, hx⟩
        · exact ⟨_, rfl, hy⟩
        · exact ⟨_, rfl, hz⟩
    subst e
    have hD4 := E4.at_ nDp nDl hD
    have qu4 := DqA.upT (TS.deck D3 E4) fu qu
    clear D3 E4 hD qu nD
    dsimp only
    refine sq_asg ⟨.ref p, rfl, p, l, 2, rfl, D4, by decide, by decide, fun G5 r D5 E5 r0 r1 => ⟨rfl, ?_⟩⟩
    have hD5 := E5.at_ nDp nDl hD4
    have qu5 := DqA.upT (TS.deck D4 E5) fu qu4
    clear D4 E5 hD4 qu4
    generalize decide (V.int r = V.int 0) = b
    refine sq_asg ⟨.ref D, rfl, D, rfl, ⟨us, SqL.of hD5⟩, fun A nA => ?_⟩
    refine lc_it (walk_list (K := K) (a := D) (xs := us)) (fun i G => ∃ rs : List V, G A = some (.lst rs) ∧ Same G5 G ∧ DqA G rs (((ms.take i).map Tm.doo).map tmD) ∧ rs.length = i) ⟨[], upd_same, same_new nA, .nil, rfl⟩ (fun _ _ _ ⟨_, _, sm, _⟩ => SqL.of (sm _ _ hD5)) ?_ ?_
    · rintro i x _ G hi ⟨rs, hA, sm, qr, hrl⟩ ⟨rfl, hx⟩
      obtain ⟨d0, hd0, qd⟩ := qu5.get hx
      rw [List.getElem?_map] at hd0
      obtain ⟨m, hm, rfl⟩ := Option.map_eq_some_iff.mp hd0
      refine ⟨rfl, ?_⟩
      dsimp only [tYes]
      rw [if_pos rfl]
      refine ⟨x, rfl, by show 2 ≤ sizeLine; decide, fun a na => ?_⟩
      have sa := same_new (o := .tup [.str "do", x]) na
      have hA2 := sa _ _ hA
      have qx : Dq (upd G a (.tup [.str "do", x])) (.ref a) (tmD (.doo m)) := by
        simp only [tmD]
        exact .tup upd_same (.cons (.str _) (.cons ((qd.up sm).up sa) .nil))
      have qr2 := qr.up sa
      have sm2 := sm.trans sa
      generalize upd G a (.tup [.str "do", x]) = G7 at hA2 qx qr2 sm2
      have tA : TS G7 (upd G7 A (.lst (rs ++ [.ref a]))) := TS.lst hA2
      have fl : flatTA (((ms.take i).map Tm.doo).map tmD) = true := by
        have := tms_flat ((ms.take i).map Tm.doo)
        rwa [tmDs_map] at this
      refine ⟨rs, hA2, szm (by omega), rs ++ [.ref a], upd_same, fun e o he => ?_, ?_, by rw [List.length_append, hrl]; rfl⟩
      · rw [upd_ne (ne_of_none he nA)]
        exact sm2 _ _ he
      · rw [List.take_add_one, hm, List.map_append, List.map_append]
        exact dqa_snoc (DqA.upT tA fl qr2) (Dq.upT tA (tm_flat _) qx)
    rintro G6 ⟨rs, hA, sm6, qr, hrl⟩
    rw [hul, List.take_length] at qr
    refine ⟨A, rs, rfl, .inl ⟨SqL.of hA, fun t1 n1 => ⟨by show 2 ≤ sizeLine; decide, fun t2 n2 => ⟨by show 1 ≤ sizeLine; decide, fun t3 n3 => ?_⟩⟩⟩⟩
    have u1 := same_new (o := .tup rs) n1
    have u2 := same_new (o := .tup [.str "row", .ref t1]) n2
    have u3 := same_new (o := .tup [.ref t2]) n3
    have qp1 : Dq (upd (upd (upd G6 t1 (.tup rs)) t2 (.tup [.str "row", .ref t1])) t3 (.tup [.ref t2])) (.ref t3) (.tuple [tmD (.row (ms.map .doo))]) := by
      refine .tup upd_same (.cons ?_ .nil)
      simp only [tmD]
      rw [tmDs_map]
      exact .tup (u3 _ _ upd_same) (.cons (.str _) (.cons (.tup ((u2.trans u3) _ _ upd_same) (qr.up (u1.trans (u2.trans u3)))) .nil))
    have s7 := sm6.trans (u1.trans (u2.trans u3))
    generalize upd (upd (upd G6 t1 (.tup rs)) t2 (.tup [.str "row", .ref t1])) t3 (.tup [.ref t2]) = G7 at qp1 s7
    clear u1 u2 u3 n1 n2 n3 hA qr nA sm6
    have hD7 := s7 _ _ hD5
    have qu7 := qu5.up s7
    obtain ⟨pa, ys, epa, hpa, qpa⟩ := qp1.tup_inv
    cases epa
    refine sq_asg ⟨.ref t3, rfl, ?_⟩
    refine bq_at (F := frS) (H := G7) (R := fun d => d = .tuple [tmD (.times (if b = true then .back (.part 0) else .part 0) c)]) ?_ trivial fun G8 w d _ s8 q8 f8 h8 => ?_
    · walk_at "bq"
      refine bq_ifbG rfl (fun hb => ?_) (fun hb => ?_)
      · subst hb
        walk_at "bq"
        refine bq_ivar rfl ?_
        walk_at "bq"
        simp only [tmD, if_true]
        rfl
      · subst hb
        walk_at "bq"
        refine bq_ivar rfl ?_
        walk_at "bq"
        simp only [tmD, Bool.false_eq_true, if_false]
        rfl
    subst h8
    obtain ⟨pb, zs, rfl, hpb, qpb⟩ := q8.tup_inv
    have hyl : ys.length = 1 := qpa.len
    have hzl : zs.length = 1 := qpb.len
    refine catA_k (s8 _ _ hpa) hpb (by omega) fun pg G9 s9 hpg => ?_
    have s89 := Same.trans s8 s9
    have qpg : Dq G9 (.ref pg) (.tuple ((greatP ms b c).map tmD)) := .tup hpg ((qpa.up s89).app (qpb.up s9))
    have hD9 := s89 _ _ hD7
    have qu9 := qu7.up s89
    clear qp1 hpa qpa q8 hpb qpb hD7 qu7
    refine sq_asg ⟨.int (N : Int), rfl, .int (N : Int), rfl, .ref D, rfl, N, D, us, ms, rfl, N3, N6, hD9, hul, fun j v m hv hm => ?_, fun m hm => ?_, fun GA tv sA qt => ?_⟩
    · obtain ⟨d, hd, qd⟩ := qu9.get hv
      rw [List.getElem?_map, hm] at hd
      cases Option.some.inj hd
      exact deed_inv qd
    · have d := hms m hm
      have h1 := d.ab
      have h2 := d.bn
      have h3 := d.asc.len
      exact ⟨⟨by omega, h2⟩, by omega, fun x hx => by have := (d.asc.2 x hx).2; omega⟩
    refine bn_at (F := frS) (H := GA) (N := fun x => x = if b = true then -(c : Int) else (c : Int)) (bn_ifbG rfl (fun hb => bn_negG rfl (by rw [if_pos hb])) fun hb => bn_var rfl (by rw [hb]; rfl)) trivial fun GB x _ sB hx => ?_
    subst hx
    refine ⟨N, tv, _, _, rfl, N6, qt.up sB, made_ok N6 hms, fun GC dv sC qd => ?_⟩
    have s9C := Same.trans sA (Same.trans sB sC)
    refine ret_eq_repr ⟨.int (N : Int), rfl, .ref pg, rfl, .ref pg, greatP ms b c, N, rfl, N6, qpg.up s9C, greatP_ok hms hml hc, fun GD r sD hr => ?_⟩
    dsimp only [tNil]
    rw [greatP_tab N6 hms] at hr
    have smT := sm_tab N6 (powT_ok N6 (made_ok N6 hms) (if b = true then -(c : Int) else (c : Int)))
    refine repr_x hr smT (by decide) (by decide) fun kx hkx => ⟨dv, rfl, ?_⟩
    exact repr_eq hkx (qd.up sD) smT (by decide) (by decide) (q _)
end
end Kr
namespace Kr
open PySem PySem.Spec PyProof.Rows L2
theorem sum_castC : ∀ as : List Nat, ((as.map fun a : Nat => (a : Int)).sum) = ((as.sum : Nat) : Int)
  | [] => rfl
  | a :: as => by
    rw [List.map_cons, List.sum_cons, List.sum_cons, sum_castC as]
    omega
/-! ### the law's own count -/
def cntM : Mea Nat := ⟨fun _ => 1, List.sum, fun a => a, fun a k => a * k⟩
theorem sum_lt : ∀ {as : List Nat} {b : Nat}, (∀ a ∈ as, a ≤ b) → as.sum ≤ b * as.length
  | [], _, _ => Nat.zero_le _
  | a :: as, b, h => by
    have h1 := h a List.mem_cons_self
    have h2 := sum_lt fun x hx => h x (List.mem_cons_of_mem _ hx)
    rw [List.sum_cons, List.length_cons, Nat.mul_succ]
    omega
mutual
theorem cnt_lt {ws : List Nat} {W : Nat} (hw : ∀ a ∈ ws, a < 2 ^ W) : ∀ t : Tm, okTm (fun _ => True) 400 ws.length t → worth cntM ws t < 2 ^ (W + 110 * dep t)
  | .doo d, h => by
    simp only [worth, dep]
    exact Nat.one_lt_two_pow (by omega)
  | .part j, h => by
    simp only [okTm] at h
    simp only [worth, dep]
    rw [List.getD_eq_getElem?_getD, List.getElem?_eq_getElem h]
    exact Nat.lt_of_lt_of_le (hw _ (List.getElem_mem h)) (Nat.pow_le_pow_right (by decide) (by omega))
  | .row ts, h => by
    simp only [okTm] at h
    simp only [worth, dep]
    have h1 := cntL_lt hw ts h.2
    have h2 : (worthL cntM ws ts).sum ≤ 2 ^ (W + 110 * depL ts) * (worthL cntM ws ts).length := sum_lt fun a ha => Nat.le_of_lt (h1 a ha)
    have h3 : (worthL cntM ws ts).length ≤ 400 := by rw [worthL_map, List.length_map]; exact h.1
    refine Nat.lt_of_le_of_lt h2 (Nat.lt_of_le_of_lt (Nat.mul_le_mul_left _ h3) ?_)
    have h4 : 2 ^ (W + 110 * depL ts) * 2 ^ 110 = 2 ^ (W + 110 * (depL ts + 1)) := by rw [← Nat.pow_add]; congr 1
    rw [← h4]
    exact Nat.mul_lt_mul_of_pos_left (by decide +kernel) (Nat.two_pow_pos _)
  | .back t, h => by
    simp only [okTm] at h
    simp only [worth, dep]
    exact Nat.lt_of_lt_of_le (cnt_lt hw t h) (Nat.pow_le_pow_right (by decide) (by omega))
  | .times t k, h => by
    simp only [okTm] at h
    simp only [worth, dep]
    have h1 := cnt_lt hw t h.2
    have h4 : 2 ^ (W + 110 * dep t) * 2 ^ 110 = 2 ^ (W + 110 * (dep t + 1)) := by rw [← Nat.pow_add]; congr 1
    rw [← h4]
    exact Nat.mul_lt_mul'' h1 (Nat.lt_of_le_of_lt h.1 (by decide +kernel))
theorem cntL_lt {ws : List Nat} {W : Nat} (hw : ∀ a ∈ ws, a < 2 ^ W) : ∀ ts : List Tm, okTms (fun _ => True) 400 ws.length ts → ∀ x ∈ worthL cntM ws ts, x < 2 ^ (W + 110 * depL ts)
  | [], _, x, hx => by
    simp only [worthL] at hx
    exact nomatch hx
  | t :: ts, h, x, hx => by
    simp only [okTms] at h
    simp only [worthL] at hx
    simp only [depL]
    rcases List.mem_cons.mp hx with rfl | hx
    · exact Nat.lt_of_lt_of_le (cnt_lt hw t h.1) (Nat.pow_le_pow_right (by decide) (Nat.add_le_add_left (Nat.mul_le_mul_left _ (Nat.le_max_left _ _)) _))
    · exact Nat.lt_of_lt_of_le (cntL_lt hw ts h.2 x hx) (Nat.pow_le_pow_right (by decide) (Nat.add_le_add_left (Nat.mul_le_mul_left _ (Nat.le_max_right _ _)) _))
end
end Kr
namespace Kr
open PySem PySem.Spec PyProof.Rows L2
theorem sum_castM : ∀ l : List Nat, (l.map fun a : Nat => (a : Int)).sum = ((l.sum : Nat) : Int)
  | [] => rfl
  | a :: l => by
    rw [List.map_cons, List.sum_cons, List.sum_cons, sum_castM l]
    exact (Int.natCast_add _ _).symm
section
variable {P : Program} {w : World} {K : PySem.W.Frag} {mg : Str → Option Value} {base : Heap}
def spMany (n : Nat) : Sp := fun vs H Q _ => ∃ (L : Addr) (v : V) (t : Tm) (ws : List Nat) (W : Nat), vs = [.ref L, v] ∧ H L = some (.lst (ws.map fun a : Nat => V.int (a : Int))) ∧ Dq H v (tmD t) ∧ dep t ≤ n ∧ okTm (fun _ => True) 400 ws.length t ∧ (∀ a ∈ ws, a < 2 ^ W) ∧ W + 110 * n ≤ 900000 ∧ ∀ H', Same H H' → Q (.int ((worth cntM ws t : Nat) : Int)) H'
abbrev nMy : List Str := ["sizes", "term", "own"]
theorem scMy : FnScope nMy ["sizes", "term"] (defScope sLMany) := ⟨rfl, rfl, rfl, by decide +kernel, rfl, by decide +kernel, by decide +kernel⟩
theorem o_lMany (D0 : Df K mg "_law_many" sLMany ["sizes", "term"]) (B : Bi mg) : ∀ n, Ok P w K mg base n "_law_many" ["sizes", "term"] (spMany n)
  | 0 => D0.ok fun f fd F => by
    have no : ∀ vs H Q E, ¬ spMany 0 vs H Q E := fun vs H Q E h => by
      obtain ⟨_, _, t, _, _, _, _, _, hd, _⟩ := h
      have := dep_pos t
      omega
    exact ⟨fun vs H Q E h => absurd h (no vs H Q E), fun A outer s H args us vs Q E _ _ _ _ h => absurd h (no vs H Q E)⟩
  | n + 1 => by
    have ih := o_lMany D0 B n
    refine D0.ok fun f fd F => F.ok scMy (fun vs H Q E h => ?_) (fun cdv A outer s H vs Q E hr h => ?_)
    · obtain ⟨_, _, _, _, _, rfl, _⟩ := h
      rfl
    · obtain ⟨L, v, t, ws, W, rfl, hL, hv, hdp, hok, hws, hW, q⟩ := h
      refine ⟨_, pss_cons (ps_if (pt_cmpR op_eq (pe_ix ix_tup (pv 1) pe_int (fun _ _ => rfl)) pe_str (nomark _)) (pss_one (ps_ret pe_int)) pss_nil)
      (pss_cons (ps_if (pt_cmpR op_eq (pe_ix ix_tup (pv 1) pe_int (fun _ _ => rfl)) pe_str (nomark _)) (pss_one (ps_ret (pe_callB (cr_sum rfl) (by rfl) B.sum (by decide +kernel) (pa_cons (pe_lc (own := [("own", 2)]) (g := gName 2) (tt := tYes) rfl scMy.nd (pi_tup (pe_ix ix_tup (pv 1) pe_int (fun _ _ => rfl))) (blkOk_by (own := [("own", 2)]) (N := nMy) (sc := defScope sLMany) (by decide +kernel)) (fun _ _ _ _ _ => pg_name (i := 2) scMy.nd rfl (.inl rfl)) (fun _ _ _ _ _ => pts_nil) (fun _ _ _ _ _ => (pe_fn ih hr (by rfl) (pa_cons (pv 0) (pa_cons (pv 2) pa_nil))))) pa_nil)))) pss_nil)
      (pss_cons (ps_if (pt_cmpR op_eq (pe_ix ix_tup (pv 1) pe_int (fun _ _ => rfl)) pe_str (nomark _)) (pss_one (ps_ret (pe_ix ix_list (pv 0) (pe_ix ix_tup (pv 1) pe_int (fun _ _ => rfl)) (fun _ _ => rfl)))) pss_nil)
      (pss_one (ps_ret (pe_op op_mulW (pe_fn ih hr (by rfl) (pa_cons (pv 0) (pa_cons (pe_ix ix_tup (pv 1) pe_int (fun _ _ => rfl)) pa_nil))) (pe_ifExp (pt_cmpR op_eq (pe_ix ix_tup (pv 1) pe_int (fun _ _ => rfl)) pe_str (nomark _)) (pe_ix ix_tup (pv 1) pe_int (fun _ _ => rfl)) pe_int)))))), ?_⟩
      cases t with
      | doo d =>
        obtain ⟨a, x, rfl, ha, qd⟩ := tm_doo hv
        refine sq_wyes rfl ha (one_ret ?_)
        have := q H (Same.refl _)
        simp only [worth] at this
        exact this
      | part j =>
        simp only [okTm] at hok
        obtain ⟨a, rfl, ha⟩ := tm_prt hv
        refine sq_wno rfl ha (by decide) (sq_wno rfl ha (by decide) (sq_wyes rfl ha (one_ret ?_)))
        have := q H (Same.refl _)
        simp only [worth] at this
        rw [List.getD_eq_getElem?_getD, List.getElem?_eq_getElem hok] at this
        exact ⟨.ref L, rfl, rix rfl ha rfl (j := 1) rfl ⟨L, _, j, _, rfl, rfl, SqL.of hL, atI_nat (by rw [List.getElem?_map, List.getElem?_eq_getElem hok]; rfl), this⟩⟩
      | row ts =>
        simp only [okTm] at hok
        simp only [dep] at hdp
        obtain ⟨a, b, ys, rfl, ha, hb, qy, hyl⟩ := tm_rw hv
        refine sq_wno rfl ha (by decide) (sq_wyes rfl ha (one_ret ?_))
        refine rix rfl ha rfl (j := 1) rfl ⟨b, rfl, ⟨_, SqT.of hb⟩, fun D nD => ?_⟩
        refine lc_it (walk_tup (K := K) (a := b) (xs := ys)) (fun i G => G D = some (.lst ((((ts.take i).map (worth cntM ws)).map fun a : Nat => (a : Int)).map V.int)) ∧ Same H G) ⟨upd_same, same_new nD⟩ (fun _ _ _ ⟨_, sm⟩ => SqT.of (sm _ _ hb)) ?_ ?_
        · rintro i x _ G hi ⟨hD, sm⟩ ⟨rfl, hx⟩
          obtain ⟨d0, hd0, qd⟩ := qy.get hx
          rw [List.getElem?_map] at hd0
          obtain ⟨t, ht, rfl⟩ := Option.map_eq_some_iff.mp hd0
          have htm := List.mem_of_getElem? ht
          have htd : dep t ≤ n := by have := depL_le htm; omega
          refine ⟨rfl, ?_⟩
          dsimp only [tYes]
          rw [if_pos rfl]
          refine ⟨.ref L, rfl, x, rfl, L, x, t, ws, W, rfl, sm _ _ hL, qd.up sm, htd, okTms_mem hok.2 t htm, hws, by omega, fun H' s1 => ?_⟩
          have hD' := s1 _ _ hD
          refine ⟨_, hD', szm (by rw [List.length_map, List.length_map, List.length_map, List.length_take]; omega), ?_, fun c o hc => ?_⟩
          · rw [upd_same, List.take_add_one, ht]
            simp
          · rw [upd_ne (ne_of_none hc nD)]
            exact s1 _ _ (sm _ _ hc)
        · rintro G ⟨hD, sm⟩
          rw [hyl, List.take_length] at hD
          refine ⟨D, _, rfl, SqL.of hD, ?_⟩
          have := q G sm
          simp only [worth] at this
          rw [worthL_map] at this
          rw [sum_castM]
          exact this
      | back t =>
        simp only [okTm] at hok
        simp only [dep] at hdp
        obtain ⟨a, x, rfl, ha, qx⟩ := tm_bk hv
        have hlt := cnt_lt hws t hok
        refine sq_wno rfl ha (by decide) (sq_wno rfl ha (by decide) (sq_wno rfl ha (by decide) (one_ret ?_)))
        refine ⟨.ref L, rfl, rix rfl ha rfl (j := 1) rfl ⟨L, x, t, ws, W, rfl, hL, qx, by omega, hok, hws, by omega, fun H' s1 => rix rfl (s1 _ _ ha) rfl (j := 0) rfl ⟨rfl, _, rfl, ?_⟩⟩⟩
        rw [decide_eq_false (by decide)]
        refine iteF ⟨_, _, rfl, rfl, wide_mul (a := W + 110 * dep t) (b := 1) (by rw [Int.natAbs_natCast]; exact hlt) (by decide) (by have := dep_pos t; omega) (by decide) (by omega), ?_⟩
        have := q H' s1
        simp only [worth] at this
        show Q (V.int (((worth cntM ws t : Nat) : Int) * 1)) H'
        rw [Int.mul_one]
        exact this
      | times t k =>
        simp only [okTm] at hok
        simp only [dep] at hdp
        obtain ⟨a, x, rfl, ha, qx⟩ := tm_tms hv
        have hlt := cnt_lt hws t hok.2
        refine sq_wno rfl ha (by decide) (sq_wno rfl ha (by decide) (sq_wno rfl ha (by decide) (one_ret ?_)))
        refine ⟨.ref L, rfl, rix rfl ha rfl (j := 1) rfl ⟨L, x, t, ws, W, rfl, hL, qx, by omega, hok.2, hws, by omega, fun H' s1 => rix rfl (s1 _ _ ha) rfl (j := 0) rfl ⟨rfl, _, rfl, ?_⟩⟩⟩
        rw [decide_eq_true rfl]
        refine iteT (rix rfl (s1 _ _ ha) rfl (j := 2) rfl ⟨_, _, rfl, rfl, wide_mul (a := W + 110 * dep t) (b := 100) (by rw [Int.natAbs_natCast]; exact hlt) (by rw [Int.natAbs_natCast]; exact Nat.lt_of_le_of_lt hok.1 (by decide +kernel)) (by have := dep_pos t; omega) (by decide) (by omega), ?_⟩)
        have := q H' s1
        simp only [worth] at this
        show Q (V.int (((worth cntM ws t : Nat) : Int) * (k : Int))) H'
        rw [← Int.natCast_mul]
        exact this
end
end Kr
namespace Kr
open PySem PySem.Spec PyProof.Rows L2
/-! ### how many deeds are done -/
def lim : Nat := 10 ^ 300
theorem lim_lt : lim < 2 ^ 1000 := by decide +kernel
def lenM : Mea Nat := ⟨fun _ => 1, fun as => min as.sum (lim + 1), fun a => a, fun a k => min (a * k) (lim + 1)⟩
def lenR : MeaR Nat where
  toMea := lenM
  rep := fun a v _ => v = .int (a : Int)
  flds := fun fs => fs = []
  ok := fun a => a ≤ lim + 1
  okD := fun _ => True
  most := 400
  up := fun _ h => h
  cD := fun _ => by show 1 ≤ lim + 1; omega
  cR := fun _ _ => Nat.min_le_right _ _
  cB := fun h => h
  cT := fun _ _ => Nat.min_le_right _ _
  nD := fun h => by rw [h]; rfl
  nR := fun h => by rw [h]; rfl
  nB := fun h => by rw [h]; rfl
  nT := fun h => by rw [h]; rfl
abbrev sLmDeed : Stmt := inClass sLengthMeasure 0
abbrev sLmRow : Stmt := inClass sLengthMeasure 1
abbrev sLmBack : Stmt := inClass sLengthMeasure 2
abbrev sLmTimes : Stmt := inClass sLengthMeasure 3
theorem sum_cast : ∀ as : List Nat, ((as.map fun a : Nat => (a : Int)).sum) = ((as.sum : Nat) : Int)
  | [] => rfl
  | a :: as => by
    rw [List.map_cons, List.sum_cons, List.sum_cons, sum_cast as]
    omega
theorem min_cast (a b : Nat) : (if (b : Int) < (a : Int) then (b : Int) else (a : Int)) = ((min a b : Nat) : Int) := by
  by_cases h : (b : Int) < a
  · rw [if_pos h, Nat.min_eq_right (by omega)]
  · rw [if_neg h, Nat.min_eq_left (by omega)]
section
variable {P : Program} {w : World} {K : PySem.W.Frag} {mg : Str → Option Value} {base : Heap} {C : Addr}
theorem f_lmDeed {f : Addr} {fd : FuncData} (F : Fun K "of_deed" "LengthMeasure.of_deed" sLmDeed f fd) : FnOk P w K mg base CX0 1 f fd ["self", "deed"] (lenR.spD C) := by
  have sc : FnScope ["self", "deed"] ["self", "deed"] (defScope sLmDeed) := ⟨rfl, rfl, rfl, by decide +kernel, rfl, by decide +kernel, by decide +kernel⟩
  refine F.ok sc (fun vs H Q E h => ?_) (fun cdv A outer s H vs Q E hr h => ?_)
  · obtain ⟨_, _, _, rfl, _⟩ := h
    rfl
  · obtain ⟨m, v, d, rfl, hob, hv, hd, q⟩ := h
    exact ⟨_, pss_one (ps_ret pe_int), q H _ (Same.refl _) rfl⟩
theorem f_lmBack {f : Addr} {fd : FuncData} (F : Fun K "of_back" "LengthMeasure.of_back" sLmBack f fd) : FnOk P w K mg base CX0 1 f fd ["self", "worth"] (lenR.spB C) := by
  have sc : FnScope ["self", "worth"] ["self", "worth"] (defScope sLmBack) := ⟨rfl, rfl, rfl, by decide +kernel, rfl, by decide +kernel, by decide +kernel⟩
  refine F.ok sc (fun vs H Q E h => ?_) (fun cdv A outer s H vs Q E hr h => ?_)
  · obtain ⟨_, _, _, rfl, _⟩ := h
    rfl
  · obtain ⟨m, v, x, rfl, hob, hv, hx, q⟩ := h
    exact ⟨_, pss_one (ps_ret (pv 1)), v, rfl, q H _ (Same.refl _) hv⟩
theorem f_lmRow {f : Addr} {fd : FuncData} (F : Fun K "of_row" "LengthMeasure.of_row" sLmRow f fd) (B : Bi mg) (hM : ∃ t, mg "MAX_LENGTH" = some (.int (lim : Int) t)) : FnOk P w K mg base CX0 1 f fd ["self", "worths"] (lenR.spR C) := by
  have sc : FnScope ["self", "worths"] ["self", "worths"] (defScope sLmRow) := ⟨rfl, rfl, rfl, by decide +kernel, rfl, by decide +kernel, by decide +kernel⟩
  obtain ⟨tM, gM⟩ := hM
  refine F.ok sc (fun vs H Q E h => ?_) (fun cdv A outer s H vs Q E hr h => ?_)
  · obtain ⟨_, _, _, _, rfl, _⟩ := h
    rfl
  · obtain ⟨m, a, us, as, rfl, hob, ha, hul, has, hus, hok, q⟩ := h
    have eu : us = (as.map fun a : Nat => (a : Int)).map V.int := by
      refine List.ext_getElem? fun i => ?_
      rw [List.getElem?_map, List.getElem?_map]
      cases hx : as[i]? with
      | none => rw [List.getElem?_eq_none (by rw [hul]; exact List.getElem?_eq_none_iff.mp hx)]; rfl
      | some x =>
        have hi : i < us.length := by rw [hul]; exact (List.getElem?_eq_some_iff.mp hx).1
        rw [List.getElem?_eq_getElem hi, hus i us[i] x (List.getElem?_eq_getElem hi) hx]
        rfl
    refine ⟨_, pss_one (ps_ret (pe_callB (call_min2 rfl) (by rfl) B.min (by decide +kernel) (pa_cons (pe_callB (cr_sum rfl) (by rfl) B.sum (by decide +kernel) (pa_cons (pv 1) pa_nil)) (pa_cons (pe_op op_add (pe_glob (v := .int (lim : Int)) (by rfl) gM ⟨_, rfl⟩) pe_int) pa_nil)))), ?_⟩
    refine ⟨.ref a, rfl, a, _, rfl, SqL.of (by rw [ha, eu]), _, _, rfl, rfl, _, _, rfl, ?_⟩
    rw [sum_cast, show ((lim : Nat) : Int) + 1 = ((lim + 1 : Nat) : Int) by omega, min_cast]
    exact q H _ (Same.refl _) rfl
theorem f_lmTimes {f : Addr} {fd : FuncData} (F : Fun K "of_times" "LengthMeasure.of_times" sLmTimes f fd) (B : Bi mg) (hM : ∃ t, mg "MAX_LENGTH" = some (.int (lim : Int) t)) : FnOk P w K mg base CX0 1 f fd ["self", "worth", "k"] (lenR.spT C) := by
  have sc : FnScope ["self", "worth", "k"] ["self", "worth", "k"] (defScope sLmTimes) := ⟨rfl, rfl, rfl, by decide +kernel, rfl, by decide +kernel, by decide +kernel⟩
  obtain ⟨tM, gM⟩ := hM
  refine F.ok sc (fun vs H Q E h => ?_) (fun cdv A outer s H vs Q E hr h => ?_)
  · obtain ⟨_, _, _, _, rfl, _⟩ := h
    rfl
  · obtain ⟨m, v, x, k, rfl, hob, rfl, hx, hk, q⟩ := h
    have hx2 : x < 2 ^ 1001 := by
      have h1 : x ≤ lim + 1 := hx
      have h2 := lim_lt
      have : 2 ^ 1001 = 2 ^ 1000 + 2 ^ 1000 := by rw [Nat.pow_succ]; omega
      omega
    refine ⟨_, pss_one (ps_ret (pe_callB (call_min2 rfl) (by rfl) B.min (by decide +kernel) (pa_cons (pe_op op_mulW (pv 1) (pv 2)) (pa_cons (pe_op op_add (pe_glob (v := .int (lim : Int)) (by rfl) gM ⟨_, rfl⟩) pe_int) pa_nil)))), ?_⟩
    refine ⟨.int x, rfl, .int k, rfl, _, _, rfl, rfl, wide_mul (a := 1001) (b := 100) (by rw [Int.natAbs_natCast]; exact hx2) (by rw [Int.natAbs_natCast]; exact Nat.lt_of_le_of_lt hk (by decide +kernel)) (by decide) (by decide) (by decide), _, _, rfl, rfl, _, _, rfl, ?_⟩
    rw [← Int.natCast_mul, show ((lim : Nat) : Int) + 1 = ((lim + 1 : Nat) : Int) by omega, min_cast]
    exact q H _ (Same.refl _) rfl
end
end Kr
namespace Kr
open PySem PySem.Spec PyProof.Rows L2
/-! ### C(), C an own class without __init__ -/
structure MkP (K : PySem.W.Frag) (C : Addr) : Prop where
  makes : PySem.W.makesIn K C = true
  init : PySem.W.findIn K (.ref C) "__init__" = some (some (.builtin "object.__init__"))
  kp : PySem.W.keepIn K (.ref C) = true
def tMakeP (C : Addr) : TE := fun _ H Q => ∀ x dx, H x = none → H dx = none → dx ≠ x → Q (.ref x) (upd (upd H dx (.own x)) x (.ins C dx []))
section
variable {X : Cx} {C : Addr} {x : Str} {p pos : Pos}
theorem run_makeP {pins : List (Addr × Obj)} {σ : L2.St} {H : Hp} {s : Shared} {Q : VK} (M : MkP X.K C) (I : Inv X pins σ H s)
    (h : ∀ x dx, H x = none → H dx = none → dx ≠ x → Q (.ref x) (upd (upd H dx (.own x)) x (.ins C dx []))) :
    wpAny (model X.prog X.w) X.A (call (.ref C) []) (EP X pins σ Q) X.xe s := by
  have hq := h (s.heap.objs.size + 1) s.heap.objs.size (I.hok.fresh (Nat.le_succ _)) (I.hok.fresh (Nat.le_refl _)) (Nat.ne_of_lt (Nat.lt_succ_self _))
  have I2 := Inv.made (C := C) I
  have Y := PySem.W.makes_of (M := model X.prog X.w) I.kIn M.makes
  refine wpAny_call (make_map0 I.kIn M.makes M.init (fun self => PySem.W.Looks.of_pure (PySem.W.oi_bind self)) ?_)
  have e2 : ((s.heap.push PySem.W.emptyDict).push (PySem.W.instObj C s.heap.objs.size)).get? (s.heap.objs.size + 1) = some (PySem.W.instObj C s.heap.objs.size) := by
    have := Heap.get?_push_size (s.heap.push PySem.W.emptyDict) (o := PySem.W.instObj C s.heap.objs.size) rfl
    rwa [Heap.size_push] at this
  have t1 : PySem.W.Looks (model X.prog X.w) ((s.heap.push PySem.W.emptyDict).push (PySem.W.instObj C s.heap.objs.size)) (typeOf (.ref (s.heap.objs.size + 1))) (.ref C) := (PySem.W.Looks.ld e2).andThen .now
  have t2 : PySem.W.Looks (model X.prog X.w) ((s.heap.push PySem.W.emptyDict).push (PySem.W.instObj C s.heap.objs.size)) (isInstance (.ref (s.heap.objs.size + 1)) (.type "object")) true := t1.andThen (Y.top.keeps fun b o e => Heap.get?_push_of_some _ (Heap.get?_push_of_some _ e))
  refine codeAny_call_builtin PySem.W.oi_plain PySem.W.entry_oi (@PySem.W.check_slot (model X.prog X.w) _ _ _ "object.__init__" "object" "__init__" (.ref (s.heap.objs.size + 1)) [] [] _ PySem.W.oi_kind PySem.W.oi_split t2 (PySem.W.oi_args (.ref (s.heap.objs.size + 1))) ?_)
  rw [PySem.W.oi_run]
  exact wpAny_pure (And.intro rfl ⟨V.ref (s.heap.objs.size + 1), _, I2, rfl, hq⟩)
theorem pe_makeP (M : MkP X.K C) (hg : Gl X x) (hm : X.mg x = some (.ref C)) (hdb : (x == ("__debug__" : Str)) = false := by decide) : PE X (.Call (.Name x p) [] [] pos) (tMakeP C) := by
  refine ⟨fun pins s σ H Q I h => ?_⟩
  refine wpAny_Call_Name_kw (ld_glob I hg hm ?_ hdb)
  exact PySem.W.callWith_K0 I.kIn M.kp (run_makeP M I h)
end
end Kr
namespace PySem
namespace TooX
open PySem.W PySem.Calls PyProof.Rows PySem.HandSPX
/-! ### the text of __init__ -/
def iA (p1 p2 : Pos) : Arguments := { posonlyargs := [], args := [{ arg := "self", annotation := none, pos := p1 }, { arg := "limit", annotation := none, pos := p2 }], vararg := none, kwonlyargs := [], kw_defaults := [], kwarg := none, defaults := [] }
def iB (q1 q2 q3 q4 : Pos) : List Stmt := [.Assign [.Attribute (.Name "self" q1) "limit" q2] (.Name "limit" q3) q4]
def iS : Scope := { kind := .function, names := [(PySem.Str.ofString "self", .local), (PySem.Str.ofString "limit", .local)], isGenerator := false, isCoroutine := false, more := [] }
/-- what the written part says of Low, at C, and of its __init__, at fI -/
structure TooTxt (K : Frag) (mg : Str → Option Value) (C fI : Addr) : Prop where
  gC : mg "TooMany" = some (.ref C)
  cls : ∃ nm q N bs bm sn sub ab col dd k0 k1 k2 k3 k5, K.lookup C = some (excClassObj nm q C N bs bm true sn sub ab col dd k0 k1 k2 k3 k5 "ValueError.__new__") ∧ refsVE bm = true
  sa : findIn K (.ref C) "__setattr__" = some (some (.builtin "object.__setattr__"))
  ga : findIn K (.ref C) "__getattribute__" = some (some (.builtin "BaseException.__getattribute__"))
  gg : findIn K (.ref C) "__getattr__" = some none
  noN : findIn K (.ref C) "limit" = some none
  iC : findIn K (.ref C) "__init__" = some (some (.ref fI))
  tC : typeIn K (.ref fI) = some (.type "function")
  kC : keepIn K (.ref C) = true
  exC : subIn K (.ref C) (.type "BaseException") = some true
  tyC : typeIn K (.ref C) = some (.type "type")
  hdC : hasDictIn K C = true
  te : exmOne K (.ref C) (.ref C) = some true
  fn : ∃ (oc : Value) (od : Option Addr) (doc pm : Value) (an : Option Addr) (cdv ct : Value) (osl : Array (Option Value)) (p1 p2 q1 q2 q3 q4 : Pos),
    K.lookup fI = some ⟨oc, od, .func (fnOf "__init__" "TooMany.__init__" (iA p1 p2) (iB q1 q2 q3 q4) iS .none .none doc pm an cdv ct), osl⟩ ∧ codeIn K cdv "TooMany.__init__" = true
theorem one_size (v : Value) : [v].length ≤ sizeLine := by
  rw [sizeLine_eq]
  exact (by decide : 1 ≤ 16777216)
theorem kept_but {K : Frag} {h h' : Heap} {x : Addr} (X : K.In h) (hx : K.lookup x = none) (k : ∀ b o, b ≠ x → h.get? b = some o → h'.get? b = some o) : K.In h' := fun a o e =>
  k a o (fun z => by rw [z, hx] at e; cases e) (X a o e)
theorem ldC {M : Model} {s : Shared} {name : Str} {scope : Scope} {L a : Addr} {cd : Value} {m : Str → Option Value} {x : Str} {pos : Pos} {v : Value} {Q : Value → Shared → Prop} {A : Around} {E : Value → Shared → Prop} (hn : s.heap.Ns L m) (hv : m x = some v) (h : Q v s)
    (hk : scope.kind = .function := by rfl) (hl : (envOfC name scope L a cd).kindOf x = some .local := by rfl) (hd : (x == ("__debug__" : Str)) = false := by decide) :
    wpAny M A (eval (.Name x pos) (envOfC name scope L a cd)) Q E s := wpAny_Name (wpAny_loadName_local hk hl hn hv h) hd
/-- what __init__ leaves of a fresh exception at x -/
structure InitEnd (h h' : Heap) (x C dx t1 : Addr) (v : Value) : Prop where
  keep : ∀ b o, b ≠ x → h.get? b = some o → h'.get? b = some o
  obj : h'.get? x = some { cls := .ref C, dict := some dx, data := .fields #[.ref t1, .none, .none, .none, .bool false, .none] }
  dbig : h.objs.size ≤ dx
  dne : dx ≠ x
  ns : h'.Ns1 dx (fun y => if y = "limit" then some v else none)
/-- a made Low -/
structure OwnMade (h h' : Heap) (e C d : Addr) (v : Value) : Prop where
  keep : ∀ b o, h.get? b = some o → h'.get? b = some o
  new : h.objs.size ≤ e
  obj : ∃ oe vs, h'.get? e = some oe ∧ oe.cls = .ref C ∧ oe.dict = some d ∧ oe.data = .fields vs ∧ vs[1]? = some .none
  dbig : h.objs.size ≤ d
  dne : d ≠ e
  ns : h'.Ns1 d (fun y => if y = "limit" then some v else none)
section
variable {prog : Program} {w : World} {A : Around} {E : Value → Shared → Prop} {R : Result → Shared → Prop} {s : Shared} {K : Frag} {mg : Str → Option Value} {C fI : Addr}
theorem too_init (T : TooTxt K mg C fI) {x t0 : Addr} {v : Value} (X : K.In s.heap) (hlim : s.heap.NoLimit) (hx : s.heap.get? x = some (excO C t0)) (hnx : K.lookup x = none) (hroom : A.depth < recursionLimit)
    (hq : ∀ h' tk dx, InitEnd s.heap h' x C dx t0 v → R (.ok (.ret .none)) { s with heap := h', toks := tk }) :
    codeAny (model prog w) A (.call (.ref fI) ⟨[.ref x, v], []⟩) R s := by
  obtain ⟨oc, od, doc, pm, an, cdv, ct, osl, p1, p2, q1, q2, q3, q4, ho, hcd⟩ := T.fn
  obtain ⟨nm, q, N, bs, bm, sn, sub, ab, col, dd, k0, k1, k2, k3, k5, hC, hbm⟩ := T.cls
  have hcl : clsIn K C = some { name := nm, bases := bs, mro := .ref C :: bm, ns := N, qualname := q, hasDict := true, slotNames := sn, subclasses := sub, abstract := ab, collection := col, hasDel := false } := by unfold clsIn; rw [hC] <;> rfl
  refine Att.call_fn (binds := [("self", .ref x), ("limit", v)]) X hlim ho hcd hroom (BindsTo.of_eq (by first | rfl | with_unfolding_all rfl)) (by first | rfl | decide | with_unfolding_all rfl) (fun s₁ IC => ?_) rfl rfl rfl
  obtain ⟨h₁, tk₁, rfl⟩ := IC.toInCall.same
  have k : ∀ b o, s.heap.get? b = some o → h₁.get? b = some o := IC.toInCall.keep
  have hn := IC.toInCall.ns
  have hxL : s.heap.objs.size ≠ x := Nat.ne_of_gt (Heap.lt_size hx)
  have X₁ : K.In h₁ := X.keeps k
  have hx₁ := k _ _ hx
  -- self.by = by
  show wpAny _ _ (execs _ _) _ _ _
  refine wpAny_execs_cons (plainObj_wpAny_Assign_Attribute ?_)
  refine ldC (v := v) hn (by first | rfl | with_unfolding_all rfl | kernel_rfl) (ldC (v := .ref x) hn (by first | rfl | with_unfolding_all rfl | kernel_rfl) ?_)
  refine set_plain X₁ (ox := excO C t0) (od := none) ⟨hx₁, rfl, rfl, trivial⟩ T.sa ?_
  refine exc_osa X₁ hx₁ hcl (show refsVE (.ref C :: bm) = true from hbm) rfl T.noN (fun h₃ tk₃ dx k₃ dn dne hx₃ hn₃ => ?_)
  show wpAny _ _ (execs _ _) _ _ _
  have z : s.heap.objs.size < h₁.objs.size := hn.lt
  exact wpAny_execs_nil (hq h₃ tk₃ dx ⟨fun b o hb e => k₃ b o hb (k b o e), hx₃, Nat.le_of_lt (Nat.lt_of_lt_of_le z dn), dne, hn₃⟩)
theorem too_made (T : TooTxt K mg C fI) {v : Value} (X : K.In s.heap) (hlim : s.heap.NoLimit) (hroom : A.depth + 1 < recursionLimit)
    (hq : ∀ h' tk e d, OwnMade s.heap h' e C d v → R (.ok (.ret (.ref e))) { s with heap := h', toks := tk }) :
    codeAny (model prog w) A (.call (.ref C) ⟨[v], []⟩) R s := by
  obtain ⟨nm, q, N, bs, bm, sn, sub, ab, col, dd, k0, k1, k2, k3, k5, hC, hbm⟩ := T.cls
  obtain ⟨hp, g, dr, tk, os⟩ := s
  have k : ∀ b o, hp.get? b = some o → ((hp.push (kdv_tup [v])).push (excO C hp.objs.size)).get? b = some o := fun b o e => Heap.get?_push_of_some _ (Heap.get?_push_of_some _ e)
  have hget : ((hp.push (kdv_tup [v])).push (excO C hp.objs.size)).get? (hp.objs.size + 1) = some (excO C hp.objs.size) := by heap_get
  have hnx : K.lookup (hp.objs.size + 1) = none := by
    cases e : K.lookup (hp.objs.size + 1) with
    | none => rfl
    | some o =>
      have z : hp.get? (hp.objs.size + 1) = some o := X _ _ e
      exact absurd (Nat.lt_of_succ_lt (Heap.lt_size z)) (Nat.lt_irrefl _)
  refine call_own F.excBase_ValueError (fun X => refsVE_contains X bm hbm) (X _ _ hC) (looks_findIn X T.iC) (fun self => bind_fn X self T.tC) (one_size v) ?_
  refine too_init (s := ⟨(hp.push (kdv_tup [v])).push (excO C hp.objs.size), g, dr, tk, os⟩) T (X.keeps k) (hlim.keeps k) hget hnx ?_ fun h' tk' dx ⟨k', hx, dn, dne, hns⟩ => ?_
  · show A.depth + 1 < recursionLimit
    exact hroom
  · have old : ∀ b o, hp.get? b = some o → h'.get? b = some o := fun b o e => k' b o (Nat.ne_of_lt (Nat.lt_succ_of_lt (Heap.lt_size e))) (k b o e)
    have z : hp.objs.size + 1 + 1 ≤ dx := by
      first
        | (simpa only [Heap.size_push] using dn)
        | exact dn
        | (have q := dn; rw [Heap.size_push, Heap.size_push] at q; exact q)
    exact ⟨rfl, hq h' tk' (hp.objs.size + 1) dx ⟨old, Nat.le_succ _, ⟨_, _, hx, rfl, rfl, rfl, rfl⟩, Nat.le_trans (Nat.le_trans (Nat.le_succ _) (Nat.le_succ _)) z, dne, hns⟩⟩
end
end TooX
end PySem
namespace L2
open PySem PySem.Spec PyProof.Rows
theorem relO_too {v : V} {v' : Value} (r : RelV v v') (f : Str) : RelO (List.lookup f [(("limit" : Str), v)]) (if f = "limit" then some v' else none) := by
  by_cases hw : f = "limit"
  · subst hw
    rw [if_pos rfl]
    have q : List.lookup ("limit" : Str) [(("limit" : Str), v)] = some v := by simp [List.lookup]
    rw [q]
    exact r
  · rw [if_neg hw]
    have qw : (f == ("limit" : Str)) = false := by simpa using hw
    have q2 : List.lookup f [(("limit" : Str), v)] = none := by simp [List.lookup, qw]
    rw [q2]
    trivial
section
variable {X : Cx} {C fI : Addr}
/-- Low(e) -/
def tMkToo (C : Addr) (ta : TA) : St → Hp → XK → Prop := fun σ H Q => ta σ H fun vs H1 => ∃ v, vs = [v] ∧ ∀ d, H1 d = none → Q (.ref C) (some d) (upd H1 d (.xd [(("limit" : Str), v)]))
theorem pmk_too {a : Expr} {ta : TA} {p pos : Pos} {k : Nat} (T : PySem.TooX.TooTxt X.K X.mg C fI) (hr : Room k X.A) (ha : PA X [a] ta) (hg : Gl X "TooMany" := by rfl)
    (he : starEach (a :: []) X.env = (false, eval a X.env) :: starEach [] X.env := by rfl) (hpl : (backTo pos (starEach [] X.env)).any (·.1) = false := by rfl) :
    PMk X (.Call (.Name "TooMany" p) [a] [] pos) (tMkToo C ta) := by
  intro pins s σ H Q I h
  refine wpAny_Call_Name_kw (ld_glob I hg T.gC ?_)
  refine PySem.W.callWith_K (h₀ := X.base) I.ok.mod.kin T.kC (thn (ha.run pos pins s σ H _ I h) fun us s1 hh => ?_) he hpl
  obtain ⟨vs, H1, I1, r1, v, ev, q1⟩ := hh
  subst ev
  refine ⟨I1.kIn, ?_⟩
  cases r1 with
  | cons rv rn =>
    rename_i v' us'
    cases rn
    show wpAny _ _ (call (.ref C) [v']) _ _ _
    have hlim := I1.nolimit
    obtain ⟨hp, g, dr, tk, os⟩ := s1
    refine wpAny_call (PySem.TooX.too_made T I1.kIn hlim (by have := hr.dp; omega) fun h' tk' e d M => ?_)
    show MkP X pins σ Q (.ref e) ⟨h', g, dr, tk', os⟩
    obtain ⟨oe, fv, hoe, hc, hd, hdat, h1⟩ := M.obj
    have hns := M.ns
    obtain ⟨G', g1, g2⟩ := restrict h' fun b => decide (b ≠ e)
    have gk : ∀ b, b ≠ e → G'.get? b = h'.get? b := fun b hb => g1 b (decide_eq_true hb)
    have ge : G'.get? e = none := g2 e (by simp)
    have old : ∀ b o, hp.get? b = some o → G'.get? b = some o := fun b o q => (gk b (Nat.ne_of_lt (Nat.lt_of_lt_of_le (Heap.lt_size q) M.new))).trans (M.keep b o q)
    have ob : ObjOk X.prog X.w (upd H1 d (.xd [(("limit" : Str), v)])) G' d (.xd [(("limit" : Str), v)]) :=
      ⟨_, hns.at (fun o q => (gk d M.dne).trans q), fun f => relO_too rv f⟩
    have J : Inv X pins σ (upd H1 d (.xd [(("limit" : Str), v)])) ⟨G', g, dr, tk', os⟩ := I1.laid (t' := tk') old M.dbig ob
    refine ⟨e, oe, fv, ⟨G', g, dr, tk', os⟩, _, .ref C, some d, rfl, J, fun b o q => ?_, ge, hoe, ⟨hc, hd⟩, hdat, h1, ?_, rfl, I1.bare, raises_own T.exC T.tyC, q1 d (I1.hok.fresh M.dbig)⟩
    · by_cases hb : b = e
      · have q' : G'.get? b = some o := q
        rw [hb, ge] at q'; cases q'
      · exact (gk b hb).symm.trans q
    · rw [upd_ne (Ne.symm M.dne)]
      exact I1.hok.fresh M.new
/-- raise Low(e) -/
def tRaiseToo (C : Addr) (W : WX) (ta : TA) : TS := fun _ σ H => tMkToo C ta σ H fun cls d H' => W cls d σ H'
theorem ps_raiseToo {a : Expr} {ta : TA} {W : WX} {p pos pos2 : Pos} {k : Nat} (hc : X.calm = true) (T : PySem.TooX.TooTxt X.K X.mg C fI) (hr : Room k X.A) (tk : Takes X W) (ha : PA X [a] ta) (hg : Gl X "TooMany" := by rfl)
    (he : starEach (a :: []) X.env = (false, eval a X.env) :: starEach [] X.env := by rfl) (hpl : (backTo pos (starEach [] X.env)).any (·.1) = false := by rfl) :
    PS X (.Raise (some (.Call (.Name "TooMany" p) [a] [] pos)) none pos2) (tRaiseToo C W ta) := ps_raise hc tk (pmk_too T hr ha hg he hpl)
/-- low.by, low the exception that the suite holds (at a; its class cls, its dict d) -/
def tByToo (C : Addr) (a : Addr) (cls : Value) (d : Option Addr) (te : TE) : TE := fun σ H Q => te σ H fun x H1 => x = .ref a ∧ cls = .ref C ∧ ∃ (dd : Addr) (v : V), d = some dd ∧ H1 dd = some (.xd [(("limit" : Str), v)]) ∧ Q v H1
theorem pe_byToo {a : Addr} {oe : Obj} {cls : Value} {d : Option Addr} {pn : List (Addr × Obj)} {e : Expr} {te : TE} {pos : Pos} (T : PySem.TooX.TooTxt X.K X.mg C fI) (hz : Zc cls d oe) (hf : ∃ vs, oe.data = .fields vs) (he : PE (X.suite a ((a, oe) :: pn)) e te)
    (hb : attributeBase e "limit" X.env (eval e X.env) = eval e X.env := by rfl) :
    PE (X.suite a ((a, oe) :: pn)) (.Attribute e "limit" pos) (tByToo C a cls d te) := by
  refine ⟨fun pins s σ H Q I h => ?_⟩
  refine attr_of hb (thn (he.run pins s σ H _ I h) fun u s1 hh => ?_)
  obtain ⟨x, H1, I1, rx, ex, ec, dd, v, ed, ea, q⟩ := hh
  subst ex
  obtain rfl : u = Value.ref a := rx
  subst ec
  subst ed
  obtain ⟨ha, _⟩ := I1.pin (a, oe) (List.mem_append_left _ List.mem_cons_self)
  obtain ⟨vs, hd⟩ := hf
  have hx : ObjOk X.prog X.w H1 s1.heap dd (.xd [(("limit" : Str), v)]) := I1.hok dd _ ea
  obtain ⟨mA, hns, hr⟩ := hx
  obtain ⟨od, ho, hl⟩ := lookIn_ns hns
  have l : List.lookup ("limit" : Str) [(("limit" : Str), v)] = some v := by simp [List.lookup]
  obtain ⟨u, hu, ru⟩ := RelO.some_of (v := v) (o := mA "limit") (by rw [← l]; exact hr "limit")
  have J : PySem.W.InstAt s1.heap a oe C (some od) := ⟨ha, hz.1, by unfold PySem.W.notCls; rw [hd] <;> rfl, by rw [hz.2]; exact ho⟩
  exact HandSPX.exc_get I1.kIn J T.ga T.gg T.exC (PySem.W.findObj_own T.hdC T.noN rfl (by rw [hl, hu])) (handed_of ru) ⟨v, H1, I1.tok _, ru, q⟩
end
end L2
namespace Kr
open PySem PySem.Spec PyProof.Rows L2
section
variable {P : Program} {w : World} {K : PySem.W.Frag} {mg : Str → Option Value} {base : Heap}
theorem same_ins {H : Hp} {x dx : Addr} {C : Addr} (hx : H x = none) (hd : H dx = none) : Same H (upd (upd H dx (.own x)) x (.ins C dx [])) := fun b o e => by
  rw [upd_ne (ne_of_none e hx), upd_ne (ne_of_none e hd)]
  exact e
/-- a new object and an exception's dict beside it: what is known of the heap behind a raise -/
def spLength (CT : Addr) (n : Nat) : Sp := fun vs H Q E => ∃ (v : V) (p : List Tm), vs = [v] ∧ Dq H v (.tuple (p.map tmD)) ∧ PrOk lenR.okD 400 n p ∧ (progW lenM p ≤ lim → ∀ H', Same H H' → Q (.int ((progW lenM p : Nat) : Int)) H') ∧ (lim < progW lenM p → ∀ H' d, Same H H' → H' d = none → E (.ref CT) (some d) (upd H' d (.xd [(("limit" : Str), V.int (lim : Int))])))
theorem f_length {f : Addr} {fd : FuncData} {C CT fI : Addr} {km n : Nat} (F : Fun K "length" "length" sLength f fd) (M : MkP K C) (mC : mg "LengthMeasure" = some (.ref C)) (T : PySem.TooX.TooTxt K mg CT fI) (hM : ∃ t, mg "MAX_LENGTH" = some (.int (lim : Int) t))
    (pw : Ok P w K mg base (km + n + 1) "program_worth" ["program", "measure"] (spPW lenR C n)) : FnOk P w K mg base (L2.CX P w) (km + n + 2) f fd ["program"] (spLength CT n) := by
  obtain ⟨tM, gM⟩ := hM
  have sc : FnScope ["program", "many"] ["program"] (defScope sLength) := ⟨rfl, rfl, rfl, by decide +kernel, rfl, by decide +kernel, by decide +kernel⟩
  refine F.okX sc (fun vs H Q E h => ?_) (fun cdv A outer s H vs Q E hr h => ?_)
  · obtain ⟨_, _, rfl, _⟩ := h
    rfl
  · obtain ⟨v, p, rfl, hv, hp, q, qx⟩ := h
    refine ⟨_, pss_cons (ps_set (i := 1) sc.nd rfl (.inl rfl) (pe_fn pw hr (by rfl) (pa_cons (pv 0) (pa_cons (pe_makeP M (by rfl) mC) pa_nil))))
      (pss_cons (ps_if (pt_cmpR op_gt (pv 1) (pe_glob (v := .int (lim : Int)) (by rfl) gM ⟨_, rfl⟩) (nomark _)) (pss_one (ps_raiseToo rfl T hr (takes_of rfl rfl rfl rfl) (pa_cons (pe_glob (v := .int (lim : Int)) (by rfl) gM ⟨_, rfl⟩) pa_nil))) pss_nil)
      (pss_one (ps_ret (pv 1)))), ?_⟩
    refine ⟨v, rfl, fun x dx hx hd hne => ?_⟩
    have s1 := same_ins (C := C) hx hd
    refine ⟨v, .ref x, p, rfl, ⟨x, dx, [], rfl, upd_same, rfl⟩, hv.up s1, by decide, hp, fun H' r s2 h => ?_⟩
    have h2 : r = .int ((progW lenM p : Nat) : Int) := h
    subst h2
    have s12 := s1.trans s2
    dsimp only [tNext]
    refine ⟨_, rfl, _, _, rfl, rfl, _, rfl, ?_⟩
    by_cases hb : lim < progW lenM p
    · rw [decide_eq_true (show (lim : Int) < ((progW lenM p : Nat) : Int) by omega)]
      exact iteT ⟨_, rfl, fun d hd => qx hb H' d s12 hd⟩
    · rw [decide_eq_false (show ¬ (lim : Int) < ((progW lenM p : Nat) : Int) by omega)]
      exact iteF ⟨_, rfl, q (by omega) H' s12⟩
end
end Kr
namespace Kr
open PySem PySem.Spec PyProof.Rows L2
/-! ### two measures that keep a relation -/
/-- place by place -/
def RelL {α β : Type} (R : α → β → Prop) : List α → List β → Prop
  | [], [] => True
  | a :: as, b :: bs => R a b ∧ RelL R as bs
  | _, _ => False
section
variable {α β : Type} {R : α → β → Prop} {M : Mea α} {N : Mea β}
structure RelM (R : α → β → Prop) (D : Mv → Prop) (M : Mea α) (N : Mea β) : Prop where
  oD : ∀ d, D d → R (M.oD d) (N.oD d)
  oR : ∀ as bs, RelL R as bs → R (M.oR as) (N.oR bs)
  oB : ∀ a b, R a b → R (M.oB a) (N.oB b)
  oT : ∀ a b k, R a b → R (M.oT a k) (N.oT b k)
theorem RelL.snoc : ∀ {as : List α} {bs : List β} {a : α} {b : β}, RelL R as bs → R a b → RelL R (as ++ [a]) (bs ++ [b])
  | [], [], _, _, _, h => ⟨h, trivial⟩
  | x :: as, y :: bs, _, _, h, g => ⟨h.1, RelL.snoc (as := as) (bs := bs) h.2 g⟩
  | [], _ :: _, _, _, h, _ => h.elim
  | _ :: _, [], _, _, h, _ => h.elim
theorem RelL.getD : ∀ {as : List α} {bs : List β} {a : α} {b : β} (j : Nat), RelL R as bs → R a b → R (as.getD j a) (bs.getD j b)
  | [], [], _, _, _, _, h => h
  | x :: as, y :: bs, _, _, 0, h, _ => h.1
  | x :: as, y :: bs, _, _, j + 1, h, g => by
    simpa using RelL.getD (as := as) (bs := bs) j h.2 g
  | [], _ :: _, _, _, _, h, _ => h.elim
  | _ :: _, [], _, _, _, h, _ => h.elim
theorem RelL.lastD : ∀ {as : List α} {bs : List β} {a : α} {b : β}, RelL R as bs → R a b → R (as.getLastD a) (bs.getLastD b)
  | [], [], _, _, _, h => h
  | x :: as, y :: bs, a, b, h, _ => by
    rw [List.getLastD_cons, List.getLastD_cons]
    exact RelL.lastD (as := as) (bs := bs) h.2 h.1
  | [], _ :: _, _, _, h, _ => h.elim
  | _ :: _, [], _, _, h, _ => h.elim
mutual
theorem RelM.worth {D : Mv → Prop} {r k : Nat} (h : RelM R D M N) {ws : List α} {vs : List β} (hw : RelL R ws vs) : ∀ t : Tm, okTm D r k t → R (worth M ws t) (worth N vs t)
  | .doo d, o => by
    simp only [okTm] at o
    simp only [Kr.worth]
    exact h.oD d o
  | .part j, _ => by
    simp only [Kr.worth]
    exact hw.getD j (h.oR [] [] trivial)
  | .row ts, o => by
    simp only [okTm] at o
    simp only [Kr.worth]
    exact h.oR _ _ (RelM.worthL h hw ts o.2)
  | .back t, o => by
    simp only [okTm] at o
    simp only [Kr.worth]
    exact h.oB _ _ (RelM.worth h hw t o)
  | .times t n, o => by
    simp only [okTm] at o
    simp only [Kr.worth]
    exact h.oT _ _ n (RelM.worth h hw t o.2)
theorem RelM.worthL {D : Mv → Prop} {r k : Nat} (h : RelM R D M N) {ws : List α} {vs : List β} (hw : RelL R ws vs) : ∀ ts : List Tm, okTms D r k ts → RelL R (worthL M ws ts) (worthL N vs ts)
  | [], _ => by
    simp only [Kr.worthL]
    trivial
  | t :: ts, o => by
    simp only [okTms] at o
    simp only [Kr.worthL]
    exact ⟨RelM.worth h hw t o.1, RelM.worthL h hw ts o.2⟩
end
theorem RelM.wsAll {D : Mv → Prop} {r n : Nat} (h : RelM R D M N) {p : List Tm} (hp : PrOk D r n p) : ∀ i, i ≤ p.length → RelL R (wsAll M (p.take i) []) (wsAll N (p.take i) [])
  | 0, _ => trivial
  | i + 1, hi => by
    obtain ⟨t, ht⟩ : ∃ t, p[i]? = some t := ⟨_, List.getElem?_eq_getElem (by omega)⟩
    rw [wsAll_take _ ht, wsAll_take _ ht]
    have ih := RelM.wsAll h hp i (by omega)
    exact ih.snoc (h.worth ih t (hp.tm i t ht).1)
theorem RelM.progW {D : Mv → Prop} {r n : Nat} (h : RelM R D M N) {p : List Tm} (hp : PrOk D r n p) : R (progW M p) (progW N p) := by
  have e := RelM.wsAll h hp p.length (Nat.le_refl _)
  rw [List.take_length] at e
  exact e.lastD (h.oR [] [] trivial)
end
end Kr
namespace Kr
open PySem PySem.Spec PyProof.Rows L2
theorem min_sum {L : Nat} : ∀ {as bs : List Nat}, RelL (fun a b => a = min b L) as bs → min as.sum L = min bs.sum L
  | [], [], _ => rfl
  | a :: as, b :: bs, h => by
    have ih := min_sum (L := L) (as := as) (bs := bs) h.2
    have h1 : a = min b L := h.1
    rw [List.sum_cons, List.sum_cons]
    omega
  | [], _ :: _, h => h.elim
  | _ :: _, [], h => h.elim
theorem min_mul {L a b k : Nat} (h : a = min b L) : min (a * k) L = min (b * k) L := by
  cases k with
  | zero => simp
  | succ k =>
    rcases Nat.le_total b L with c | c
    · rw [h, Nat.min_eq_left c]
    · rw [h, Nat.min_eq_right c]
      have h1 : L ≤ L * (k + 1) := Nat.le_mul_of_pos_right _ (Nat.succ_pos _)
      have h2 : L * (k + 1) ≤ b * (k + 1) := Nat.mul_le_mul_right _ c
      omega
theorem rel_len : RelM (fun a b => a = min b (lim + 1)) (fun _ => True) lenM cntM := by
  have hL : 1 ≤ lim + 1 := Nat.succ_le_succ (Nat.zero_le _)
  unfold lenM cntM
  generalize lim + 1 = L at hL
  refine ⟨fun d _ => ?_, fun as bs h => ?_, fun a b h => h, fun a b k h => ?_⟩
  · show 1 = min 1 L
    omega
  · exact min_sum h
  · exact min_mul h
end Kr
namespace Kr
open PySem PySem.Spec PyProof.Rows L2
/-- two ways of an expression that meet again -/
theorem ifE_join {c : Prop} [Decidable c] {a b : TE} {σ τ : L2.St} {Ha Hb : Hp} {Q : VK} (R : V → Hp → Prop) (h : ∀ v G, R v G → Q v G) (hA : c → ∀ Q' : VK, (∀ v G, R v G → Q' v G) → a σ Ha Q') (hB : ¬ c → ∀ Q' : VK, (∀ v G, R v G → Q' v G) → b τ Hb Q') : if c then a σ Ha Q else b τ Hb Q :=
  ite2 (fun k => hA k Q h) fun k => hB k Q h
/-- two ways of a statement that meet again, none of which ends the def -/
theorem ifS_join {c : Prop} [Decidable c] {a b : L2.TS} {D : Ends} {σ τ : L2.St} {Ha Hb : Hp} (R : L2.St → Hp → Prop) (h : ∀ σ G, R σ G → D.nx σ G) (hA : c → ∀ D' : Ends, (∀ σ G, R σ G → D'.nx σ G) → a D' σ Ha) (hB : ¬ c → ∀ D' : Ends, (∀ σ G, R σ G → D'.nx σ G) → b D' τ Hb) : if c then a D σ Ha else b D τ Hb :=
  ite2 (fun k => hA k D h) fun k => hB k D h
end Kr
namespace Kr
open PySem PySem.Spec PyProof.Rows L2
/-! ### what repr shows of greater numbers -/
structure SmB (k w : Nat) (d : PyData) : Prop where
  sh : d.showable = true
  ls : d.leavesShort 400 = true
  dp : d.depth ≤ k
  wt : d.weight ≤ w
theorem smb_all {k w : Nat} : ∀ {ds : List PyData}, (∀ d ∈ ds, SmB k w d) → PyData.showableAll ds = true ∧ PyData.leavesShortAll 400 ds = true ∧ PyData.depthAll ds ≤ k ∧ PyData.weightAll ds ≤ (w + 1) * ds.length
  | [], _ => ⟨by simp [PyData.showableAll], by simp [PyData.leavesShortAll], by simp [PyData.depthAll], by simp [PyData.weightAll]⟩
  | d :: ds, h => by
    obtain ⟨h1, h2, h3, h4⟩ := smb_all fun x hx => h x (List.mem_cons_of_mem _ hx)
    have hd := h d List.mem_cons_self
    refine ⟨by simp [PyData.showableAll, hd.sh, h1], by simp [PyData.leavesShortAll, hd.ls, h2], ?_, ?_⟩
    · simp only [PyData.depthAll]
      have := hd.dp
      omega
    · simp only [PyData.weightAll, List.length_cons, Nat.mul_add]
      have := hd.wt
      omega
theorem SmB.lst {k w m : Nat} {ds : List PyData} (h : ∀ d ∈ ds, SmB k w d) (hm : ds.length ≤ m) : SmB (k + 1) ((w + 1) * m) (.list ds) := by
  obtain ⟨h1, h2, h3, h4⟩ := smb_all h
  refine ⟨by simpa [PyData.showable] using h1, by simpa [PyData.leavesShort] using h2, by simp only [PyData.depth]; omega, ?_⟩
  simp only [PyData.weight]
  exact Nat.le_trans h4 (Nat.mul_le_mul_left _ hm)
theorem SmB.tup {k w m : Nat} {ds : List PyData} (h : ∀ d ∈ ds, SmB k w d) (hm : ds.length ≤ m) : SmB (k + 1) ((w + 1) * m) (.tuple ds) := by
  obtain ⟨h1, h2, h3, h4⟩ := smb_all h
  refine ⟨by simpa [PyData.showable] using h1, by simpa [PyData.leavesShort] using h2, by simp only [PyData.depth]; omega, ?_⟩
  simp only [PyData.weight]
  exact Nat.le_trans h4 (Nat.mul_le_mul_left _ hm)
theorem SmB.mono {k w k' w' : Nat} {d : PyData} (h : SmB k w d) (hk : k ≤ k') (hw : w ≤ w') : SmB k' w' d := ⟨h.sh, h.ls, Nat.le_trans h.dp hk, Nat.le_trans h.wt hw⟩
theorem SmB.int {i : Int} (h : i.natAbs < 10 ^ 301) : SmB 1 1010 (.int i) := by
  have hl : (PyData.shown (.int i)).length ≤ 400 := by
    have e := int_text_length_le10 (k := 301) (by decide) h
    show (Str.ofString (toString i)).length ≤ 400
    rw [PySem.ofString_length]
    omega
  have hg : i.natAbs.log2 < 1009 := by
    by_cases h0 : i.natAbs = 0
    · rw [h0]
      decide
    · rw [Nat.log2_lt h0]
      exact Nat.lt_of_lt_of_le h (by decide +kernel)
  refine ⟨?_, by simpa [PyData.leavesShort] using hl, by simp [PyData.depth], ?_⟩
  · simp only [PyData.showable, decide_eq_true_eq]
    omega
  · simp only [PyData.weight]
    split <;> omega
theorem SmB.lit {i : Int} (h : i.natAbs < 32) : SmB 1 5 (.int i) := by
  have a := SmB.int (i := i) (Nat.lt_of_lt_of_le h (by decide +kernel))
  refine ⟨a.sh, a.ls, a.dp, ?_⟩
  simp only [PyData.weight]
  split
  · omega
  · rename_i h0
    have h1 : i.natAbs ≠ 0 := fun z => h0 (by simp; omega)
    have : i.natAbs.log2 < 5 := (Nat.log2_lt h1).mpr h
    omega
theorem SmB.bl (b : Bool) : SmB 1 5 (.bool b) := ⟨rfl, rfl, by simp [PyData.depth], by simp [PyData.weight]⟩
theorem SmB.str {x : Str} {m : Nat} (h : (x.cps.toList.all fun c => decide (c < 16 ^ 8)) = true) (hs : x.length ≤ m) : SmB 1 m (.str x) :=
  ⟨by simp [PyData.showable], by simpa [PyData.leavesShort] using h, by simp [PyData.depth], hs⟩
theorem SmB.fits {k w : Nat} {d : PyData} (h : SmB k w d) (hw : w ≤ 40000) : d.shown.length ≤ sizeLine := by
  have h1 := PyData.shown_le 400 (by decide) d h.ls
  have h2 := h.wt
  rw [sizeLine_eq]
  omega
theorem repr_xB {v : V} {d : PyData} {H : Hp} {Q : VK} {k w : Nat} (hd : Dq H v d) (h : SmB k w d) (hk : k ≤ 40) (hw : w ≤ 40000) (q : ∀ x, x = d.shown → Q (.str x) H) : rRepr [v] H Q := ⟨v, d, rfl, hd, h.sh, Nat.le_trans h.dp hk, h.fits hw, q _ rfl⟩
theorem repr_neB {v : V} {d : PyData} {H : Hp} {x : Str} {Q : Bool → Hp → Prop} {k w : Nat} (hx : x = d.shown) (hd : Dq H v d) (h : SmB k w d) (hk : k ≤ 40) (hw : w ≤ 40000) (q : Q false H) :
    rRepr [v] H fun y H4 => rNe (.str x) y H4 fun z H5 => ∃ k, z = .bl k ∧ Q k H5 := by
  refine repr_xB hd h hk hw fun y hy => ?_
  rw [← hy] at hx
  subst hx
  refine ⟨rfl, _, rfl, ?_⟩
  rw [decide_eq_true rfl]
  exact q
theorem repr_eqB {v : V} {d : PyData} {H : Hp} {x : Str} {Q : VK} {k w : Nat} (hx : x = d.shown) (hd : Dq H v d) (h : SmB k w d) (hk : k ≤ 40) (hw : w ≤ 40000) (q : Q (.bl true) H) :
    rRepr [v] H fun y H4 => rEq (.str x) y H4 fun z H5 => Q z H5 := by
  refine repr_xB hd h hk hw fun y hy => ?_
  rw [← hy] at hx
  subst hx
  refine ⟨rfl, ?_⟩
  rw [decide_eq_true rfl]
  exact q
theorem SmB.small {i : Int} (h : i.natAbs < 32) : SmB 1 5 (.int i) := SmB.lit h
theorem smb_ent {e : List Int} (hl : e.length ≤ 6) (h : ∀ x ∈ e, -1 ≤ x ∧ x < 24) : SmB 2 (6 * 6) (entD e) := SmB.tup (fun d hd => by
  obtain ⟨x, hx, rfl⟩ := List.mem_map.mp hd
  have := h x hx
  exact SmB.lit (by omega)) (by rw [List.length_map]; exact hl)
theorem smb_tab {n : Nat} (hn : n ≤ 6) {T : List (List Int)} (h : TabOk n T) : SmB 3 ((6 * 6 + 1) * 64) (tabD T) := by
  refine SmB.tup (k := 2) (w := 6 * 6) (fun d hd => ?_) (by rw [List.length_map, h.ents.len]; exact all_few n (by omega))
  obtain ⟨e, he, rfl⟩ := List.mem_map.mp hd
  obtain ⟨l, _, f⟩ := h.mem hn he
  exact smb_ent (by rw [f.len]; exact hn) fun x hx => by
    have := f.le x hx
    omega
end Kr
namespace Kr
open PySem PySem.Spec PyProof.Rows L2
/-- a def that may raise, where it doesn't -/
abbrev calmSp (sp : Sp) : Sp := fun vs H Q _ => sp vs H Q (fun _ _ _ => False)
theorem fn_calm {P : Program} {w : World} {K : PySem.W.Frag} {mg : Str → Option Value} {base : Heap} {k : Nat} {f : Addr} {fd : FuncData} {ps : List Str} {sp : Sp} (F : FnOk P w K mg base (L2.CX P w) k f fd ps sp) : FnOk P w K mg base CX0 k f fd ps (calmSp sp) :=
  ⟨fun vs H Q E h => F.len _ _ _ _ h, fun A outer s H args us vs Q E r e b v h => codeAny_mono (F.run A outer s H args us vs Q _ r e b v h) fun res s' hq => by
    cases res with
    | error e =>
      obtain ⟨_, _, _, _, _, _, _, _, _, _, _, _, z⟩ := hq
      exact z.elim
    | ok fl =>
      cases fl with
      | ret u => exact hq
      | next => exact hq.elim
      | brk => exact hq.elim
      | cont => exact hq.elim⟩
end Kr
namespace Kr
open PySem PySem.Spec PyProof.Rows L2
local macro_rules | `(tactic| walk_at "bq") => `(tactic| repeat' (first | with_reducible refine bqa_nil ?_ | with_reducible refine bqa_cons ?_ | with_reducible refine bq_tup1 ?_ | with_reducible refine bq_tup2 ?_ | with_reducible refine bq_tup3 ?_ | with_reducible refine bq_str ?_ | with_reducible refine bq_c ?_ | with_reducible refine bn_c ?_ | with_reducible refine bn_op ?_))
theorem ws_lastT {α : Type} (M : Mea α) {p : List Tm} (h : 0 < p.length) : (wsAll M p []).getD (p.length - 1) (M.oR []) = progW M p := by
  have hl : (wsAll M p []).length = p.length := by rw [wsAll_len]; show 0 + _ = _; omega
  unfold progW
  rw [List.getLastD_eq_getLast?, List.getLast?_eq_getElem?, hl, List.getD_eq_getElem?_getD, List.getElem?_eq_getElem (by omega)]
theorem progW_snocT {α : Type} (M : Mea α) (ps : List Tm) (t : Tm) : progW M (ps ++ [t]) = worth M (wsAll M ps []) t := by
  unfold progW
  rw [wsAll_app]
  show (wsAll M ps [] ++ [_]).getLastD _ = _
  rw [List.getLastD_eq_getLast?, List.getLast?_append]
  rfl
theorem PrOk.snocT {D : Mv → Prop} {r n : Nat} {p : List Tm} {t : Tm} (h : PrOk D r n p) (hl : p.length < 400) (o : okTm D r p.length t) (hd : dep t ≤ n) : PrOk D r n (p ++ [t]) := by
  refine ⟨by rw [List.length_append]; show 0 < p.length + 1; omega, by rw [List.length_append]; show p.length + 1 ≤ 400; omega, fun i u hu => ?_⟩
  rcases Nat.lt_trichotomy i p.length with c | c | c
  · rw [List.getElem?_append_left c] at hu
    exact h.tm i u hu
  · subst c
    rw [List.getElem?_append_right (Nat.le_refl _), Nat.sub_self] at hu
    cases Option.some.inj hu
    exact ⟨o, hd⟩
  · rw [List.getElem?_eq_none (by rw [List.length_append]; show _ + 1 ≤ _; omega)] at hu
    cases hu
/-- a term that does e times what part i does, of c times so many deeds -/
def IsE (i : Nat) (e : Int) (c : Nat) (x : PyData) : Prop := ∃ t, x = tmD t ∧ okTm (Deed 3) 400 (i + 1) t ∧ dep t ≤ 3 ∧ (∀ ws M o, TabOk 3 M → ws.getD i ((tabM 3).oR []) = powT 3 M o → worth (tabM 3) ws t = powT 3 M (o * e)) ∧ ∀ ws : List Nat, worth cntM ws t = ws.getD i 0 * c
theorem ie_row {i : Nat} : IsE i 1 1 (.tuple [.str "row", .tuple [.tuple [.str "part", .int (i : Int)]]]) := ⟨.row [.part i], by simp only [tmD, tmDs], by simp only [okTm, okTms]; exact ⟨by simp, by omega, trivial⟩, by simp only [dep, depL]; omega, fun ws M o h e => by
  simp only [worth, worthL]
  rw [e]
  show bothT 3 (stillT 3) (powT 3 M o) = _
  rw [still_both (by decide) (powT_ok (by decide) h o), Int.mul_one], fun ws => by
  simp only [worth, worthL]
  show List.sum [ws.getD i 0] = _
  simp⟩
theorem ie_back {i : Nat} : IsE i (-1) 1 (.tuple [.str "back", .tuple [.str "row", .tuple [.tuple [.str "part", .int (i : Int)]]]]) := ⟨.back (.row [.part i]), by simp only [tmD, tmDs], by simp only [okTm, okTms]; exact ⟨by simp, by omega, trivial⟩, by simp only [dep, depL]; omega, fun ws M o h e => by
  simp only [worth, worthL]
  rw [e]
  show turnT 3 (bothT 3 (stillT 3) (powT 3 M o)) = _
  rw [still_both (by decide) (powT_ok (by decide) h o), turn_powG (by decide) h, show o * -1 = -o by omega], fun ws => by
  simp only [worth, worthL]
  show List.sum [ws.getD i 0] = _
  simp⟩
theorem ie_two {i : Nat} : IsE i 2 2 (.tuple [.str "row", .tuple [.tuple [.str "part", .int (i : Int)], .tuple [.str "part", .int (i : Int)]]]) := ⟨.row [.part i, .part i], by simp only [tmD, tmDs], by simp only [okTm, okTms]; exact ⟨by simp, by omega, by omega, trivial⟩, by simp only [dep, depL]; omega, fun ws M o h e => by
  simp only [worth, worthL]
  rw [e]
  show bothT 3 (bothT 3 (stillT 3) (powT 3 M o)) (powT 3 M o) = _
  rw [still_both (by decide) (powT_ok (by decide) h o), powT_add (by decide) h, show o * 2 = o + o by omega], fun ws => by
  simp only [worth, worthL]
  show List.sum [ws.getD i 0, ws.getD i 0] = _
  simp only [List.sum_cons, List.sum_nil]
  omega⟩
theorem ie_times {i c : Nat} (hc : c ≤ 3) : IsE i (c : Int) c (.tuple [.str "times", .tuple [.str "part", .int (i : Int)], .int (c : Int)]) := ⟨.times (.part i) c, by simp only [tmD], by simp only [okTm]; exact ⟨Nat.le_trans hc (by decide +kernel), by omega⟩, by simp only [dep]; omega, fun ws M o h e => by
  simp only [worth]
  rw [e]
  show powT 3 (powT 3 M o) (c : Int) = _
  exact pow_powG (by decide) h o c, fun ws => by
  simp only [worth]
  rfl⟩
/-- the chain as it stands -/
structure ChT (ms : List Mv) (ts : List Tm) (o : Int) (mn : Nat) : Prop where
  pr : PrOk (Deed 3) 400 3 ts
  tab : progW (tabM 3) ts = powT 3 (madeT 3 ms) o
  cnt : progW cntM ts = mn
  ob : o.natAbs ≤ 3 ^ ts.length
  mb : mn ≤ 3 ^ ts.length
theorem ChT.next {ms : List Mv} {ts : List Tm} {o e : Int} {mn c : Nat} {x : PyData} (h : ChT ms ts o mn) (hms : ∀ m ∈ ms, Deed 3 m) (hl : ts.length < 400) (hx : IsE (ts.length - 1) e c x) (he : e.natAbs ≤ 3) (hc : c ≤ 3) : ∃ t, x = tmD t ∧ ChT ms (ts ++ [t]) (o * e) (mn * c) := by
  obtain ⟨t, rfl, h1, h2, h3, h4⟩ := hx
  have h0 := h.pr.ne
  refine ⟨t, rfl, h.pr.snocT hl (by rw [show ts.length = ts.length - 1 + 1 by omega]; exact h1) h2, ?_, ?_, ?_, ?_⟩
  · rw [progW_snocT]
    exact h3 _ _ _ (made_ok (by decide) hms) (by rw [ws_lastT _ h0]; exact h.tab)
  · rw [progW_snocT, h4, show (wsAll cntM ts []).getD (ts.length - 1) 0 = progW cntM ts from ws_lastT cntM h0, h.cnt]
  · rw [List.length_append, Int.natAbs_mul, List.length_singleton, Nat.pow_succ]
    exact Nat.mul_le_mul h.ob he
  · rw [List.length_append, List.length_singleton, Nat.pow_succ]
    exact Nat.mul_le_mul h.mb hc
theorem ChT.first {ms : List Mv} (hms : ∀ m ∈ ms, Deed 3 m) (hl : ms.length ≤ 3) : ChT ms [.row (ms.map .doo)] 1 ms.length := by
  refine ⟨⟨by simp, by simp, fun i t ht => ?_⟩, ?_, ?_, by show 1 ≤ 3 ^ 1; decide, by simpa using hl⟩
  · match i, ht with
    | 0, ht =>
      cases Option.some.inj ht
      refine ⟨?_, ?_⟩
      · simp only [okTm]
        exact ⟨by rw [List.length_map]; omega, okTms_of fun t ht => by
          obtain ⟨m, hm, rfl⟩ := List.mem_map.mp ht
          simp only [okTm]
          exact hms m hm⟩
      · simp only [dep]
        have := depL_of (m := 1) (ts := ms.map Tm.doo) fun t ht => by
          obtain ⟨m, hm, rfl⟩ := List.mem_map.mp ht
          simp only [dep]
          omega
        omega
    | _ + 1, ht => simp at ht
  · show worth (tabM 3) [] (.row (ms.map .doo)) = _
    rw [row_madeG (by decide) hms, powT_one (by decide) (made_ok (by decide) hms)]
  · show worth cntM [] (.row (ms.map .doo)) = _
    simp only [worth]
    rw [worthL_map, List.map_map]
    show (ms.map fun _ => 1).sum = _
    clear hms hl
    induction ms with
    | nil => rfl
    | cons m ms ih => rw [List.map_cons, List.sum_cons, ih, List.length_cons]; omega
theorem sq_par3T {te te2 te3 : TE} {u : L2.TS} {D : Ends} {σ : L2.St} {H : Hp} {i j k : Nat} (h : te σ H fun v H1 => te2 σ H1 fun v2 H2 => te3 σ H2 fun v3 H3 => ∃ a b c, [v, v2, v3] = [a, b, c] ∧ u D (((σ.set i (some a)).set j (some b)).set k (some c)) H3) : tSeq (tPar3 i j k (tCons te (tCons te2 (tCons te3 tNil)))) u D σ H := h
theorem sq_parT {te te2 : TE} {u : L2.TS} {D : Ends} {σ : L2.St} {H : Hp} {i j : Nat} (h : te σ H fun v H1 => te2 σ H1 fun v2 H2 => ∃ a b, [v, v2] = [a, b] ∧ u D ((σ.set i (some a)).set j (some b)) H2) : tSeq (tPar i j (tCons te (tCons te2 tNil))) u D σ H := h
theorem one_parT {te te2 : TE} {D : Ends} {σ : L2.St} {H : Hp} {i j : Nat} (h : te σ H fun v H1 => te2 σ H1 fun v2 H2 => ∃ a b, [v, v2] = [a, b] ∧ D.nx ((σ.set i (some a)).set j (some b)) H2) : tPar i j (tCons te (tCons te2 tNil)) D σ H := h
theorem one_ifT {c : TT} {t e : L2.TS} {D : Ends} {σ : L2.St} {H : Hp} (h : c σ H fun b H1 => if b = true then t D σ H1 else e D σ H1) : tIfS c t e D σ H := h
/-- how the loop of the chain stands -/
structure ChG (p l D : Addr) (us : List V) (ms : List Mv) (pg : Addr) (ts : List Tm) (o : Int) (mn : Nat) (G : Hp) : Prop where
  dk : Deck G p l
  ap : D ≠ p ∧ D ≠ l
  hD : G D = some (.lst us)
  qu : DqA G us (ms.map deedD)
  qp : Dq G (.ref pg) (.tuple (ts.map tmD))
  ch : ChT ms ts o mn
theorem deeds_flatG (ms : List Mv) : flatTA (ms.map deedD) = true := flatTA_of fun d hd => by
  obtain ⟨m, _, rfl⟩ := List.mem_map.mp hd
  exact deed_flat m
theorem prog_flatG (ts : List Tm) : flatT (.tuple (ts.map tmD)) = true := by
  have := tms_flat ts
  rw [tmDs_map] at this
  simpa [flatT] using this
theorem ChG.deck {p l D pg : Addr} {us : List V} {ms : List Mv} {ts : List Tm} {o : Int} {mn : Nat} {G G' : Hp} (h : ChG p l D us ms pg ts o mn G) (DK : Deck G' p l) (E : Ext p l G G') : ChG p l D us ms pg ts o mn G' := ⟨DK, h.ap, E.at_ h.ap.1 h.ap.2 h.hD, DqA.upT (TS.deck h.dk E) (deeds_flatG ms) h.qu, Dq.upT (TS.deck h.dk E) (prog_flatG ts) h.qp, h.ch⟩
theorem ChG.up {p l D pg : Addr} {us : List V} {ms : List Mv} {ts : List Tm} {o : Int} {mn : Nat} {G G' : Hp} (h : ChG p l D us ms pg ts o mn G) (s : Same G G') : ChG p l D us ms pg ts o mn G' := h.deck (h.dk.up s) (Ext.of s)
theorem bq_deedC {p l : Addr} {σ : L2.St} {H : Hp} {i : Nat} (hp : σ[i]? = some (some (.ref p))) : Bq (frD p l) (tCall spDeed [] E0 (tCons (tVar i) (tCons (tC (.int 3)) tNil))) σ H (fun d => ∃ m, d = deedD m ∧ Deed 3 m) := fun G a b Q q =>
  ⟨_, hp, p, l, 3, rfl, a, by decide, by decide, fun G1 v d D1 E1 qv hd => q G1 v _ D1 E1 (deed_dq qv) (deed_flat d) ⟨d, rfl, hd⟩⟩
section
variable {P : Program} {w : World} {K : PySem.W.Frag} {mg : Str → Option Value} {base : Heap}
variable {CT : Addr}
abbrev n_lChainT : List Str := ["box", "moves", "turn", "program", "often", "many", "deed", "is_doubled", "at", "own", "way", "term", "times", "due", "told"]
theorem sc_lChainT : FnScope n_lChainT ["box"] (defScope sLIsChained) := ⟨rfl, rfl, rfl, by decide +kernel, rfl, by decide +kernel, by decide +kernel⟩
theorem o_lChainT (D0 : Df K mg "_law_is_chained" sLIsChained ["box"]) (B : Bi mg) (dr : Ok P w K mg base 1 "_law_draw" ["box", "many"] spDraw) (dd : Ok P w K mg base 3 "_law_deed" ["box", "n"] spDeed) (pk : Ok P w K mg base 2 "_law_pick" ["box", "items"] spPick) (md : Ok P w K mg base 2 "_law_made" ["n", "moves"] spMade) (of : Ok P w K mg base 4 "_law_often" ["n", "table", "many"] spPower) (to : OkN P w K mg base 15 "table_of" ["n", "program"] ["program", "n"] (spTableOf 5)) (ln : Ok P w K mg base 8 "length" ["program"] (calmSp (spLength CT 5))) : OkG P w K mg base 40 "_law_is_chained" ["box"] spGreat := by
  refine D0.okG fun f fd F => okG F sc_lChainT (fun vs H Q E h => ?_) (fun cdv A outer s H vs Q E hg hr h => ?_)
  · obtain ⟨_, _, rfl, _⟩ := h
    rfl
  · obtain ⟨p, l, rfl, Dk, q⟩ := h
    have hr_dr := hr.mono (show 1 ≤ 39 by omega)
    have hr_dd := hr.mono (show 3 ≤ 39 by omega)
    have hr_pk := hr.mono (show 2 ≤ 39 by omega)
    have hr_md := hr.mono (show 2 ≤ 39 by omega)
    have hr_of := hr.mono (show 4 ≤ 39 by omega)
    have hr_to := hr.mono (show 15 ≤ 39 by omega)
    have hr_ln := hr.mono (show 8 ≤ 39 by omega)
    have hu : (cxOf CX0 P w K mg base n_lChainT "_law_is_chained" (defScope sLIsChained) f cdv A outer s H E).A.units + 64 < cLine := hr.units
    have hu1 := hu_of hr
    have cr := call_repr (X := (cxOf CX0 P w K mg base n_lChainT "_law_is_chained" (defScope sLIsChained) f cdv A outer s H E).nox) hg hr.units
    refine ⟨_, pss_cons (ps_setLc (i := 1) (own := [("turn", 2)]) (g := gName 2) (tt := tYes) rfl sc_lChainT.nd rfl rfl (sw_true rfl rfl rfl (by decide +kernel)) (pi_range1 (by rfl) B.range (pa_cons (pe_op op_add pe_int (pe_fn dr hr_dr (by rfl) (pa_cons (pv 0) (pa_cons pe_int pa_nil)))) pa_nil)) (blkOk_by (own := [("turn", 2)]) (N := n_lChainT) (sc := defScope sLIsChained) (by decide +kernel)) (fun _ _ _ _ _ => pg_name (i := 2) sc_lChainT.nd rfl (.inl rfl)) (fun _ _ _ _ _ => pts_nil) (fun _ _ _ _ _ => (pe_fn dd hr_dd (by rfl) (pa_cons (pv 0) (pa_cons pe_int pa_nil)))))
      (pss_cons (ps_par3 (i := 3) (j := 4) (l := 5) rfl sc_lChainT.nd rfl rfl rfl (by decide) (by decide) (by decide) rfl rfl rfl (pa_cons (pe_tup (pa_cons (pe_tup (pa_cons pe_str (pa_cons (pe_callTy call_tuple_of (by rfl) B.tuple (by decide +kernel) (pa_cons (pe_lc (own := [("deed", 6)]) (g := gName 6) (tt := tYes) rfl sc_lChainT.nd (pi_list (pv 1)) (blkOk_by (own := [("deed", 6)]) (N := n_lChainT) (sc := defScope sLIsChained) (by decide +kernel)) (fun _ _ _ _ _ => pg_name (i := 6) sc_lChainT.nd rfl (.inl rfl)) (fun _ _ _ _ _ => pts_nil) (fun _ _ _ _ _ => (pe_tup (pa_cons pe_str (pa_cons (pv 6) pa_nil))))) pa_nil)) pa_nil))) pa_nil)) (pa_cons pe_int (pa_cons (pe_callB call_len_seq (by rfl) B.len boot_len (pa_cons (pv 1) pa_nil)) pa_nil))) (by rfl))
      (pss_cons (ps_set (i := 7) sc_lChainT.nd rfl (.inl rfl) (pe_cmpR op_eq (pe_fn dr hr_dr (by rfl) (pa_cons (pv 0) (pa_cons pe_int pa_nil))) pe_int (nomark _)))
      (pss_cons (ps_for PassesOwn.never rfl (pi_range1 (by rfl) B.range (pa_cons (pe_ifExp (pt_val (pv 7)) (pe_op op_add pe_int (pe_fn dr hr_dr (by rfl) (pa_cons (pv 0) (pa_cons pe_int pa_nil)))) (pe_op op_add pe_int (pe_fn dr hr_dr (by rfl) (pa_cons (pv 0) (pa_cons pe_int pa_nil))))) pa_nil)) (pg_name (i := 8) sc_lChainT.nd rfl (.inl rfl))
        (pss_cons (ps_par (i := 9) (j := 10) rfl sc_lChainT.nd rfl rfl (by decide) rfl rfl (pa_cons (pe_tup (pa_cons pe_str (pa_cons (pv 8) pa_nil))) (pa_cons (pe_ifExp (pt_val (pv 7)) pe_int (pe_fn dr hr_dr (by rfl) (pa_cons (pv 0) (pa_cons pe_int pa_nil)))) pa_nil)) (by rfl))
        (pss_cons (ps_if (pt_cmpR op_eq (pv 10) pe_int (nomark _)) (pss_one (ps_set (i := 11) sc_lChainT.nd rfl (.inl rfl) (pe_tup (pa_cons pe_str (pa_cons (pe_tup (pa_cons (pv 9) pa_nil)) pa_nil))))) (pss_one (ps_if (pt_cmpR op_eq (pv 10) pe_int (nomark _)) (pss_one (ps_par (i := 11) (j := 4) rfl sc_lChainT.nd rfl rfl (by decide) rfl rfl (pa_cons (pe_tup (pa_cons pe_str (pa_cons (pe_tup (pa_cons pe_str (pa_cons (pe_tup (pa_cons (pv 9) pa_nil)) pa_nil))) pa_nil))) (pa_cons (pe_un un_neg (pv 4)) pa_nil)) (by rfl))) (pss_cons (ps_set (i := 12) sc_lChainT.nd rfl (.inl rfl) (pe_ifExp (pt_cmpR op_eq (pv 10) pe_int (nomark _)) pe_int (pe_fn pk hr_pk (by rfl) (pa_cons (pv 0) (pa_cons (pe_lst (pa_cons pe_int (pa_cons pe_int (pa_cons pe_int pa_nil)))) pa_nil)))))
            (pss_cons (ps_set (i := 11) sc_lChainT.nd rfl (.inl rfl) (pe_ifExp (pt_cmpR op_eq (pv 10) pe_int (nomark _)) (pe_tup (pa_cons pe_str (pa_cons (pe_tup (pa_cons (pv 9) (pa_cons (pv 9) pa_nil))) pa_nil))) (pe_tup (pa_cons pe_str (pa_cons (pv 9) (pa_cons (pv 12) pa_nil))))))
            (pss_one (ps_par (i := 4) (j := 5) rfl sc_lChainT.nd rfl rfl (by decide) rfl rfl (pa_cons (pe_op op_mulW (pv 4) (pv 12)) (pa_cons (pe_op op_mulW (pv 5) (pv 12)) pa_nil)) (by rfl))))))))
        (pss_one (ps_set (i := 3) sc_lChainT.nd rfl (.inl rfl) (pe_op op_catA (pv 3) (pe_tup (pa_cons (pv 11) pa_nil))))))))
      (pss_cons (ps_set (i := 13) sc_lChainT.nd rfl (.inl rfl) (pe_fn of hr_of (by rfl) (pa_cons pe_int (pa_cons (pe_fn md hr_md (by rfl) (pa_cons pe_int (pa_cons (pv 1) pa_nil))) (pa_cons (pv 4) pa_nil)))))
      (pss_cons (ps_set (i := 14) sc_lChainT.nd rfl (.inl rfl) (pe_ifExp (pt_val (pv 7)) (pe_fnN to hr_to (by rfl) (pk_cons (pv 3) (pk_cons pe_int pk_nil))) (pe_fn to.ok hr_to (by rfl) (pa_cons pe_int (pa_cons (pv 3) pa_nil)))))
      (pss_one (ps_ret (pe_cmpR op_eq (pe_callB cr (by rfl) B.repr (by decide +kernel) (pa_cons (pe_lst (pa_cons (pv 14) (pa_cons (pe_fn ln hr_ln (by rfl) (pa_cons (pv 3) pa_nil)) pa_nil))) pa_nil)) (pe_callB cr (by rfl) B.repr (by decide +kernel) (pa_cons (pe_lst (pa_cons (pv 13) (pa_cons (pv 5) pa_nil))) pa_nil)) (nomark _))))))))), ?_⟩
    refine sq_asg ⟨.ref p, rfl, p, l, 2, rfl, Dk, by decide, by decide, fun G2 r D2 E2 r0 r1 => ?_⟩
    refine ⟨_, _, rfl, rfl, 2 + r, rfl, by omega, by omega, fun D nD => bq_lcR nD (p := p) (l := l) (σ := [some (.ref p), none, none, none, none, none, none, none, none, none, none, none, none, none, none]) (vs := [2]) (g := 2) (m := (2 + r).toNat) (R := fun d => ∃ m, d = deedD m ∧ Deed 3 m) (by omega) D2 (fun _ => rfl) (fun k hk => bq_deedC rfl) fun G3 us ds D3 E3 nDp nDl hD qu hl fu hds => ?_⟩
    obtain ⟨ms, rfl, hms⟩ := deeds_ofG hds
    have D3 : Deck G3 p l := D3
    have hml : ms.length ≤ 3 := by rw [List.length_map] at hl; omega
    have hul : us.length = ms.length := by rw [qu.len, List.length_map]
    clear D2 E2 E3 hl hds
    dsimp only
    refine sq_par3T ⟨.ref D, rfl, D, rfl, ⟨us, SqL.of hD⟩, fun A nA => ?_⟩
    refine lc_it (walk_list (K := K) (a := D) (xs := us)) (fun i G => ∃ rs : List V, G A = some (.lst rs) ∧ Same G3 G ∧ DqA G rs (((ms.take i).map Tm.doo).map tmD) ∧ rs.length = i) ⟨[], upd_same, same_new nA, .nil, rfl⟩ (fun _ _ _ ⟨_, _, sm, _⟩ => SqL.of (sm _ _ hD)) ?_ ?_
    · rintro i x _ G hi ⟨rs, hA, sm, qr, hrl⟩ ⟨rfl, hx⟩
      obtain ⟨d0, hd0, qd⟩ := qu.get hx
      rw [List.getElem?_map] at hd0
      obtain ⟨m, hm, rfl⟩ := Option.map_eq_some_iff.mp hd0
      refine ⟨rfl, ?_⟩
      dsimp only [tYes]
      rw [if_pos rfl]
      refine ⟨x, rfl, by show 2 ≤ sizeLine; decide, fun a na => ?_⟩
      have sa := same_new (o := .tup [.str "do", x]) na
      have hA2 := sa _ _ hA
      have qx : Dq (upd G a (.tup [.str "do", x])) (.ref a) (tmD (.doo m)) := by
        simp only [tmD]
        exact .tup upd_same (.cons (.str _) (.cons ((qd.up sm).up sa) .nil))
      have qr2 := qr.up sa
      have sm2 := sm.trans sa
      generalize upd G a (.tup [.str "do", x]) = G7 at hA2 qx qr2 sm2
      have tA : TS G7 (upd G7 A (.lst (rs ++ [.ref a]))) := TS.lst hA2
      have fl : flatTA (((ms.take i).map Tm.doo).map tmD) = true := by
        have := tms_flat ((ms.take i).map Tm.doo)
        rwa [tmDs_map] at this
      refine ⟨rs, hA2, szm (by omega), rs ++ [.ref a], upd_same, fun e o he => ?_, ?_, by rw [List.length_append, hrl]; rfl⟩
      · rw [upd_ne (ne_of_none he nA)]
        exact sm2 _ _ he
      · rw [List.take_add_one, hm, List.map_append, List.map_append]
        exact dqa_snoc (DqA.upT tA fl qr2) (Dq.upT tA (tm_flat _) qx)
    rintro G6 ⟨rs, hA, sm6, qr, hrl⟩
    rw [hul, List.take_length] at qr
    refine ⟨A, rs, rfl, .inl ⟨SqL.of hA, fun t1 n1 => ⟨by show 2 ≤ sizeLine; decide, fun t2 n2 => ⟨by show 1 ≤ sizeLine; decide, fun t3 n3 => ?_⟩⟩⟩⟩
    have u1 := same_new (o := .tup rs) n1
    have u2 := same_new (o := .tup [.str "row", .ref t1]) n2
    have u3 := same_new (o := .tup [.ref t2]) n3
    have qp1 : Dq (upd (upd (upd G6 t1 (.tup rs)) t2 (.tup [.str "row", .ref t1])) t3 (.tup [.ref t2])) (.ref t3) (.tuple ([Tm.row (ms.map .doo)].map tmD)) := by
      refine .tup upd_same (.cons ?_ .nil)
      simp only [tmD]
      rw [tmDs_map]
      exact .tup (u3 _ _ upd_same) (.cons (.str _) (.cons (.tup ((u2.trans u3) _ _ upd_same) (qr.up (u1.trans (u2.trans u3)))) .nil))
    have s7 := sm6.trans (u1.trans (u2.trans u3))
    generalize upd (upd (upd G6 t1 (.tup rs)) t2 (.tup [.str "row", .ref t1])) t3 (.tup [.ref t2]) = G7 at qp1 s7
    clear u1 u2 u3 n1 n2 n3 hA qr nA sm6
    have C7 : ChG p l D us ms t3 [.row (ms.map .doo)] 1 ms.length G7 := ⟨D3.up s7, ⟨nDp, nDl⟩, s7 _ _ hD, qu.up s7, qp1, .first hms hml⟩
    clear D3 hD qu qp1 s7 nD
    refine ⟨.ref D, rfl, D, us, rfl, .inl (SqL.of C7.hD), _, _, _, rfl, ?_⟩
    refine sq_asg ⟨.ref p, rfl, p, l, 2, rfl, C7.dk, by decide, by decide, fun G8 r D8 E8 r0 r1 => ⟨rfl, ?_⟩⟩
    have C8 := C7.deck D8 E8
    clear C7 D8 E8
    generalize decide (V.int r = V.int 0) = b
    refine sq_rng (bn_at (F := frD p l) (H := G8) (N := fun x => ∃ k : Nat, x = (k : Int) ∧ k ≤ 399) (bn_ifbG rfl (fun hb => bn_op (bn_c (bn_draw rfl (bn_c ⟨by decide, by decide, fun r h0 h1 => ⟨(40 + r).toNat, by omega, by omega⟩⟩)))) (fun hb => bn_op (bn_c (bn_draw rfl (bn_c ⟨by decide, by decide, fun r h0 h1 => ⟨(300 + r).toNat, by omega, by omega⟩⟩))))) C8.dk fun G9 z D9 E9 hz => ?_)
    obtain ⟨tn, rfl, htn⟩ := hz
    have C9 := C8.deck D9 E9
    clear C8 D9 E9
    rw [hul]
    refine ⟨_, rfl, by omega, by omega, for_it (walk_rg (n := tn)) (fun i σ G => ∃ (pg : Addr) (ts : List Tm) (o : Int) (mn : Nat) (v8 v9 v10 v11 v12 : Option V), σ = [some (.ref p), some (.ref D), none, some (.ref pg), some (.int o), some (.int (mn : Int)), none, some (.bl b), v8, v9, v10, v11, v12, none, none] ∧ ChG p l D us ms pg ts o mn G ∧ ts.length = i + 1) ⟨_, _, _, _, _, _, _, _, _, rfl, C9, rfl⟩ (fun _ _ _ _ _ => trivial) ?_ ?_⟩
    · rintro i x σ _ G hi ⟨pg, ts, o, mn, v8, v9, v10, v11, v12, rfl, C, htl⟩ ⟨rfl, rfl⟩
      refine sq_parT (bq_at (F := frD p l) (H := G) (R := fun d => d = .tuple [.str "part", .int (i : Int)]) ?_ C.dk fun G1 ov d D1 E1 qo fo ho => ?_)
      · walk_at "bq"
        refine bq_ivar rfl ?_
        walk_at "bq"
        rfl
      subst ho
      have C1 := C.deck D1 E1
      clear C D1 E1
      refine bn_at (F := frD p l) (H := G1) (N := fun w => 0 ≤ w ∧ w ≤ 3) (bn_ifbG rfl (fun hb => bn_c ⟨by decide, by decide⟩) (fun hb => bn_draw rfl (bn_c ⟨by decide, by decide, fun r h0 h1 => ⟨h0, by omega⟩⟩))) C1.dk fun G2 w D2 E2 hw => ⟨_, _, rfl, ?_⟩
      have C2 := C1.deck D2 E2
      have qo2 := Dq.upT (TS.deck C1.dk E2) fo qo
      clear C1 D2 E2 qo
      refine sq_if ?_
      refine ⟨_, rfl, rfl, _, rfl, ?_⟩
      refine ifS_join (R := fun σ G => ∃ (v11 : V) (v12 : Option V) (e : Int) (c : Nat) (x : PyData), σ = [some (.ref p), some (.ref D), none, some (.ref pg), some (.int (o * e)), some (.int ((mn * c : Nat) : Int)), none, some (.bl b), some (.int (i : Int)), some ov, some (.int w), some v11, v12, none, none] ∧ ChG p l D us ms pg ts o mn G ∧ Dq G v11 x ∧ IsE i e c x ∧ e.natAbs ≤ 3 ∧ c ≤ 3) ?_ (fun c0 D' kD => ?_) (fun c0 D' kD => ?_)
      rotate_left
      · refine one_asg (bq_at (F := frD p l) (H := G2) (R := IsE i 1 1) ?_ C2.dk fun G3 v x D3 E3 q3 f3 h3 => kD _ _ ⟨v, _, 1, 1, x, by rw [Int.mul_one, Nat.mul_one]; rfl, C2.deck D3 E3, q3, h3, by decide, by decide⟩)
        walk_at "bq"
        refine bq_var C2.dk rfl qo2 fo ?_
        walk_at "bq"
        exact ie_row
      · refine one_ifT ?_
        refine ⟨_, rfl, rfl, _, rfl, ite2 (fun c1 => ?_) (fun c1 => ?_)⟩
        · refine one_parT (bq_at (F := frD p l) (H := G2) (R := IsE i (-1) 1) ?_ C2.dk fun G3 v x D3 E3 q3 f3 h3 => ⟨_, rfl, o, rfl, _, _, rfl, kD _ _ ⟨v, _, -1, 1, x, by rw [Nat.mul_one, show o * -1 = -o by omega]; rfl, C2.deck D3 E3, q3, h3, by decide, by decide⟩⟩)
          walk_at "bq"
          refine bq_var C2.dk rfl qo2 fo ?_
          walk_at "bq"
          exact ie_back
        · refine sq_asg (val_joinG (R := fun v G => ∃ c : Nat, v = .int (c : Int) ∧ c ≤ 3 ∧ (w = 3 → c = 2) ∧ ChG p l D us ms pg ts o mn G ∧ Dq G ov (.tuple [.str "part", .int (i : Int)])) (fun v G3 ⟨c, e, hc, hc2, C3, qo3⟩ => ?_) fun Q' k => ?_)
          rotate_left
          · refine if_eqcG ⟨_, rfl, rfl, _, rfl, ite2 (fun c3 => k _ _ ⟨2, rfl, by decide, fun _ => rfl, C2, qo2⟩) (fun c3 => ?_)⟩
            have w3 : w ≠ 3 := fun z => c3 (decide_eq_true (by rw [z]))
            refine bn_at (F := frD p l) (H := G2) (N := fun x => ∃ c : Nat, x = (c : Int) ∧ c ≤ 3) (bn_pick (m := 2) rfl ?_) C2.dk fun G3 x D3 E3 ⟨c, e, hc⟩ => k _ _ ⟨c, by rw [e], hc, fun z => absurd z w3, C2.deck D3 E3, Dq.upT (TS.deck C2.dk E3) fo qo2⟩
            walk_at "bq"
            intro x hx
            simp only [List.mem_cons, List.not_mem_nil, or_false] at hx
            rcases hx with rfl | rfl | rfl
            · exact ⟨_, rfl, 1, rfl, by decide⟩
            · exact ⟨_, rfl, 1, rfl, by decide⟩
            · exact ⟨_, rfl, 3, rfl, by decide⟩
          subst e
          clear C2 qo2
          refine sq_asg (val_joinG (R := fun v G => ∃ x, ChG p l D us ms pg ts o mn G ∧ Dq G v x ∧ IsE i (c : Int) c x) (fun v G4 ⟨x, C4, q4, h4⟩ => ?_) fun Q' k => ?_)
          rotate_left
          · refine if_eqcG ⟨_, rfl, rfl, _, rfl, ite2 (fun c3 => ?_) (fun c3 => ?_)⟩
            · have e2 := hc2 (V.int.inj (of_decide_eq_true c3))
              subst e2
              refine bq_at (F := frD p l) (H := G3) (R := IsE i 2 2) ?_ C3.dk fun G4 v x D4 E4 q4 f4 h4 => k _ _ ⟨x, C3.deck D4 E4, q4, h4⟩
              walk_at "bq"
              refine bq_var C3.dk rfl qo3 fo ?_
              walk_at "bq"
              refine bq_var C3.dk rfl qo3 fo ?_
              walk_at "bq"
              exact ie_two
            · refine bq_at (F := frD p l) (H := G3) (R := IsE i (c : Int) c) ?_ C3.dk fun G4 v x D4 E4 q4 f4 h4 => k _ _ ⟨x, C3.deck D4 E4, q4, h4⟩
              walk_at "bq"
              refine bq_var C3.dk rfl qo3 fo ?_
              walk_at "bq"
              refine bq_ivar rfl ?_
              walk_at "bq"
              exact ie_times hc
          have ho := Nat.lt_of_le_of_lt (Nat.le_trans C4.ch.ob (Nat.pow_le_pow_right (by decide) (show ts.length ≤ 400 by omega))) (show 3 ^ 400 < 2 ^ 640 by decide +kernel)
          have hm := Nat.lt_of_le_of_lt (Nat.le_trans C4.ch.mb (Nat.pow_le_pow_right (by decide) (show ts.length ≤ 400 by omega))) (show 3 ^ 400 < 2 ^ 640 by decide +kernel)
          have hc8 : ((c : Nat) : Int).natAbs < 2 ^ 8 := by rw [Int.natAbs_natCast]; exact Nat.lt_of_le_of_lt hc (by decide)
          refine one_parT ⟨_, rfl, _, rfl, _, _, rfl, rfl, wide_mul (a := 640) (b := 8) ho hc8 (by decide) (by decide) (by decide), _, rfl, _, rfl, _, _, rfl, rfl, wide_mul (a := 640) (b := 8) (by rw [Int.natAbs_natCast]; exact hm) hc8 (by decide) (by decide) (by decide), _, _, rfl, kD _ _ ⟨v, _, (c : Int), c, x, by rw [Int.natCast_mul]; rfl, C4, q4, h4, by rw [Int.natAbs_natCast]; exact hc, hc⟩⟩
      clear C2 qo2
      rintro σ G3 ⟨v11, v12, e, c, x, rfl, C3, q3, h3, he, hc⟩
      have h3' : IsE (ts.length - 1) e c x := by rw [htl]; exact h3
      obtain ⟨t, rfl, Cn⟩ := C3.ch.next hms (by omega) h3' he hc
      dsimp only
      obtain ⟨pa, ys, epa, hpa, qpa⟩ := C3.qp.tup_inv
      cases epa
      have hyl := qpa.len
      rw [List.length_map] at hyl
      refine one_asg ⟨.ref pg, rfl, v11, rfl, by show 1 ≤ sizeLine; decide, fun t1 n1 => ?_⟩
      have s1 := same_new (o := .tup [v11]) n1
      refine catA_k (s1 _ _ hpa) upd_same (by rw [hyl]; show ts.length + 1 ≤ 100000; omega) fun z G4 s2 hz => ?_
      have s12 := s1.trans s2
      have C4 := C3.up s12
      refine ⟨z, ts ++ [t], o * e, mn * c, _, _, _, _, _, rfl, ⟨C4.dk, C4.ap, C4.hD, C4.qu, .tup hz ?_, Cn⟩, by rw [List.length_append, htl]; rfl⟩
      rw [List.map_append]
      exact (qpa.up s12).app (.cons (q3.up s12) .nil)
    · rintro σ G ⟨pg, ts, o, mn, v8, v9, v10, v11, v12, rfl, C, htl⟩
      have pr5 : PrOk (Deed 3) 400 5 ts := ⟨C.ch.pr.ne, C.ch.pr.len, fun i t ht => ⟨(C.ch.pr.tm i t ht).1, Nat.le_trans (C.ch.pr.tm i t ht).2 (by decide)⟩⟩
      have prT : PrOk (fun _ => True) 400 5 ts := ⟨C.ch.pr.ne, C.ch.pr.len, fun i t ht => ⟨okTm_mono (fun _ _ => trivial) (Nat.le_refl _) (Nat.le_refl _) t (C.ch.pr.tm i t ht).1, Nat.le_trans (C.ch.pr.tm i t ht).2 (by decide)⟩⟩
      have hm := Nat.le_trans C.ch.mb (Nat.pow_le_pow_right (show 0 < 3 by decide) (show ts.length ≤ 400 by omega))
      have hml2 : mn ≤ lim := Nat.le_trans hm (by unfold lim; decide +kernel)
      have hlen : progW lenM ts = mn := by
        have := rel_len.progW prT
        rw [C.ch.cnt] at this
        rw [this]
        omega
      have okP := powT_ok (by decide) (made_ok (by decide) hms) o
      dsimp only
      refine sq_asg ⟨.ref D, rfl, 3, D, us, ms, rfl, by decide, by decide, C.hD, hul, fun j v m hv hm => ?_, fun m hm => ?_, fun GA tv sA qt => ?_⟩
      · obtain ⟨d, hd, qd⟩ := C.qu.get hv
        rw [List.getElem?_map, hm] at hd
        cases Option.some.inj hd
        exact deed_inv qd
      · have d := hms m hm
        have h1 := d.ab
        have h2 := d.bn
        have h3 := d.asc.len
        exact ⟨⟨by omega, h2⟩, by omega, fun x hx => by have := (d.asc.2 x hx).2; omega⟩
      refine ⟨.int o, rfl, 3, tv, _, o, rfl, by decide, qt, made_ok (by decide) hms, fun GC dv sC qd => ?_⟩
      have CC := C.up (sA.trans sC)
      refine sq_asg (val_joinG (R := fun v G => Same GC G ∧ Dq G v (tabD (progW (tabM 3) ts))) (fun tl GE ⟨sE, qE⟩ => ?_) fun Q' k => ?_)
      rotate_left
      · refine ⟨.bl b, rfl, b, rfl, ?_⟩
        cases b with
        | true => exact iteT ⟨.ref pg, rfl, rfl, .ref pg, ts, 3, rfl, by decide, CC.qp, pr5, fun GE r sE hr => k _ _ ⟨sE, hr⟩⟩
        | false => exact iteF ⟨.ref pg, rfl, .ref pg, ts, 3, rfl, by decide, CC.qp, pr5, fun GE r sE hr => k _ _ ⟨sE, hr⟩⟩
      rw [C.ch.tab] at qE
      have smT : SmB 4 ((2368 + 1) * 2) (.list [tabD (powT 3 (madeT 3 ms) o), .int (mn : Int)]) := SmB.lst (fun d hd => by
        simp only [List.mem_cons, List.not_mem_nil, or_false] at hd
        rcases hd with rfl | rfl
        · exact (smb_tab (by decide) okP).mono (by decide) (by decide)
        · exact (SmB.int (by rw [Int.natAbs_natCast]; exact Nat.lt_of_le_of_lt hm (by decide +kernel))).mono (by decide) (by decide)) (Nat.le_refl _)
      refine ret_eq_repr ⟨tl, rfl, .ref pg, rfl, .ref pg, ts, rfl, CC.qp.up sE, prT, fun hle GF sF => ?_, fun hlt => absurd hlt (by rw [hlen]; omega)⟩
      rw [hlen]
      refine ⟨by show 2 ≤ sizeLine; decide, fun a na => ?_⟩
      have sa := same_new (o := .lst [tl, .int (mn : Int)]) na
      dsimp only [tNil]
      refine repr_xB (.lst upd_same (.cons (qE.up (sF.trans sa)) (.cons (.int _) .nil))) smT (by decide) (by decide) fun kx hkx => ⟨dv, rfl, .int (mn : Int), rfl, by show 2 ≤ sizeLine; decide, fun c nc => ?_⟩
      have sc := same_new (o := .lst [dv, .int (mn : Int)]) nc
      exact repr_eqB hkx (.lst upd_same (.cons (qd.up (sE.trans (sF.trans (sa.trans sc)))) (.cons (.int _) .nil))) smT (by decide) (by decide) (q _)
end
end Kr
namespace Kr
open PySem PySem.Spec PyProof.Rows L2
section
variable {prog : Program} {w : World} {A : Around} {E : Value → Shared → Prop} {s : Shared}
/-- the heap behind a collecting -/
def gathered (h : Heap) (vs : List Value) : Heap := (h.push (seqObj "list" #[] 0)).update h.objs.size (Obj.mapSeq (· ++ vs.toArray))
theorem collect_tup {t : Addr} {vs : List Value} {Q : List Value → Shared → Prop} (hl : IsTup s.heap t vs.toArray) (h : Q vs { s with heap := gathered s.heap vs }) (hsz : vs.length ≤ sizeLine) : wpAny (model prog w) A (collect (.ref t)) Q E s := by
  obtain ⟨ot, gt, ct, nt, dt⟩ := id hl
  unfold collect
  refine wpAny_bind (wpAny_runValue (codeAny_builtin entry_proto_collect' ?_))
  show wpAny (model prog w) _ (do again (.builtin "list.__iadd__" ⟨[← newList [], .ref t], []⟩)) _ _ s
  refine wpAny_bind (wpAny_newList (wpAny_pure ⟨Code.quiet_builtin _ (by decide +kernel), codeAny_builtin entry_list_iadd' (?_ : wpAny (model prog w) _ (Builtin.List.listExtendWith (.ref s.heap.objs.size) (.ref t) (.ref s.heap.objs.size)) _ _ { s with heap := s.heap.push (seqObj "list" #[] 0) })⟩))
  unfold Builtin.List.listExtendWith
  have gt' : (s.heap.push (seqObj "list" #[] 0)).get? t = some ot := Heap.get?_push_of_some _ gt
  refine wpAny_bind (wpAny_typeOf (T := "tuple") ⟨ot, gt', ct⟩ ?_)
  have tt : (Value.type "tuple" == Value.type "tuple") = true := by rfl
  rw [if_pos (by rw [tt]; simp)]
  refine wpAny_bind (listItems_at gt' dt (wpAny_bind (listItems_at (xs := #[]) (n := 0) (Heap.get?_push_size _ rfl) rfl ?_)))
  rw [if_neg (by simp)]
  refine wpAny_bind (listUpdate_at (xs := #[]) (n := 0) (Heap.get?_push_size _ rfl) rfl (wpAny_pure ?_) (Nat.zero_le _) (by show (#[] ++ vs.toArray).size ≤ sizeLine + 1; simp only [Array.size_append, List.size_toArray, List.length_nil]; omega))
  show wpAny (model prog w) A (do let ob ← load s.heap.objs.size; match ob.data with | .seq xs _ => pure xs.toList | _ => unsupported "internal:collect") Q E { s with heap := gathered s.heap vs }
  refine wpAny_bind (wpAny_load (get?_update_seq (Heap.get?_push_size _ rfl) _) ?_)
  show wpAny (model prog w) A (pure ((#[] : Array Value) ++ vs.toArray).toList) Q E _
  have e0 : ((#[] : Array Value) ++ vs.toArray).toList = vs := by simp
  rw [e0]
  exact wpAny_pure h
theorem sorted_tup {t : Addr} {vs : List Value} {ltv : Value → Value → Bool} {Q : Value → Shared → Prop} (O : SrtO.Swo ltv) (hl : IsTup s.heap t vs.toArray) (hz : vs.length ≤ sizeLine)
    (hS : 2 ≤ vs.length → ∀ (h₁ : Heap) (a : Addr), h₁.get? a = some (seqObj "list" vs.toArray 0) → (∀ b o, s.heap.get? b = some o → b ≠ a ∧ h₁.get? b = some o) → SrtO.SortableO prog w A.in1.in1 { s with heap := h₁ } a vs ltv)
    (h : ∀ out : List Value, SrtO.Srtd ltv out → SrtO.Stb ltv out vs → Q (.ref (s.heap.objs.size + 1)) { s with heap := sortedAll s.heap vs out.toArray }) : wpAny (model prog w) A (call (.builtin "sorted") [.ref t]) Q E s := by
  refine Calls.call_function_entry kind_sorted plain_sorted entry_sorted (args_sorted1 _) ?_
  unfold Builtin.«sorted»
  refine wpAny_bind (m := checkCount "sorted" 1 1 _) (wpAny_pure (wpAny_bind (collect_tup hl (wpAny_bind (wpAny_newList ?_ hz)) hz)))
  have z1 : (gathered s.heap vs).objs.size = s.heap.objs.size + 1 := (Heap.size_update _ _ _).trans (size_push' _ _)
  have lst : ((gathered s.heap vs).push (seqObj "list" vs.toArray 0)).get? (s.heap.objs.size + 1) = some (seqObj "list" vs.toArray 0) := by
    rw [← z1]; exact Heap.get?_push_size _ rfl
  have stays : ∀ b o, s.heap.get? b = some o → b ≠ s.heap.objs.size + 1 ∧ ((gathered s.heap vs).push (seqObj "list" vs.toArray 0)).get? b = some o := fun b o q => by
    have lt := Heap.lt_size q
    refine ⟨Nat.ne_of_lt (Nat.lt_succ_of_lt lt), Heap.get?_push_of_some _ ?_⟩
    unfold gathered
    rw [Heap.get?_update_ne _ _ _ _ (Nat.ne_of_lt lt)]
    exact Heap.get?_push_of_some _ q
  show wpAny (model prog w) _ _ _ _ { s with heap := (gathered s.heap vs).push (seqObj "list" vs.toArray 0) }
  rw [z1]
  exact wpAny_bind (wpAny_holding (wpAny_call_entry slot_list_sort ⟨_, lst, rfl⟩ entry_list_sort (SrtO.list_sort_ord O lst hz (fun h2 => hS h2 _ _ lst stays) fun out hs hb => ⟨_, rfl, wpAny_pure ⟨_, rfl, h out hs hb⟩⟩) (args_list_sort _)))
end
section
variable {X : Cx}
/-- sorted(t), t a tuple of whole numbers -/
def rSortT (K : PySem.W.Frag) : List V → Hp → VK → Prop := fun vs H Q => ∃ (a : Addr) (ns : List Int), vs = [V.ref a] ∧ SqT K H a (ns.map V.int) ∧ ∀ (ns' : List Int) (p : Addr), ns'.Perm ns → ns'.Pairwise (· ≤ ·) → H p = none → Q (.ref p) (upd H p (.lst (ns'.map V.int)))
theorem cr_sortT5 : CallR X (.builtin "sorted") (rSortT X.K) := by
  intro pins s σ H vs us Q I r h
  obtain ⟨a, ns, rfl, hs, q⟩ := h
  obtain ⟨its, rv, ht, hz⟩ := I.tuple hs
  rw [Vals.ref1 r]
  have hi := rv.ints
  refine sorted_tup SrtO.swo_int ht (by rw [← rv.length]; exact hz) (fun h2 _ _ _ _ => SrtO.ints_sortable hi h2) fun out h1 h2 => ?_
  obtain ⟨k1, k2, k3⟩ := SrtO.ints_out hi h1 h2
  obtain ⟨ep, he⟩ := PyProof.Rows.sortedAll_at s.heap its out.toArray
  have hl : ((out.map SrtO.iv).map V.int).length ≤ sizeLine := by
    rw [List.length_map] at hz
    rw [List.length_map, k2.length_eq]
    exact hz
  exact ⟨.ref _, upd H (s.heap.objs.size + 1) (.lst ((out.map SrtO.iv).map V.int)), I.laid (t' := s.toks) (fun _ _ => PyProof.Rows.sortedAll_old) (Nat.le_succ _) ⟨hl, out, ep, vals_of_ints k1, he⟩, rfl, q _ _ k2 k3 (I.hok.fresh (Nat.le_succ _))⟩
end
end Kr
namespace Kr
open PySem PySem.Spec PyProof.Rows L2
section
variable {P : Program} {w : World} {K : PySem.W.Frag} {mg : Str → Option Value} {base : Heap}
abbrev nDd : List Str := ["box", "n", "mixed", "size", "a", "b"]
theorem o_deed (D0 : Df K mg "_law_deed" sDeed ["box", "n"]) (B : Bi mg) (dr : Ok P w K mg base 1 "_law_draw" ["box", "many"] spDraw) (mx : Ok P w K mg base 2 "_law_mixed" ["box", "items"] spMixV) : Ok P w K mg base 3 "_law_deed" ["box", "n"] spDeed := by
  have scDd : FnScope nDd ["box", "n"] (defScope sDeed) := ⟨rfl, rfl, rfl, by decide +kernel, rfl, by decide +kernel, by decide +kernel⟩
  refine D0.ok fun f fd F => F.ok scDd (fun vs H Q E h => ?_) (fun cdv A outer s H vs Q E hr h => ?_)
  · obtain ⟨p, l, n, rfl, _⟩ := h
    rfl
  · obtain ⟨p, l, n, rfl, Dk, n0, n1, q⟩ := h
    have hr1 := hr.mono (show 1 ≤ 2 by decide)
    refine ⟨_, pss_cons (ps_par (i := 2) (j := 3) rfl scDd.nd rfl rfl (by decide) rfl rfl (pa_cons (pe_fn mx hr (by rfl) (pa_cons (pv 0) (pa_cons (pe_listRg rfl (by rfl) B.list (prg_1 (by rfl) B.range (pv 1))) pa_nil))) (pa_cons (pe_fn dr hr1 (by rfl) (pa_cons (pv 0) (pa_cons (pe_op op_sub (pv 1) pe_int) pa_nil))) pa_nil)) (by rfl))
      (pss_cons (ps_asg (pe_callB cr_sortedI (by rfl) B.sorted (by decide +kernel) (pa_cons (pe_slice sl_list (pv 2) (po_some (pv 3)) (po_some (pe_op op_add (pv 3) pe_int))) pa_nil)) (pg_unl rfl (pgs_cons (pg_name (i := 4) scDd.nd rfl (.inl rfl)) (pgs_cons (pg_name (i := 5) scDd.nd rfl (.inl rfl)) pgs_nil))))
      (pss_one (ps_ret (pe_tup (pa_cons (pe_callTy call_tuple_of (by rfl) B.tuple (by decide +kernel) (pa_cons (pe_callB cr_sortedI (by rfl) B.sorted (by decide +kernel) (pa_cons (pe_slice sl_list (pv 2) po_none (po_some (pv 3))) pa_nil)) pa_nil)) (pa_cons (pv 4) (pa_cons (pv 5) pa_nil))))))), ?_⟩
    refine ⟨.ref p, rfl, .int n, rfl, (n : Int), rfl, RgOk.of_le (Int.le_refl _) (by omega) (by decide) (by omega), fun b nb => ?_⟩
    rw [rg_ups]
    obtain ⟨e4, D4, hid4⟩ := new_dq (o := .lst ((ups n).map V.int)) Dk nb
    have hul : (ups n).length = n := by unfold ups; rw [List.length_map, List.length_range]
    refine ⟨p, l, b, _, rfl, D4, hid4, by rw [List.length_map, hul]; omega, fun H5 f5 ys D5 E5 nf5 hf hp => ?_⟩
    obtain ⟨zs, rfl, hpz⟩ : ∃ zs : List Int, ys = zs.map V.int ∧ zs.Perm (ups n) := by
      have hy : ∀ y ∈ ys, ∃ z, V.int z = y := fun y hy => by
        obtain ⟨z, _, e⟩ := List.mem_map.mp (hp.subset hy)
        exact ⟨z, e⟩
      have hg : ∀ ys : List V, (∀ y ∈ ys, ∃ z, V.int z = y) → ∃ zs : List Int, ys = zs.map V.int := by
        intro ys
        induction ys with
        | nil => intro _; exact ⟨[], rfl⟩
        | cons y ys ih =>
          intro h
          obtain ⟨z, rfl⟩ := h y List.mem_cons_self
          obtain ⟨zs, rfl⟩ := ih fun y hy => h y (List.mem_cons_of_mem _ hy)
          exact ⟨z :: zs, rfl⟩
      obtain ⟨zs, rfl⟩ := hg ys hy
      refine ⟨zs, rfl, ?_⟩
      have := hp.map (fun v => match v with | V.int z => z | _ => 0)
      simpa [List.map_map, Function.comp_def] using this
    have hzl : zs.length = n := by rw [hpz.length_eq, hul]
    have E15 : Ext p l H H5 := Same.trans e4 E5
    refine ⟨.ref p, rfl, .int n, rfl, _, _, rfl, rfl, p, l, (n : Int) - 1, rfl, D5, by omega, by omega, fun H6 z D6 E6 z0 z1 => ⟨_, _, rfl, ?_⟩⟩
    obtain ⟨s', rfl, hs⟩ : ∃ s : Nat, z = (s : Int) ∧ s + 2 ≤ n := ⟨z.toNat, by omega, by omega⟩
    have hf6 : H6 f5 = some (.lst (zs.map V.int)) := hid_same p l _ _ _ (E6 _ _ hf)
    have E16 : Ext p l H H6 := Same.trans E15 E6
    clear z0 z1 E6 D5 E5 hf nf5 hid4 D4 e4 nb
    refine ⟨.ref f5, rfl, .int s', rfl, (s' : Int), rfl, .int s', rfl, _, _, rfl, rfl, (s' : Int) + 2, rfl, f5, _, rfl, SqL.of hf6, fun c nc => ?_⟩
    have e1 : cutV (zs.map V.int) (some (s' : Int)) (some ((s' : Int) + 2)) = ((zs.drop s').take 2).map V.int := by
      unfold cutV
      rw [HT.sIx_nat, show ((s' : Int) + 2) = ((s' + 2 : Nat) : Int) by omega, HT.sIx_nat, List.length_map, hzl, Nat.min_eq_left (by omega), Nat.min_eq_left (by omega), show s' + 2 - s' = 2 by omega, ← List.map_drop, ← List.map_take]
    rw [e1]
    have s1 := same_new (o := .lst (((zs.drop s').take 2).map V.int)) nc
    refine ⟨c, (zs.drop s').take 2, rfl, SqL.of upd_same, fun ws d hpw hso nd => ?_⟩
    have s2 := same_new (o := .lst (ws.map V.int)) nd
    have hwl : ws.length = 2 := by rw [hpw.length_eq, List.length_take, List.length_drop]; omega
    obtain ⟨ab, rfl, hab⟩ := drawn_piece hpz ((List.take_sublist _ _).trans (List.drop_sublist _ _)) hpw hso
    rw [List.length_map] at hwl
    obtain ⟨x, y, rfl⟩ : ∃ x y, ab = [x, y] := by
      match ab, hwl with
      | [x, y], _ => exact ⟨x, y, rfl⟩
    refine ⟨d, _, rfl, SqL.of upd_same, rfl, .int (x : Nat), [.int (y : Nat)], rfl, .int (y : Nat), [], rfl, rfl, ?_⟩
    have s12 := s1.trans s2
    have hf7 := s12 _ _ hf6
    have D7 := D6.up s12
    have E17 : Ext p l H _ := Same.trans E16 (Ext.of s12)
    generalize upd (upd H6 c (.lst (((zs.drop s').take 2).map V.int))) d (.lst (([x, y].map fun (x : Nat) => (x : Int)).map V.int)) = H7 at hf7 D7 E17
    clear s12 s2 nd s1 nc E16 D6 hf6
    dsimp only [tNext]
    refine ⟨.ref f5, rfl, .int s', rfl, (s' : Int), rfl, f5, _, rfl, SqL.of hf7, fun c nc => ?_⟩
    rw [cut_to (by rw [List.length_map]; omega), ← List.map_take]
    have s1 := same_new (o := .lst ((zs.take s').map V.int)) nc
    refine ⟨c, zs.take s', rfl, SqL.of upd_same, fun us d2 hpu hsu nd2 => ?_⟩
    have s2 := same_new (o := .lst (us.map V.int)) nd2
    obtain ⟨own, rfl, hown⟩ := drawn_piece hpz (List.take_sublist _ _) hpu hsu
    refine ⟨d2, _, rfl, .inl ⟨SqL.of upd_same, fun t nt => ?_⟩⟩
    have s3 := same_new (o := .tup ((own.map fun (x : Nat) => (x : Int)).map V.int)) nt
    refine ⟨.int (x : Nat), rfl, .int (y : Nat), rfl, by show 3 ≤ sizeLine; decide, fun e ne => ?_⟩
    have s4 := same_new (o := .tup [.ref t, .int (x : Nat), .int (y : Nat)]) ne
    have s14 := s1.trans (s2.trans (s3.trans s4))
    have hnz : zs.Nodup := by
      have h0 : (ups n).Nodup := List.Pairwise.map _ (fun a b (h : a < b) => by show ((a : Nat) : Int) ≠ b; omega) List.pairwise_lt_range
      exact hpz.symm.nodup h0
    have hdj : ∀ k : Nat, (k : Int) ∈ (zs.drop s').take 2 → k ∉ own := fun k hk ho => by
      have h1 : (k : Int) ∈ zs.take s' := hpu.subset (List.mem_map.mpr ⟨k, ho, rfl⟩)
      have h2 : (k : Int) ∈ zs.drop s' := List.take_subset _ _ hk
      have h3 : (zs.take s' ++ zs.drop s').Nodup := by rw [List.take_append_drop]; exact hnz
      exact (List.nodup_append.mp h3).2.2 _ h1 _ h2 rfl
    have hxy := hab.1
    have hbd := hab.2
    refine q _ _ (own, x, y) (D7.up s14) (Same.trans E17 (Ext.of s14)) ⟨e, t, rfl, upd_same, ?_⟩ ⟨hown, ?_, ?_, hdj x (hpw.subset (by simp)), hdj y (hpw.subset (by simp))⟩
    · have := s4 _ _ (show upd (upd (upd H7 c (.lst ((zs.take s').map V.int))) d2 (.lst ((own.map fun (x : Nat) => (x : Int)).map V.int))) t (.tup ((own.map fun (x : Nat) => (x : Int)).map V.int)) t = _ from upd_same)
      rw [this]
      unfold lv
      rw [List.map_map]
      rfl
    · exact (List.pairwise_cons.mp hxy).1 y (by simp)
    · have := (hbd y (by simp)).2
      show y < n
      omega
end
end Kr
namespace Kr
open PySem PySem.Spec PyProof.Rows L2
local macro_rules | `(tactic| walk_at "bq") => `(tactic| repeat' (first | with_reducible refine bqa_nil ?_ | with_reducible refine bqa_cons ?_ | with_reducible refine bq_tup1 ?_ | with_reducible refine bq_tup2 ?_ | with_reducible refine bq_tup3 ?_ | with_reducible refine bq_str ?_ | with_reducible refine bq_c ?_ | with_reducible refine bn_c ?_ | with_reducible refine bn_op ?_))
theorem last_atT {α : Type} (xs : List α) (x : α) : (xs ++ [x])[(xs ++ [x]).length - 1]? = some x := by
  rw [List.length_append, List.length_singleton, Nat.add_sub_cancel, List.getElem?_append_right (Nat.le_refl _), Nat.sub_self]
  rfl
/-- all but the deck and one list stays -/
def ExtF (p l F : Addr) (H H' : Hp) : Prop := ∀ b o, b ≠ p → b ≠ l → b ≠ F → H b = some o → H' b = some o
theorem ExtF.refl {p l F : Addr} {H : Hp} : ExtF p l F H H := fun _ _ _ _ _ h => h
theorem ExtF.trans {p l F : Addr} {H H1 H2 : Hp} (a : ExtF p l F H H1) (b : ExtF p l F H1 H2) : ExtF p l F H H2 := fun c o h1 h2 h3 h => b c o h1 h2 h3 (a c o h1 h2 h3 h)
theorem ExtF.of {p l F : Addr} {H H' : Hp} (e : Ext p l H H') : ExtF p l F H H' := fun _ _ h1 h2 _ h => e.at_ h1 h2 h
/-- the box, the list of great numbers, and what is left of them -/
structure FarB (p l F : Addr) (ks : List Nat) (G : Hp) : Prop where
  D : Deck G p l
  ap : F ≠ p ∧ F ≠ l
  hF : G F = some (.lst (ks.map fun k : Nat => V.int (k : Int)))
  le : ∀ k ∈ ks, k ≤ 10 ^ 30
theorem FarB.deck {p l F : Addr} {ks : List Nat} {G G' : Hp} (h : FarB p l F ks G) (D : Deck G' p l) (E : Ext p l G G') : FarB p l F ks G' := ⟨D, h.ap, E.at_ h.ap.1 h.ap.2 h.hF, h.le⟩
theorem FarB.up {p l F : Addr} {ks : List Nat} {G G' : Hp} (h : FarB p l F ks G) (s : Same G G') : FarB p l F ks G' := h.deck (h.D.up s) (Ext.of s)
theorem FarB.ts {p l F : Addr} {ks : List Nat} {G G' : Hp} (h : FarB p l F ks G) (e : ExtF p l F G G') : TS G G' := fun b xs hb => by
  obtain ⟨ds, st, h1, h2, _⟩ := h.D.ex
  refine e b _ (fun z => ?_) (fun z => ?_) (fun z => ?_) hb
  · subst z; rw [h1] at hb; cases hb
  · subst z; rw [h2] at hb; cases hb
  · subst z; rw [h.hF] at hb; cases hb
theorem FarB.mut {p l F D : Addr} {ks : List Nat} {G : Hp} {o : HO} (h : FarB p l F ks G) (n : D ≠ p ∧ D ≠ l ∧ D ≠ F) : FarB p l F ks (upd G D o) := ⟨h.D.mut n.1 n.2.1, h.ap, by rw [upd_ne n.2.2.symm]; exact h.hF, h.le⟩
theorem ExtF.mut {p l F D : Addr} {H G : Hp} {o : HO} (e : ExtF p l F H G) (n : H D = none) : ExtF p l F H (upd G D o) := fun b x h1 h2 h3 h => by
  rw [upd_ne (ne_of_none h n)]
  exact e b x h1 h2 h3 h
theorem ExtF.free {p l F D : Addr} {H G : Hp} (e : ExtF p l F H G) (n : G D = none) (h : D ≠ p ∧ D ≠ l ∧ D ≠ F) : H D = none := by
  cases x : H D with
  | none => rfl
  | some o => rw [e D o h.1 h.2.1 h.2.2 x] at n; cases n
/-- how often a term does deeds, where it takes j great numbers -/
def CntT (deep j : Nat) (t : Tm) : Prop := ∀ (ws : List Nat) (W : Nat), 1 ≤ W → (∀ a ∈ ws, a ≤ W) → worth cntM ws t ≤ W * 12 ^ deep * (10 ^ 30) ^ j
theorem ct_mono {d d' j j' : Nat} {t : Tm} (h : CntT d j t) (hd : d ≤ d') (hj : j ≤ j') : CntT d' j' t := fun ws W h1 hw => by
  refine Nat.le_trans (h ws W h1 hw) (Nat.mul_le_mul (Nat.mul_le_mul_left _ (Nat.pow_le_pow_right (by decide) hd)) (Nat.pow_le_pow_right (by decide +kernel) hj))
theorem ct_one {W d j : Nat} (h : 1 ≤ W) : W ≤ W * 12 ^ d * (10 ^ 30) ^ j := by
  have h1 : 1 ≤ 12 ^ d := Nat.one_le_pow _ _ (by decide)
  have h2 : 1 ≤ (10 ^ 30) ^ j := Nat.one_le_pow _ _ (by decide +kernel)
  calc W = W * 1 * 1 := by omega
    _ ≤ W * 12 ^ d * (10 ^ 30) ^ j := Nat.mul_le_mul (Nat.mul_le_mul_left _ h1) h2
theorem ct_do {d : Nat} {m : Mv} : CntT d 0 (.doo m) := fun ws W h1 hw => by
  simp only [worth]
  show 1 ≤ _
  exact Nat.le_trans h1 (ct_one h1)
theorem ct_part {d i : Nat} : CntT d 0 (.part i) := fun ws W h1 hw => by
  simp only [worth]
  refine Nat.le_trans ?_ (ct_one h1)
  rw [List.getD_eq_getElem?_getD]
  cases e : ws[i]? with
  | none => exact Nat.zero_le _
  | some a => exact hw a (List.mem_of_getElem? e)
theorem ct_back {d j : Nat} {t : Tm} (h : CntT d j t) : CntT (d + 1) j (.back t) := fun ws W h1 hw => by
  have := ct_mono h (Nat.le_succ d) (Nat.le_refl j) ws W h1 hw
  simp only [worth]
  exact this
theorem ct_few {d j c : Nat} {t : Tm} (h : CntT d j t) (hc : c ≤ 12) : CntT (d + 1) j (.times t c) := fun ws W h1 hw => by
  have h2 := h ws W h1 hw
  simp only [worth]
  show worth cntM ws t * c ≤ _
  calc worth cntM ws t * c ≤ (W * 12 ^ d * (10 ^ 30) ^ j) * 12 := Nat.mul_le_mul h2 hc
    _ = W * 12 ^ (d + 1) * (10 ^ 30) ^ j := by rw [Nat.pow_succ 12 d]; ac_rfl
theorem ct_far {d j c : Nat} {t : Tm} (h : CntT d j t) (hc : c ≤ 10 ^ 30) : CntT (d + 1) (j + 1) (.times t c) := fun ws W h1 hw => by
  have h2 := ct_mono h (Nat.le_succ d) (Nat.le_refl j) ws W h1 hw
  simp only [worth]
  show worth cntM ws t * c ≤ _
  calc worth cntM ws t * c ≤ (W * 12 ^ (d + 1) * (10 ^ 30) ^ j) * 10 ^ 30 := Nat.mul_le_mul h2 hc
    _ = W * 12 ^ (d + 1) * (10 ^ 30) ^ (j + 1) := by rw [Nat.pow_succ (10 ^ 30)]; ac_rfl
theorem ct_row {d j : Nat} {ts : List Tm} (h : ∀ t ∈ ts, CntT d j t) (hl : ts.length ≤ 12) : CntT (d + 1) j (.row ts) := fun ws W h1 hw => by
  simp only [worth]
  rw [worthL_map]
  show (ts.map (worth cntM ws)).sum ≤ _
  have : ∀ us : List Tm, (∀ t ∈ us, CntT d j t) → (us.map (worth cntM ws)).sum ≤ us.length * (W * 12 ^ d * (10 ^ 30) ^ j) := by
    intro us
    induction us with
    | nil => intro _; simp
    | cons u us ih =>
      intro h
      rw [List.map_cons, List.sum_cons, List.length_cons, Nat.succ_mul]
      have a := h u List.mem_cons_self ws W h1 hw
      have b := ih fun t ht => h t (List.mem_cons_of_mem _ ht)
      omega
  calc (ts.map (worth cntM ws)).sum ≤ ts.length * (W * 12 ^ d * (10 ^ 30) ^ j) := this ts h
    _ ≤ 12 * (W * 12 ^ d * (10 ^ 30) ^ j) := Nat.mul_le_mul_right _ hl
    _ = W * 12 ^ (d + 1) * (10 ^ 30) ^ j := by rw [Nat.pow_succ 12 d]; ac_rfl
def spTermT (n : Nat) : Sp := fun vs H Q _ => ∃ (p l F : Addr) (N at_ deep : Nat) (ks : List Nat), vs = [.ref p, .int (N : Int), .int (at_ : Int), .int (deep : Int), .ref F] ∧ FarB p l F ks H ∧ ks.length ≤ 10 ∧ 3 ≤ N ∧ N ≤ 6 ∧ at_ ≤ 400 ∧ 1 ≤ deep ∧ deep ≤ n ∧
  ∀ H' v t js, FarB p l F js H' → js.length ≤ ks.length → ExtF p l F H H' → Dq H' v (tmD t) → okTm (Deed N) 3 at_ t → dep t ≤ deep → CntT deep (ks.length - js.length) t → Q v H'
section
variable {P : Program} {w : World} {K : PySem.W.Frag} {mg : Str → Option Value} {base : Heap}
abbrev nTt : List Str := ["box", "n", "at", "deep", "far", "way", "turn", "many"]
theorem scTt : FnScope nTt ["box", "n", "at", "deep", "far"] (defScope sLTerm) := ⟨rfl, rfl, rfl, by decide +kernel, rfl, by decide +kernel, by decide +kernel⟩
theorem o_lTermT (D0 : Df K mg "_law_term" sLTerm ["box", "n", "at", "deep", "far"]) (B : Bi mg) (dr : Ok P w K mg base 1 "_law_draw" ["box", "many"] spDraw) (dd : Ok P w K mg base 3 "_law_deed" ["box", "n"] spDeed) (pk : Ok P w K mg base 2 "_law_pick" ["box", "items"] spPick) :
    ∀ n, Ok P w K mg base (3 + n) "_law_term" ["box", "n", "at", "deep", "far"] (spTermT n)
  | 0 => D0.ok fun f fd F => by
    have no : ∀ vs H Q E, ¬ spTermT 0 vs H Q E := fun vs H Q E h => by
      obtain ⟨_, _, _, _, _, _, _, _, _, _, _, _, _, h1, h2, _⟩ := h
      omega
    exact ⟨fun vs H Q E h => absurd h (no vs H Q E), fun A outer s H args us vs Q E _ _ _ _ h => absurd h (no vs H Q E)⟩
  | n + 1 => by
    have ih := o_lTermT D0 B dr dd pk n
    refine D0.ok fun f fd F => F.ok scTt (fun vs H Q E h => ?_) (fun cdv A outer s H vs Q E hr h => ?_)
    · obtain ⟨_, _, _, _, _, _, _, rfl, _⟩ := h
      rfl
    · obtain ⟨p, l, FA, N, at_, deep, ks, rfl, FB, hkl, N3, N6, ha, d0, d1, q⟩ := h
      have hr1 := hr.mono (show 1 ≤ 3 + n by omega)
      have hr2 := hr.mono (show 2 ≤ 3 + n by omega)
      have hr3 := hr.mono (show 3 ≤ 3 + n by omega)
      have hu : (cxOf CX0 P w K mg base nTt "_law_term" (defScope sLTerm) f cdv A outer s H E).A.units + 64 < cLine := hr.units
      refine ⟨_, pss_cons (ps_set (i := 5) scTt.nd rfl (.inl rfl) (pe_fn dr hr1 (by rfl) (pa_cons (pv 0) (pa_cons (pe_ifExp (pt_cmpR op_gt (pv 3) pe_int (nomark _)) pe_int pe_int) pa_nil))))
      (pss_cons (ps_if (PW.pt (pw_or (pt_cmpR op_lt (pv 5) pe_int (nomark _)) (pw_or1 (PW.pt (pw_and (pt_cmpR op_eq (pv 5) pe_int (nomark _)) (pw_and1 (pt_cmpR op_eq (pv 2) pe_int (nomark _)))))))) (pss_one (ps_ret (pe_tup (pa_cons pe_str (pa_cons (pe_fn dd hr3 (by rfl) (pa_cons (pv 0) (pa_cons (pv 1) pa_nil))) pa_nil))))) pss_nil)
      (pss_cons (ps_if (pt_cmpR op_eq (pv 5) pe_int (nomark _)) (pss_one (ps_ret (pe_tup (pa_cons pe_str (pa_cons (pe_fn dr hr1 (by rfl) (pa_cons (pv 0) (pa_cons (pv 2) pa_nil))) pa_nil))))) pss_nil)
      (pss_cons (ps_if (pt_cmpR op_lt (pv 5) pe_int (nomark _)) (pss_one (ps_ret (pe_tup (pa_cons pe_str (pa_cons (pe_callTy call_tuple_of (by rfl) B.tuple (by decide +kernel) (pa_cons (pe_lc (own := [("turn", 6)]) (g := gName 6) (tt := tYes) rfl scTt.nd (pi_range1 (by rfl) B.range (pa_cons (pe_fn dr hr1 (by rfl) (pa_cons (pv 0) (pa_cons pe_int pa_nil))) pa_nil)) (blkOk_by (own := [("turn", 6)]) (N := nTt) (sc := defScope sLTerm) (by decide +kernel)) (fun _ _ _ _ _ => pg_name (i := 6) scTt.nd rfl (.inl rfl)) (fun _ _ _ _ _ => pts_nil) (fun _ _ _ _ _ => (pe_fn ih hr (by rfl) (pa_cons (pv 0) (pa_cons (pv 1) (pa_cons (pv 2) (pa_cons (pe_op op_sub (pv 3) pe_int) (pa_cons (pv 4) pa_nil)))))))) pa_nil)) pa_nil))))) pss_nil)
      (pss_cons (ps_if (pt_cmpR op_eq (pv 5) pe_int (nomark _)) (pss_one (ps_ret (pe_tup (pa_cons pe_str (pa_cons (pe_fn ih hr (by rfl) (pa_cons (pv 0) (pa_cons (pv 1) (pa_cons (pv 2) (pa_cons (pe_op op_sub (pv 3) pe_int) (pa_cons (pv 4) pa_nil)))))) pa_nil))))) pss_nil)
      (pss_cons (ps_set (i := 7) scTt.nd rfl (.inl rfl) (pe_fn pk hr2 (by rfl) (pa_cons (pv 0) (pa_cons (pe_lst (pa_cons pe_int (pa_cons pe_int (pa_cons pe_int (pa_cons pe_int (pa_cons pe_int (pa_cons pe_int (pa_cons pe_int pa_nil)))))))) pa_nil))))
      (pss_cons (ps_if (PW.pt (pw_and (pt_cmpR (op_neN hu) (pv 4) (pe_lst pa_nil) (nomark _)) (pw_and1 (pt_cmpR op_gt (pe_fn dr hr1 (by rfl) (pa_cons (pv 0) (pa_cons pe_int pa_nil))) pe_int (nomark _))))) (pss_one (ps_set (i := 7) scTt.nd rfl (.inl rfl) (pe_bm0 PySem.F.plainAttrs_list PySem.F.slot_list_pop PySem.F.type_list_pop mt_pop (pv 4)))) pss_nil)
      (pss_one (ps_ret (pe_tup (pa_cons pe_str (pa_cons (pe_fn ih hr (by rfl) (pa_cons (pv 0) (pa_cons (pv 1) (pa_cons (pv 2) (pa_cons (pe_op op_sub (pv 3) pe_int) (pa_cons (pv 4) pa_nil)))))) (pa_cons (pv 7) pa_nil)))))))))))), ?_⟩
      have fin0 : ∀ {te : TE} {σ : L2.St} {G : Hp}, FarB p l FA ks G → ExtF p l FA H G → Bq (frD p l) te σ G (fun d => ∃ t, d = tmD t ∧ okTm (Deed N) 3 at_ t ∧ dep t ≤ deep ∧ CntT deep 0 t) → te σ G Q := fun {te σ G} FBG EG h => bq_at h FBG.D fun G' v d D' E' qd fd ⟨t, e, h1, h2, h3⟩ => q G' v t ks (FBG.deck D' E') (Nat.le_refl _) (EG.trans (ExtF.of E')) (e ▸ qd) h1 h2 (by rw [Nat.sub_self]; exact h3)
      have call : ∀ (σ : L2.St) (G : Hp) (js : List Nat) (Q' : VK), 2 ≤ deep → FarB p l FA js G → js.length ≤ 10 → σ[0]? = some (some (.ref p)) → σ[1]? = some (some (.int (N : Int))) → σ[2]? = some (some (.int (at_ : Int))) → σ[3]? = some (some (.int (deep : Int))) → σ[4]? = some (some (.ref FA)) →
          (∀ H' v t is, FarB p l FA is H' → is.length ≤ js.length → ExtF p l FA G H' → Dq H' v (tmD t) → okTm (Deed N) 3 at_ t → dep t ≤ deep - 1 → CntT (deep - 1) (js.length - is.length) t → Q' v H') → tCall (spTermT n) [] E0 (tCons (tVar 0) (tCons (tVar 1) (tCons (tVar 2) (tCons (tOp (rI0 fun i j => .int (i - j)) (tVar 3) (tC (.int 1))) (tCons (tVar 4) tNil))))) σ G Q' := fun σ G js Q' d2 FBG hjl e0 e1 e2 e3 e4 k =>
        ⟨_, e0, _, e1, _, e2, _, e3, _, _, rfl, rfl, _, e4, p, l, FA, N, at_, deep - 1, js, by rw [show ((deep - 1 : Nat) : Int) = (deep : Int) - 1 by omega]; rfl, FBG, hjl, N3, N6, ha, by omega, by omega, k⟩
      refine sq_asg (bn_at (F := frD p l) (N := fun w => 0 ≤ w ∧ w < 9 ∧ (3 ≤ w → 2 ≤ deep)) (bn_draw rfl (bn_ifc (bn_var rfl (bn_c ⟨fun c => bn_c ⟨by decide, by decide, fun r h0 h1 => ⟨h0, h1, fun _ => by have := of_decide_eq_true c; omega⟩⟩, fun c => bn_c ⟨by decide, by decide, fun r h0 h1 => ⟨h0, by omega, fun z => by omega⟩⟩⟩)))) FB.D fun G1 w D1 E1 hw => ?_)
      have D1 : Deck G1 p l := D1
      have E1 : Ext p l H G1 := E1
      have F1 := FB.deck D1 E1
      have X1 : ExtF p l FA H G1 := ExtF.of E1
      clear D1 E1
      refine sq_if ?_
      have doD : ∀ {σ : L2.St} {G : Hp}, σ[0]? = some (some (.ref p)) → σ[1]? = some (some (.int (N : Int))) → Bq (frD p l) (tTup (tCons (tC (.str "do")) (tCons (tCall spDeed [] E0 (tCons (tVar 0) (tCons (tVar 1) tNil))) tNil))) σ G (fun d => ∃ t, d = tmD t ∧ okTm (Deed N) 3 at_ t ∧ dep t ≤ deep ∧ CntT deep 0 t) := fun {σ G} e0 e1 => by
        walk_at "bq"
        refine (bq_deed e0 e1 N3 N6).mono fun d ⟨md, e, hd⟩ => ?_
        walk_at "bq"
        exact ⟨.doo md, by rw [e]; simp only [tmD], by simp only [okTm]; exact hd, by simp only [dep]; omega, ct_do⟩
      refine ⟨.int w, rfl, _, _, rfl, rfl, _, rfl, ite2 (fun c => ?_) (fun c => ?_)⟩
      · exact iteT (one_ret (fin0 F1 X1 (doD rfl rfl)))
      · have c1 : ¬ w < 2 := fun z => c (decide_eq_true z)
        refine ⟨.int w, rfl, rfl, _, rfl, ite2 (fun c2 => ?_) (fun c2 => ?_)⟩
        · have e2 : w = 2 := V.int.inj (of_decide_eq_true c2)
          refine ⟨.int (at_ : Int), rfl, rfl, _, rfl, ite2 (fun c3 => one_ret (fin0 F1 X1 (doD rfl rfl))) (fun c3 => ?_)⟩
          have e3 : ¬ at_ = 0 := fun z => c3 (decide_eq_true (by rw [z]; rfl))
          dsimp only [tNext]
          refine sq_if ?_
          refine ⟨.int w, rfl, rfl, _, rfl, ?_⟩
          rw [decide_eq_true (show V.int w = V.int 2 by rw [e2])]
          refine iteT (one_ret (fin0 F1 X1 ?_))
          walk_at "bq"
          refine bq_int (bn_draw (N := fun r => ∃ k : Nat, r = (k : Int) ∧ k < at_) rfl (bn_var rfl ⟨by omega, by omega, fun r h0 h1 => ⟨r.toNat, by omega, by omega⟩⟩)) fun r hr => ?_
          obtain ⟨k, rfl, hk⟩ := hr
          walk_at "bq"
          exact ⟨.part k, by simp only [tmD], by simp only [okTm]; exact hk, by simp only [dep]; omega, ct_part⟩
        · have e2 : ¬ w = 2 := fun z => c2 (decide_eq_true (by rw [z]))
          have d2 := hw.2.2 (by have := hw.1; omega)
          refine iteF ?_
          dsimp only [tNext]
          refine sq_if ?_
          refine ⟨.int w, rfl, rfl, _, rfl, ?_⟩
          rw [decide_eq_false (show ¬ V.int w = V.int 2 from fun z => e2 (V.int.inj z))]
          refine iteF ?_
          dsimp only [tNext]
          refine sq_if ?_
          refine ⟨.int w, rfl, _, _, rfl, rfl, _, rfl, ite2 (fun c4 => ?_) (fun c4 => ?_)⟩
          · refine one_ret ?_
            refine ⟨.ref p, rfl, p, l, 4, rfl, F1.D, by decide, by decide, fun G2 r D2 E2 r0 r1 => ⟨r, rfl, by omega, by omega, fun D nD => ?_⟩⟩
            have F2 := F1.deck D2 E2
            have X2 := X1.trans (ExtF.of E2)
            obtain ⟨nDp, nDl⟩ := D2.new nD
            have nDF : D ≠ FA := (ne_of_none F2.hF nD).symm
            have n3 : D ≠ p ∧ D ≠ l ∧ D ≠ FA := ⟨nDp, nDl, nDF⟩
            have nD0 : H D = none := X2.free nD n3
            obtain ⟨m, hm, hm3⟩ : ∃ m : Nat, r.toNat = m ∧ m ≤ 3 := ⟨_, rfl, by omega⟩
            rw [hm]
            refine lc_it (walk_rg (n := m)) (fun i G => ∃ (us : List V) (ts : List Tm) (js : List Nat), G D = some (.lst us) ∧ FarB p l FA js G ∧ js.length ≤ ks.length ∧ ExtF p l FA H G ∧ us.length = i ∧ DqA G us (ts.map tmD) ∧ ∀ t ∈ ts, okTm (Deed N) 3 at_ t ∧ dep t ≤ deep - 1 ∧ CntT (deep - 1) (ks.length - js.length) t) ⟨[], [], ks, upd_same, F2.mut n3, Nat.le_refl _, X2.mut nD0, rfl, .nil, (fun _ h => nomatch h)⟩ (fun _ _ _ _ => trivial) ?_ ?_
            · rintro i x _ G hi ⟨us, ts, js, hD, FG, hjl, XG, hul, qu, hts⟩ ⟨rfl, rfl⟩
              refine ⟨rfl, ?_⟩
              dsimp only [tYes]
              rw [if_pos rfl]
              refine call _ G js _ d2 FG (by omega) rfl rfl rfl rfl rfl fun H' v t is FI hil XI qt ot dt ct => ?_
              have hD' := XI D _ nDp nDl nDF hD
              have tD : TS H' (upd H' D (.lst (us ++ [v]))) := TS.lst hD'
              have fl : flatTA (ts.map tmD) = true := by
                have := tms_flat ts
                rwa [tmDs_map] at this
              refine ⟨us, hD', szm (by omega), us ++ [v], ts ++ [t], is, upd_same, FI.mut n3, by omega, (XG.trans XI).mut nD0, by rw [List.length_append, hul]; rfl, ?_, fun y hy => ?_⟩
              · rw [List.map_append]
                exact dqa_snoc (DqA.upT tD fl (DqA.upT (FG.ts XI) fl qu)) (Dq.upT tD (tm_flat t) qt)
              · rcases List.mem_append.mp hy with c | c
                · obtain ⟨a1, a2, a3⟩ := hts y c
                  exact ⟨a1, a2, ct_mono a3 (Nat.le_refl _) (by omega)⟩
                · rw [List.mem_singleton.mp c]
                  exact ⟨ot, dt, ct_mono ct (Nat.le_refl _) (by omega)⟩
            · rintro G ⟨us, ts, js, hD, FG, hjl, XG, hul, qu, hts⟩
              have htl : ts.length = m := by have := qu.len; rw [List.length_map] at this; omega
              refine ⟨D, us, rfl, .inl ⟨SqL.of hD, fun t nt => ⟨by show 2 ≤ sizeLine; decide, fun t2 nt2 => ?_⟩⟩⟩
              have s1 := same_new (o := .tup us) nt
              have s2 := same_new (o := .tup [.str "row", .ref t]) nt2
              have s12 := s1.trans s2
              refine q _ _ (.row ts) js (FG.up s12) hjl (XG.trans (ExtF.of (Ext.of s12))) ?_ ?_ ?_ ?_
              · simp only [tmD]
                rw [tmDs_map]
                exact .tup upd_same (.cons (.str _) (.cons (.tup (s2 _ _ upd_same) (qu.up s12)) .nil))
              · simp only [okTm]
                exact ⟨by omega, okTms_of fun t ht => (hts t ht).1⟩
              · simp only [dep]
                have := depL_of (m := deep - 1) (ts := ts) fun t ht => (hts t ht).2.1
                omega
              · exact ct_mono (ct_row (d := deep - 1) (fun t ht => (hts t ht).2.2) (by omega)) (by omega) (Nat.le_refl _)
          · dsimp only [tNext]
            refine sq_if ?_
            refine ⟨.int w, rfl, rfl, _, rfl, ite2 (fun c5 => ?_) (fun c5 => ?_)⟩
            · refine one_ret ?_
              refine call _ G1 ks _ d2 F1 hkl rfl rfl rfl rfl rfl fun H' v t is FI hil XI qt ot dt ct => ⟨by show 2 ≤ sizeLine; decide, fun a na => ?_⟩
              have sa := same_new (o := .tup [.str "back", v]) na
              refine q _ _ (.back t) is (FI.up sa) hil ((X1.trans XI).trans (ExtF.of (Ext.of sa))) ?_ ?_ ?_ ?_
              · simp only [tmD]
                exact .tup upd_same (.cons (.str _) (.cons (qt.up sa) .nil))
              · simp only [okTm]
                exact ot
              · simp only [dep]
                omega
              · exact ct_mono (ct_back ct) (by omega) (Nat.le_refl _)
            · dsimp only [tNext]
              refine sq_asg (bn_at (F := frD p l) (H := G1) (N := fun x => ∃ k : Nat, x = (k : Int) ∧ k ≤ 12) (bn_pick (m := 6) rfl ?_) F1.D fun G2 z D2 E2 hz => ?_)
              · walk_at "bq"
                intro x hx
                simp only [List.mem_cons, List.not_mem_nil, or_false] at hx
                rcases hx with rfl | rfl | rfl | rfl | rfl | rfl | rfl
                · exact ⟨_, rfl, 0, rfl, by decide⟩
                · exact ⟨_, rfl, 1, rfl, by decide⟩
                · exact ⟨_, rfl, 2, rfl, by decide⟩
                · exact ⟨_, rfl, 3, rfl, by decide⟩
                · exact ⟨_, rfl, 5, rfl, by decide⟩
                · exact ⟨_, rfl, 7, rfl, by decide⟩
                · exact ⟨_, rfl, 12, rfl, by decide⟩
              obtain ⟨c, rfl, hc⟩ := hz
              have F2 := F1.deck D2 E2
              have X2 := X1.trans (ExtF.of E2)
              refine sq_if ?_
              refine joinC7 (c := tAnd _ _) (fun b G => FarB p l FA ks G ∧ ExtF p l FA H G ∧ (b = true → ks ≠ [])) (fun b G ⟨FG, XG, hb⟩ => ?_) (fun Q' k => ?_)
              rotate_left
              · refine ⟨.ref FA, rfl, by show 0 ≤ sizeLine; decide, fun e0 ne0 => ?_⟩
                have se := same_new (o := .lst []) ne0
                have F3 := F2.up se
                have X3 := X2.trans (ExtF.of (Ext.of se))
                refine ⟨FA, e0, _, rfl, rfl, F3.hF, upd_same, _, rfl, ite2 (fun c6 => ?_) (fun c6 => k _ _ ⟨F3, X3, fun z => by cases z⟩)⟩
                refine ⟨.ref p, rfl, p, l, 3, rfl, F3.D, by decide, by decide, fun G4 r D4 E4 r0 r1 => ⟨_, _, rfl, rfl, _, rfl, k _ _ ⟨F3.deck D4 E4, X3.trans (ExtF.of E4), fun _ z => ?_⟩⟩⟩
                rw [z] at c6
                cases c6
              refine ifS_join (R := fun σ G => ∃ (c : Nat) (js : List Nat), σ = [some (.ref p), some (.int (N : Int)), some (.int (at_ : Int)), some (.int (deep : Int)), some (.ref FA), some (.int w), none, some (.int (c : Int))] ∧ FarB p l FA js G ∧ ExtF p l FA H G ∧ js.length ≤ ks.length ∧ c ≤ 10 ^ 30 ∧ (c ≤ 12 ∨ js.length + 1 ≤ ks.length)) ?_ (fun c7 D' kD => ?_) (fun c7 D' kD => kD _ _ ⟨c, ks, rfl, FG, XG, Nat.le_refl _, Nat.le_trans hc (by decide +kernel), .inl hc⟩)
              rotate_left
              · obtain ⟨is, k, rfl⟩ : ∃ is k, ks = is ++ [k] := ⟨ks.dropLast, ks.getLast (hb c7), (List.dropLast_concat_getLast (hb c7)).symm⟩
                have hF := FG.hF
                rw [List.map_append] at hF
                have hF : G FA = some (.lst ((is.map fun k : Nat => V.int (k : Int)) ++ [.int (k : Int)])) := hF
                refine one_asg ⟨.ref FA, rfl, .inl ⟨rfl, _, SqL.of hF⟩, FA, _, .int (k : Int), rfl, rfl, hF, last_atT _ _, kD _ _ ⟨k, is, rfl, ⟨FG.D.mut FG.ap.1 FG.ap.2, FG.ap, by rw [upd_same, List.dropLast_concat], fun x hx => FG.le x (List.mem_append_left _ hx)⟩, fun b o h1 h2 h3 h => by rw [upd_ne h3]; exact XG b o h1 h2 h3 h, by rw [List.length_append]; omega, FG.le k (by simp), .inr (by rw [List.length_append]; exact Nat.le_refl _)⟩⟩
              · rintro σ G3 ⟨c8, js, rfl, F3, X3, hjl, hc30, hor⟩
                dsimp only
                refine one_ret ?_
                refine call _ G3 js _ d2 F3 (by omega) rfl rfl rfl rfl rfl fun H' v t is FI hil XI qt ot dt ct => ⟨.int (c8 : Int), rfl, by show 3 ≤ sizeLine; decide, fun a na => ?_⟩
                have sa := same_new (o := .tup [.str "times", v, .int (c8 : Int)]) na
                refine q _ _ (.times t c8) is (FI.up sa) (by omega) ((X3.trans XI).trans (ExtF.of (Ext.of sa))) ?_ ?_ ?_ ?_
                · simp only [tmD]
                  exact .tup upd_same (.cons (.str _) (.cons (qt.up sa) (.cons (.int _) .nil)))
                · simp only [okTm]
                  exact ⟨hc30, ot⟩
                · simp only [dep]
                  omega
                · rcases hor with h | h
                  · exact ct_mono (ct_few ct h) (by omega) (by omega)
                  · exact ct_mono (ct_far ct hc30) (by omega) (by omega)
end
end Kr
namespace Kr
open PySem PySem.Spec PyProof.Rows L2
/-! ### xs.extend(t), t a tuple -/
theorem list_extend_tup (l : Addr) (items : Array Value) (n : Nat) (b : Addr) (items2 : Array Value) (n2 : Nat) (dd : Option Addr) (sl : Array (Option Value)) (hs0 : ¬(!items.isEmpty && Builtin.List.listTooLong (items.size + items2.size)) = true) (hs1 : items.size ≤ sizeLine) (hs2 : items.size + items2.size ≤ sizeLine + 1) :
    Meets (Builtin.«list.extend» ⟨[.ref l, .ref b], []⟩) (fun _ R s => s.heap.get? l = some { cls := .type "list", dict := none, data := .seq items n, slots := #[] } ∧ s.heap.get? b = some { cls := .type "tuple", dict := dd, data := .seq items2 n2, slots := sl } ∧ R (.ok (.ret Value.none)) { s with heap := s.heap.update l (Obj.mapSeq fun x => x ++ items2), toks := s.toks }) :=
  .of_wp fun prog w A R s h => by
    obtain ⟨hp, g, d, tk, os⟩ := s; obtain ⟨hl, hb, h⟩ := h; have f1 := AutoSeq1.idx_int; have f2 := AutoSeq1.sub_tuple_tuple; have f3 := AutoSeq1.sub_list_list; have f4 := AutoSeq1.sub_tuple_list; have f5 := AutoSeq1.sub_list_tuple
    have hz' : (items ++ items2).size ≤ sizeLine + 1 := by rw [Array.size_append]; exact hs2
    wp_walk using (wpAny_updateSeq hl rfl (hz := hs1) (_hz' := hz')), wpAny_loadPart' hl, wpAny_loadPart' hb; exact ⟨_, rfl, h⟩
def rExtendT (K : PySem.W.Frag) : V → List V → Hp → VK → Prop := fun x vs H Q => ∃ l b xs zs, x = .ref l ∧ vs = [.ref b] ∧ H l = some (.lst xs) ∧ SqT K H b zs ∧ xs.length + zs.length ≤ sizeLine ∧ Q .non (upd H l (.lst (xs ++ zs)))
theorem mt_extendT {X : Cx} : MtM X "list.extend" (rExtendT X.K) := by
  intro pins s σ H x vs v us Q I rx rv h
  obtain ⟨l, b, xs, zs, rfl, rfl, hH, hB, hz, q⟩ := h
  cases rx
  obtain ⟨u, rfl, ru⟩ := rv.one
  cases ru
  obtain ⟨z, its, n, r, hl, e⟩ := I.lstM hH
  obtain ⟨its2, r2, ⟨⟨cls, dd, data, sl⟩, e2, hc, n2, hd⟩, hs⟩ := I.tuple hB
  simp only at hc hd
  subst hc hd
  have hl2 : its2.length = zs.length := r2.length.symm
  have hsz : its.toArray.size + its2.toArray.size ≤ sizeLine := by rw [List.size_toArray, List.size_toArray]; omega
  have hlong : ¬ (!its.toArray.isEmpty && Builtin.List.listTooLong (its.toArray.size + its2.toArray.size)) = true := by
    rw [notLongL hsz, Bool.and_false]
    exact Bool.false_ne_true
  refine call_meets F.slot_list_extend ⟨_, e, rfl⟩ F.entry_list_extend (F.args_list_extend_2 _ _)
    (list_extend_tup l its.toArray n b its2.toArray n2 dd sl hlong (by rw [List.size_toArray]; omega) (by omega)) ⟨e, e2, ?_⟩
  refine ⟨.non, _, I.lset (its' := its ++ its2) hH e (by simp) (r.append r2) ?_, rfl, q⟩
  rw [List.length_append]
  omega
end Kr
namespace Kr
open PySem PySem.Spec PyProof.Rows L2
/-! the parts of a term, so many places further on -/
mutual
def shT (a : Nat) : Tm → Tm
  | .doo d => .doo d
  | .part j => .part (a + j)
  | .row ts => .row (shTs a ts)
  | .back t => .back (shT a t)
  | .times t k => .times (shT a t) k
def shTs (a : Nat) : List Tm → List Tm
  | [] => []
  | t :: ts => shT a t :: shTs a ts
end
theorem shTs_map (a : Nat) : ∀ ts : List Tm, shTs a ts = ts.map (shT a)
  | [] => rfl
  | t :: ts => by simp only [shTs, List.map_cons]; rw [shTs_map a ts]
section
variable {K : PySem.W.Frag} {σ : L2.St} {H : Hp} {i : Nat} {w x : Str} {t u : L2.TS} {D : Ends}
theorem sq_pno (hv : σ[i]? = some (some (.str w))) (hne : decide (V.str w = V.str x) = false) (h : u D σ H) : tSeq (tIfS (tTest (tOp rEq (tVar i) (tC (.str x)))) t tNext) u D σ H := ⟨_, hv, rfl, _, rfl, by rw [hne]; exact iteF h⟩
theorem sq_pyes (hv : σ[i]? = some (some (.str w))) (h : t (nxD D u) σ H) : tSeq (tIfS (tTest (tOp rEq (tVar i) (tC (.str w)))) t tNext) u D σ H := ⟨_, hv, rfl, _, rfl, by rw [decide_eq_true rfl]; exact iteT h⟩
end
section
variable {P : Program} {w : World} {K : PySem.W.Frag} {mg : Str → Option Value} {base : Heap}
def spWpa (n : Nat) : Sp := fun vs H Q _ => ∃ (L : Addr) (v : V) (t : Tm) (a m : Nat), vs = [v, .ref L] ∧ Dq H v (tmD t) ∧ H L = some (.lst ((List.range m).map fun j : Nat => V.int ((a + j : Nat) : Int))) ∧ okTm (fun _ => True) 400 m t ∧ dep t ≤ n ∧ ∀ H' r, Same H H' → Dq H' r (tmD (shT a t)) → Q r H'
abbrev nWpa : List Str := ["term", "spots", "word", "inner"]
theorem scWpa : FnScope nWpa ["term", "spots"] (defScope sWithPartsAt) := ⟨rfl, rfl, rfl, by decide +kernel, rfl, by decide +kernel, by decide +kernel⟩
theorem o_wpa (D0 : Df K mg "with_parts_at" sWithPartsAt ["term", "spots"]) (B : Bi mg) : ∀ n, Ok P w K mg base n "with_parts_at" ["term", "spots"] (spWpa n)
  | 0 => D0.ok fun f fd F => by
    have no : ∀ vs H Q E, ¬ spWpa 0 vs H Q E := fun vs H Q E h => by
      obtain ⟨_, _, t, _, _, _, _, _, _, hd, _⟩ := h
      have := dep_pos t
      omega
    exact ⟨fun vs H Q E h => absurd h (no vs H Q E), fun A outer s H args us vs Q E _ _ _ _ h => absurd h (no vs H Q E)⟩
  | n + 1 => by
    have ih := o_wpa D0 B n
    refine D0.ok fun f fd F => F.ok scWpa (fun vs H Q E h => ?_) (fun cdv A outer s H vs Q E hr h => ?_)
    · obtain ⟨_, _, _, _, _, rfl, _⟩ := h
      rfl
    · obtain ⟨L, v, t, a, m, rfl, hv, hL, hok, hdp, q⟩ := h
      refine ⟨_, pss_cons (ps_set (i := 2) scWpa.nd rfl (.inl rfl) (pe_ix ix_tup (pv 0) pe_int (fun _ _ => rfl)))
      (pss_cons (ps_if (pt_cmpR op_eq (pv 2) pe_str (nomark _)) (pss_one (ps_ret (pv 0))) pss_nil)
      (pss_cons (ps_if (pt_cmpR op_eq (pv 2) pe_str (nomark _)) (pss_one (ps_ret (pe_tup (pa_cons pe_str (pa_cons (pe_ix ix_list (pv 1) (pe_ix ix_tup (pv 0) pe_int (fun _ _ => rfl)) (fun _ _ => rfl)) pa_nil))))) pss_nil)
      (pss_cons (ps_if (pt_cmpR op_eq (pv 2) pe_str (nomark _)) (pss_one (ps_ret (pe_tup (pa_cons pe_str (pa_cons (pe_callTy call_tuple_of (by rfl) B.tuple (by decide +kernel) (pa_cons (pe_lc (own := [("inner", 3)]) (g := gName 3) (tt := tYes) rfl scWpa.nd (pi_tup (pe_ix ix_tup (pv 0) pe_int (fun _ _ => rfl))) (blkOk_by (own := [("inner", 3)]) (N := nWpa) (sc := defScope sWithPartsAt) (by decide +kernel)) (fun _ _ _ _ _ => pg_name (i := 3) scWpa.nd rfl (.inl rfl)) (fun _ _ _ _ _ => pts_nil) (fun _ _ _ _ _ => (pe_fn ih hr (by rfl) (pa_cons (pv 3) (pa_cons (pv 1) pa_nil))))) pa_nil)) pa_nil))))) pss_nil)
      (pss_one (ps_ret (pe_op op_catA (pe_tup (pa_cons (pv 2) (pa_cons (pe_fn ih hr (by rfl) (pa_cons (pe_ix ix_tup (pv 0) pe_int (fun _ _ => rfl)) (pa_cons (pv 1) pa_nil))) pa_nil))) (pe_slice sl_tupA (pv 0) (po_some pe_int) po_none))))))), ?_⟩
      have glue : ∀ (b : Addr) (wd : Str) (x : V) (tl : List V) (r : V) (G1 : Hp) (t' : Tm) (Q' : VK), Same H G1 → H b = some (.tup (.str wd :: x :: tl)) → Dq G1 r (tmD t') → tl.length ≤ 5 → (∀ G2 z, Same G1 G2 → G2 z = some (.tup (.str wd :: r :: tl)) → Dq G2 r (tmD t') → Q' (.ref z) G2) → [V.str wd, r].length ≤ sizeLine ∧ ∀ p, G1 p = none → tSl (rSlA K) (tVar 0) (tPart (tC (.int 2))) tNoPart [some (.ref b), some (.ref L), some (.str wd), none] (upd G1 p (.tup [.str wd, r])) fun y H2 => rCatA K (.ref p) y H2 Q' := fun b wd x tl r G1 t' Q' s1 ha qr hl h => ⟨by show 2 ≤ sizeLine; decide, fun p np => by
        have s2 := same_new (o := .tup [.str wd, r]) np
        refine ⟨.ref b, rfl, (2 : Int), rfl, ?_⟩
        dsimp only [tNoPart]
        refine sliceA_k (s2 _ _ (s1 _ _ ha)) fun y G3 s3 hy => ?_
        have e : cutV (.str wd :: x :: tl) (some (2 : Int)) none = tl := cut_from (i := 2) (by simp)
        rw [e] at hy
        refine catA_k (s3 _ _ upd_same) hy ?_ fun z G4 s4 hz => h G4 z (s2.trans (s3.trans s4)) hz (qr.up (s2.trans (s3.trans s4)))
        show 2 + tl.length ≤ 100000
        omega⟩
      cases t with
      | doo d =>
        obtain ⟨b, x, rfl, ha, qd⟩ := tm_doo hv
        refine sq_asg (rix rfl ha rfl (j := 0) rfl ?_)
        refine sq_pyes rfl (one_ret ⟨_, rfl, ?_⟩)
        refine q H _ (Same.refl _) ?_
        simp only [shT]
        exact hv
      | part j =>
        simp only [okTm] at hok
        obtain ⟨b, rfl, ha⟩ := tm_prt hv
        refine sq_asg (rix rfl ha rfl (j := 0) rfl ?_)
        refine sq_pno rfl (by decide) (sq_pyes rfl (one_ret ?_))
        refine ⟨.ref L, rfl, rix rfl ha rfl (j := 1) rfl ⟨L, _, (j : Int), .int ((a + j : Nat) : Int), rfl, rfl, SqL.of hL, atI_nat (by rw [List.getElem?_map, List.getElem?_range hok]; rfl), by show 2 ≤ sizeLine; decide, fun t nt => q _ _ (same_new nt) ?_⟩⟩
        simp only [shT, tmD]
        exact .tup upd_same (.cons (.str _) (.cons (.int _) .nil))
      | back t =>
        simp only [okTm] at hok
        simp only [dep] at hdp
        obtain ⟨b, x, rfl, ha, qx⟩ := tm_bk hv
        refine sq_asg (rix rfl ha rfl (j := 0) rfl ?_)
        refine sq_pno rfl (by decide) (sq_pno rfl (by decide) (sq_pno rfl (by decide) (one_ret ?_)))
        refine ⟨_, rfl, rix rfl ha rfl (j := 1) rfl ⟨.ref L, rfl, L, x, t, a, m, rfl, qx, hL, hok, by omega, fun G1 r s1 h1 => ?_⟩⟩
        exact glue b "back" x [] r G1 (shT a t) _ s1 ha h1 (by simp) fun G2 z s2 hz qr => q G2 _ (s1.trans s2) (by simp only [shT, tmD]; exact .tup hz (.cons (.str _) (.cons qr .nil)))
      | times t c =>
        simp only [okTm] at hok
        simp only [dep] at hdp
        obtain ⟨b, x, rfl, ha, qx⟩ := tm_tms hv
        refine sq_asg (rix rfl ha rfl (j := 0) rfl ?_)
        refine sq_pno rfl (by decide) (sq_pno rfl (by decide) (sq_pno rfl (by decide) (one_ret ?_)))
        refine ⟨_, rfl, rix rfl ha rfl (j := 1) rfl ⟨.ref L, rfl, L, x, t, a, m, rfl, qx, hL, hok.2, by omega, fun G1 r s1 h1 => ?_⟩⟩
        exact glue b "times" x [.int (c : Int)] r G1 (shT a t) _ s1 ha h1 (by simp) fun G2 z s2 hz qr => q G2 _ (s1.trans s2) (by simp only [shT, tmD]; exact .tup hz (.cons (.str _) (.cons qr (.cons (.int _) .nil))))
      | row ts =>
        simp only [okTm] at hok
        simp only [dep] at hdp
        obtain ⟨c, b, ys, rfl, ha, hb, qy, hyl⟩ := tm_rw hv
        refine sq_asg (rix rfl ha rfl (j := 0) rfl ?_)
        refine sq_pno rfl (by decide) (sq_pno rfl (by decide) (sq_pyes rfl (one_ret ?_)))
        refine rix rfl ha rfl (j := 1) rfl ⟨b, rfl, ⟨ys, SqT.of hb⟩, fun D nD => ?_⟩
        refine lc_it (walk_tup (K := K) (a := b) (xs := ys)) (fun i G => ∃ rs : List V, G D = some (.lst rs) ∧ Same H G ∧ DqA G rs (((ts.take i).map (shT a)).map tmD) ∧ rs.length = i) ⟨[], upd_same, same_new nD, .nil, rfl⟩ (fun _ _ _ ⟨_, _, sm, _⟩ => SqT.of (sm _ _ hb)) ?_ ?_
        · rintro i x _ G hi ⟨rs, hD, sm, qr, hrl⟩ ⟨rfl, hx⟩
          obtain ⟨d0, hd0, qd⟩ := qy.get hx
          rw [List.getElem?_map] at hd0
          obtain ⟨t, ht, rfl⟩ := Option.map_eq_some_iff.mp hd0
          have htm := List.mem_of_getElem? ht
          refine ⟨rfl, ?_⟩
          dsimp only [tYes]
          rw [if_pos rfl]
          refine ⟨x, rfl, .ref L, rfl, L, x, t, a, m, rfl, qd.up sm, sm _ _ hL, okTms_mem hok.2 t htm, by have := depL_le htm; omega, fun G1 r s1 h1 => ?_⟩
          have hD1 := s1 _ _ hD
          have tD : TS G1 (upd G1 D (.lst (rs ++ [r]))) := TS.lst hD1
          have fl : flatTA (((ts.take i).map (shT a)).map tmD) = true := by
            have := tms_flat ((ts.take i).map (shT a))
            rwa [tmDs_map] at this
          refine ⟨rs, hD1, szm (by omega), rs ++ [r], upd_same, fun e o he => ?_, ?_, by rw [List.length_append, hrl]; rfl⟩
          · rw [upd_ne (ne_of_none he nD)]
            exact s1 _ _ (sm _ _ he)
          · rw [List.take_add_one, ht, List.map_append, List.map_append]
            exact dqa_snoc (DqA.upT tD fl (qr.up s1)) (Dq.upT tD (tm_flat _) h1)
        · rintro G ⟨rs, hD, sm, qr, hrl⟩
          rw [hyl, List.take_length] at qr
          refine ⟨D, rs, rfl, .inl ⟨SqL.of hD, fun t nt => ⟨by show 2 ≤ sizeLine; decide, fun t2 nt2 => ?_⟩⟩⟩
          have s1 := same_new (o := .tup rs) nt
          have s2 := same_new (o := .tup [.str "row", .ref t]) nt2
          have s12 := s1.trans s2
          refine q _ _ (sm.trans s12) ?_
          simp only [shT, tmD]
          rw [tmDs_map, shTs_map]
          exact .tup upd_same (.cons (.str _) (.cons (.tup (s2 _ _ upd_same) (qr.up s12)) .nil))
end
end Kr
namespace Kr
open PySem PySem.Spec PyProof.Rows L2
local macro_rules | `(tactic| walk_at "bq") => `(tactic| repeat' (first | with_reducible refine bqa_nil ?_ | with_reducible refine bqa_cons ?_ | with_reducible refine bq_tup1 ?_ | with_reducible refine bq_tup2 ?_ | with_reducible refine bq_tup3 ?_ | with_reducible refine bq_str ?_ | with_reducible refine bq_c ?_ | with_reducible refine bn_c ?_ | with_reducible refine bn_op ?_))
theorem bn_lenT {K : PySem.W.Frag} {σ : L2.St} {j : Nat} {N : Int → Prop} {F : Addr} {us : List V} {G : Hp} (hv : σ[j]? = some (some (.ref F))) (hF : G F = some (.tup us)) (r : N (us.length : Int)) : Bn frS (tCB (fun xs H Q => ∃ p ys, xs = [V.ref p] ∧ (SqL K H p ys ∨ SqT K H p ys) ∧ Q (V.int (ys.length : Int)) H) (tCons (tVar j) tNil)) σ G N := fun G1 a b Q q =>
  ⟨_, hv, F, us, rfl, .inr (SqT.of (b _ _ hF)), q G1 _ a frS.refl r⟩
/-- two programs one behind the other -/
def joP (ps qs : List Tm) : List Tm := ps ++ qs.map (shT ps.length) ++ [.row [.part (ps.length - 1), .part (ps.length + qs.length - 1)]]
def bwP (ps : List Tm) : List Tm := ps ++ [.back (.part (ps.length - 1))]
def spBackward (CT : Addr) : Sp := fun vs H Q E => ∃ (v : V) (ps : List Tm), vs = [v] ∧ Dq H v (.tuple (ps.map tmD)) ∧ 0 < ps.length ∧ ps.length ≤ 400 ∧ (ps.length < 400 → ∀ H' r, Same H H' → Dq H' r (.tuple ((bwP ps).map tmD)) → Q r H') ∧ (400 ≤ ps.length → ∀ H' d, Same H H' → H' d = none → E (.ref CT) (some d) (upd H' d (.xd [(("limit" : Str), V.int 400)])))
def spJoined (CT : Addr) (n : Nat) : Sp := fun vs H Q E => ∃ (v u : V) (ps qs : List Tm), vs = [v, u] ∧ Dq H v (.tuple (ps.map tmD)) ∧ Dq H u (.tuple (qs.map tmD)) ∧ 0 < ps.length ∧ ps.length ≤ 400 ∧ PrOk (fun _ => True) 400 n qs ∧ (ps.length + qs.length < 400 → ∀ H' r, Same H H' → Dq H' r (.tuple ((joP ps qs).map tmD)) → Q r H') ∧ (400 ≤ ps.length + qs.length → ∀ H' d, Same H H' → H' d = none → E (.ref CT) (some d) (upd H' d (.xd [(("limit" : Str), V.int 400)])))
section
variable {P : Program} {w : World} {K : PySem.W.Frag} {mg : Str → Option Value} {base : Heap}
theorem f_backward {f : Addr} {fd : FuncData} {CT fI : Addr} (F : Fun K "backward" "backward" sBackward f fd) (B : Bi mg) (T : PySem.TooX.TooTxt K mg CT fI) (hM : ∃ t, mg "MAX_TERMS" = some (.int 400 t)) : FnOk P w K mg base (L2.CX P w) 2 f fd ["program"] (spBackward CT) := by
  obtain ⟨tM, gM⟩ := hM
  have sc : FnScope ["program"] ["program"] (defScope sBackward) := ⟨rfl, rfl, rfl, by decide +kernel, rfl, by decide +kernel, by decide +kernel⟩
  refine F.okX sc (fun vs H Q E h => ?_) (fun cdv A outer s H vs Q E hr h => ?_)
  · obtain ⟨_, _, rfl, _⟩ := h
    rfl
  · obtain ⟨v, ps, rfl, hv, h0, h4, q, qx⟩ := h
    refine ⟨_, pss_cons (ps_if (pt_cmpR op_ge (pe_callB call_len_seq (by rfl) B.len boot_len (pa_cons (pv 0) pa_nil)) (pe_glob (v := .int 400) (by rfl) gM ⟨_, rfl⟩) (nomark _)) (pss_one (ps_raiseToo rfl T hr (takes_of rfl rfl rfl rfl) (pa_cons (pe_glob (v := .int 400) (by rfl) gM ⟨_, rfl⟩) pa_nil))) pss_nil)
      (pss_one (ps_ret (pe_op op_catA (pv 0) (pe_tup (pa_cons (pe_tup (pa_cons pe_str (pa_cons (pe_tup (pa_cons pe_str (pa_cons (pe_op op_sub (pe_callB call_len_seq (by rfl) B.len boot_len (pa_cons (pv 0) pa_nil)) pe_int) pa_nil))) pa_nil))) pa_nil))))), ?_⟩
    obtain ⟨pa, ys, rfl, hpa, qy⟩ := hv.tup_inv
    have hyl := qy.len
    rw [List.length_map] at hyl
    refine sq_if ?_
    refine ⟨.ref pa, rfl, pa, ys, rfl, .inr (SqT.of hpa), _, _, rfl, rfl, _, rfl, ite2 (fun c => ?_) (fun c => ?_)⟩
    · have c1 : (400 : Int) ≤ (ys.length : Int) := of_decide_eq_true c
      exact ⟨_, rfl, fun d hd => qx (by omega) H d (Same.refl _) hd⟩
    · have c1 : ¬ (400 : Int) ≤ (ys.length : Int) := fun z => c (decide_eq_true z)
      dsimp only [tNext]
      refine one_ret ⟨.ref pa, rfl, ?_⟩
      refine bq_at (F := frS) (H := H) (R := fun d => d = .tuple [tmD (.back (.part (ps.length - 1)))]) ?_ trivial fun G1 w d _ s1 q1 f1 h1 => ?_
      · walk_at "bq"
        refine bq_op (bn_lenT rfl hpa (bn_c ?_))
        walk_at "bq"
        simp only [tmD]
        rw [show ((ys.length : Int) - 1) = ((ps.length - 1 : Nat) : Int) by omega]
      subst h1
      obtain ⟨c, zs, rfl, hc, qz⟩ := q1.tup_inv
      have hzl := qz.len
      have hzl : zs.length = 1 := hzl
      refine catA_k (s1 _ _ hpa) hc (by omega) fun z G2 s2 hz => q (by omega) G2 (.ref z) (Same.trans s1 s2) ?_
      unfold bwP
      rw [List.map_append]
      exact .tup hz ((qy.up (Same.trans s1 s2)).app (qz.up s2))
theorem f_joined {f : Addr} {fd : FuncData} {CT fI : Addr} {n : Nat} (F : Fun K "joined" "joined" sJoined f fd) (B : Bi mg) (T : PySem.TooX.TooTxt K mg CT fI) (hM : ∃ t, mg "MAX_TERMS" = some (.int 400 t)) (wp : Ok P w K mg base n "with_parts_at" ["term", "spots"] (spWpa n)) : FnOk P w K mg base (L2.CX P w) (n + 2) f fd ["one", "other"] (spJoined CT n) := by
  obtain ⟨tM, gM⟩ := hM
  have sc : FnScope ["one", "other", "many", "spots", "behind", "term"] ["one", "other"] (defScope sJoined) := ⟨rfl, rfl, rfl, by decide +kernel, rfl, by decide +kernel, by decide +kernel⟩
  refine F.okX sc (fun vs H Q E h => ?_) (fun cdv A outer s H vs Q E hr h => ?_)
  · obtain ⟨_, _, _, _, rfl, _⟩ := h
    rfl
  · obtain ⟨v, u, ps, qs, rfl, hv, hu, h0, h4, hq, q, qx⟩ := h
    have hr1 := hr.mono (show n ≤ n + 1 by omega)
    refine ⟨_, pss_cons (ps_set (i := 2) sc.nd rfl (.inl rfl) (pe_op op_add (pe_callB call_len_seq (by rfl) B.len boot_len (pa_cons (pv 0) pa_nil)) (pe_callB call_len_seq (by rfl) B.len boot_len (pa_cons (pv 1) pa_nil))))
      (pss_cons (ps_if (pt_cmpR op_ge (pv 2) (pe_glob (v := .int 400) (by rfl) gM ⟨_, rfl⟩) (nomark _)) (pss_one (ps_raiseToo rfl T hr (takes_of rfl rfl rfl rfl) (pa_cons (pe_glob (v := .int 400) (by rfl) gM ⟨_, rfl⟩) pa_nil))) pss_nil)
      (pss_cons (ps_set (i := 3) sc.nd rfl (.inr rfl) (pe_listRg rfl (by rfl) B.list (prg_2 (by rfl) B.range (pe_callB call_len_seq (by rfl) B.len boot_len (pa_cons (pv 0) pa_nil)) (pv 2))))
      (pss_cons (ps_set (i := 4) sc.nd rfl (.inl rfl) (pe_callTy call_tuple_of (by rfl) B.tuple (by decide +kernel) (pa_cons (pe_lc (own := [("term", 5)]) (g := gName 5) (tt := tYes) rfl sc.nd (pi_tup (pv 1)) (blkOk_by (own := [("term", 5)]) (N := ["one", "other", "many", "spots", "behind", "term"]) (sc := defScope sJoined) (by decide +kernel)) (fun _ _ _ _ _ => pg_name (i := 5) sc.nd rfl (.inl rfl)) (fun _ _ _ _ _ => pts_nil) (fun _ _ _ _ _ => (pe_fn wp hr1 (by rfl) (pa_cons (pv 5) (pa_cons (pv 3) pa_nil))))) pa_nil)))
      (pss_one (ps_ret (pe_op op_catA (pe_op op_catA (pv 0) (pv 4)) (pe_tup (pa_cons (pe_tup (pa_cons pe_str (pa_cons (pe_tup (pa_cons (pe_tup (pa_cons pe_str (pa_cons (pe_op op_sub (pe_callB call_len_seq (by rfl) B.len boot_len (pa_cons (pv 0) pa_nil)) pe_int) pa_nil))) (pa_cons (pe_tup (pa_cons pe_str (pa_cons (pe_op op_sub (pv 2) pe_int) pa_nil))) pa_nil))) pa_nil))) pa_nil)))))))), ?_⟩
    obtain ⟨pa, ys, rfl, hpa, qy⟩ := hv.tup_inv
    obtain ⟨pb, zs, rfl, hpb, qz⟩ := hu.tup_inv
    have hyl := qy.len
    rw [List.length_map] at hyl
    have hzl := qz.len
    rw [List.length_map] at hzl
    have hq4 := hq.len
    refine sq_asg ⟨.ref pa, rfl, pa, ys, rfl, .inr (SqT.of hpa), .ref pb, rfl, pb, zs, rfl, .inr (SqT.of hpb), _, _, rfl, rfl, ?_⟩
    refine sq_if ?_
    refine ⟨_, rfl, _, _, rfl, rfl, _, rfl, ite2 (fun c => ?_) (fun c => ?_)⟩
    · have c1 : (400 : Int) ≤ (ys.length : Int) + (zs.length : Int) := of_decide_eq_true c
      exact ⟨_, rfl, fun d hd => qx (by omega) H d (Same.refl _) hd⟩
    have c1 : ¬ (400 : Int) ≤ (ys.length : Int) + (zs.length : Int) := fun z => c (decide_eq_true z)
    dsimp only [tNext]
    refine sq_asg ⟨.ref pa, rfl, pa, ys, rfl, .inr (SqT.of hpa), _, rfl, _, _, rfl, rfl, RgOk.of_le (by omega) (by omega) (by omega) (by omega), fun L nL => ?_⟩
    have hrg : rgV (ys.length : Int) ((ys.length : Int) + (zs.length : Int)) = (List.range qs.length).map fun j : Nat => V.int ((ps.length + j : Nat) : Int) := by
      unfold rgV
      rw [show (((ys.length : Int) + (zs.length : Int)) - (ys.length : Int)).toNat = qs.length by omega]
      refine List.map_congr_left fun i _ => ?_
      rw [hyl]
      rfl
    rw [hrg]
    have sL := same_new (o := .lst ((List.range qs.length).map fun j : Nat => V.int ((ps.length + j : Nat) : Int))) nL
    have hL : upd H L (.lst ((List.range qs.length).map fun j : Nat => V.int ((ps.length + j : Nat) : Int))) L = some (.lst ((List.range qs.length).map fun j : Nat => V.int ((ps.length + j : Nat) : Int))) := upd_same
    generalize upd H L (.lst ((List.range qs.length).map fun j : Nat => V.int ((ps.length + j : Nat) : Int))) = G0 at sL hL
    refine sq_asg ⟨.ref pb, rfl, pb, rfl, ⟨zs, SqT.of (sL _ _ hpb)⟩, fun D nD => ?_⟩
    refine lc_it (walk_tup (K := K) (a := pb) (xs := zs)) (fun i G => ∃ rs : List V, G D = some (.lst rs) ∧ Same G0 G ∧ DqA G rs (((qs.take i).map (shT ps.length)).map tmD) ∧ rs.length = i) ⟨[], upd_same, same_new nD, .nil, rfl⟩ (fun _ _ _ ⟨_, _, sm, _⟩ => SqT.of (sm _ _ (sL _ _ hpb))) ?_ ?_
    · rintro i x _ G hi ⟨rs, hD, sm, qr, hrl⟩ ⟨rfl, hx⟩
      obtain ⟨d0, hd0, qd⟩ := qz.get hx
      rw [List.getElem?_map] at hd0
      obtain ⟨t, ht, rfl⟩ := Option.map_eq_some_iff.mp hd0
      obtain ⟨o1, o2⟩ := hq.tm i t ht
      have hil := (List.getElem?_eq_some_iff.mp ht).1
      refine ⟨rfl, ?_⟩
      dsimp only [tYes]
      rw [if_pos rfl]
      refine ⟨x, rfl, .ref L, rfl, L, x, t, ps.length, qs.length, rfl, qd.up (sL.trans sm), sm _ _ hL, okTm_mono (fun _ h => h) (Nat.le_refl _) (by omega) t o1, o2, fun G1 r s1 h1 => ?_⟩
      have hD1 := s1 _ _ hD
      have tD : TS G1 (upd G1 D (.lst (rs ++ [r]))) := TS.lst hD1
      have fl : flatTA (((qs.take i).map (shT ps.length)).map tmD) = true := by
        have := tms_flat ((qs.take i).map (shT ps.length))
        rwa [tmDs_map] at this
      refine ⟨rs, hD1, szm (by omega), rs ++ [r], upd_same, fun e o he => ?_, ?_, by rw [List.length_append, hrl]; rfl⟩
      · rw [upd_ne (ne_of_none he nD)]
        exact s1 _ _ (sm _ _ he)
      · rw [List.take_add_one, ht, List.map_append, List.map_append]
        exact dqa_snoc (DqA.upT tD fl (qr.up s1)) (Dq.upT tD (tm_flat _) h1)
    · rintro G ⟨rs, hD, sm, qr, hrl⟩
      rw [hzl, List.take_length] at qr
      refine ⟨D, rs, rfl, .inl ⟨SqL.of hD, fun t nt => ?_⟩⟩
      have st := same_new (o := .tup rs) nt
      have s0 := sL.trans (sm.trans st)
      have ht : upd G t (.tup rs) t = some (.tup rs) := upd_same
      have qr2 := qr.up st
      generalize upd G t (.tup rs) = G2 at st s0 ht qr2
      dsimp only
      refine one_ret ⟨.ref pa, rfl, .ref t, rfl, catA_k (s0 _ _ hpa) ht (by omega) fun z G3 s3 hz => ?_⟩
      refine bq_at (F := frS) (H := G3) (R := fun d => d = .tuple [tmD (.row [.part (ps.length - 1), .part (ps.length + qs.length - 1)])]) ?_ trivial fun G4 w d _ s4 q4 f4 h4 => ?_
      · walk_at "bq"
        refine bq_op (bn_lenT rfl (s3 _ _ (s0 _ _ hpa)) (bn_c ?_))
        walk_at "bq"
        refine bq_op (bn_var rfl (bn_c ?_))
        walk_at "bq"
        simp only [tmD, tmDs]
        rw [show ((ys.length : Int) - 1) = ((ps.length - 1 : Nat) : Int) by omega, show (((ys.length : Int) + (zs.length : Int)) - 1) = ((ps.length + qs.length - 1 : Nat) : Int) by omega]
      subst h4
      obtain ⟨c, cs, rfl, hc, qc⟩ := q4.tup_inv
      have hcl : cs.length = 1 := qc.len
      refine catA_k (s4 _ _ hz) hc (by rw [List.length_append]; omega) fun y G5 s5 hy => q (by omega) G5 (.ref y) (s0.trans (s3.trans (Same.trans s4 s5))) ?_
      unfold joP
      rw [List.map_append, List.map_append]
      exact .tup hy (((qy.up (s0.trans (s3.trans (Same.trans s4 s5)))).app (qr2.up (s3.trans (Same.trans s4 s5)))).app (qc.up s5))
end
end Kr
namespace Kr
open PySem PySem.Spec PyProof.Rows L2
section
variable {α : Type} {M : Mea α}
mutual
/-- a term moved on, over its own worths behind others -/
theorem worth_sh {D : Mv → Prop} {r k : Nat} {as bs : List α} (hk : k ≤ bs.length) : ∀ t : Tm, okTm D r k t → worth M (as ++ bs) (shT as.length t) = worth M bs t
  | .doo d, _ => by simp only [shT, worth]
  | .part j, h => by
    simp only [okTm] at h
    simp only [shT, worth]
    rw [List.getD_eq_getElem?_getD, List.getD_eq_getElem?_getD, List.getElem?_append_right (Nat.le_add_right _ _), Nat.add_sub_cancel_left]
  | .row ts, h => by
    simp only [okTm] at h
    simp only [shT, worth]
    rw [worthL_sh hk ts h.2]
  | .back t, h => by
    simp only [okTm] at h
    simp only [shT, worth]
    rw [worth_sh hk t h]
  | .times t c, h => by
    simp only [okTm] at h
    simp only [shT, worth]
    rw [worth_sh hk t h.2]
theorem worthL_sh {D : Mv → Prop} {r k : Nat} {as bs : List α} (hk : k ≤ bs.length) : ∀ ts : List Tm, okTms D r k ts → worthL M (as ++ bs) (shTs as.length ts) = worthL M bs ts
  | [], _ => by simp only [shTs, worthL]
  | t :: ts, h => by
    simp only [okTms] at h
    simp only [shTs, worthL]
    rw [worth_sh hk t h.1, worthL_sh hk ts h.2]
end
mutual
theorem dep_sh (a : Nat) : ∀ t : Tm, dep (shT a t) = dep t
  | .doo d => by simp only [shT, dep]
  | .part j => by simp only [shT, dep]
  | .row ts => by simp only [shT, dep]; rw [depL_sh a ts]
  | .back t => by simp only [shT, dep]; rw [dep_sh a t]
  | .times t c => by simp only [shT, dep]; rw [dep_sh a t]
theorem depL_sh (a : Nat) : ∀ ts : List Tm, depL (shTs a ts) = depL ts
  | [] => by simp only [shTs, depL]
  | t :: ts => by simp only [shTs, depL]; rw [dep_sh a t, depL_sh a ts]
end
mutual
theorem ok_sh {D : Mv → Prop} {r k : Nat} (a : Nat) : ∀ t : Tm, okTm D r k t → okTm D r (a + k) (shT a t)
  | .doo d, h => by simp only [shT, okTm] at *; exact h
  | .part j, h => by simp only [shT, okTm] at *; omega
  | .row ts, h => by
    simp only [shT, okTm] at *
    rw [shTs_map, List.length_map, ← shTs_map]
    exact ⟨h.1, oks_sh a ts h.2⟩
  | .back t, h => by simp only [shT, okTm] at *; exact ok_sh a t h
  | .times t c, h => by simp only [shT, okTm] at *; exact ⟨h.1, ok_sh a t h.2⟩
theorem oks_sh {D : Mv → Prop} {r k : Nat} (a : Nat) : ∀ ts : List Tm, okTms D r k ts → okTms D r (a + k) (shTs a ts)
  | [], _ => by simp only [shTs, okTms]
  | t :: ts, h => by simp only [shTs, okTms] at *; exact ⟨ok_sh a t h.1, oks_sh a ts h.2⟩
end
/-- the worths of terms moved on stand behind the others -/
theorem wsAll_sh {D : Mv → Prop} {r n : Nat} {qs : List Tm} (as : List α) (h : PrOk D r n qs) : ∀ i, i ≤ qs.length → wsAll M ((qs.take i).map (shT as.length)) as = as ++ wsAll M (qs.take i) []
  | 0, _ => by
    show as = as ++ []
    rw [List.append_nil]
  | i + 1, hi => by
    obtain ⟨t, ht⟩ : ∃ t, qs[i]? = some t := ⟨_, List.getElem?_eq_getElem (by omega)⟩
    have hl : (wsAll M (qs.take i) []).length = i := by rw [wsAll_len, List.length_take]; show 0 + _ = _; omega
    rw [List.take_add_one, ht]
    show wsAll M (((qs.take i) ++ [t]).map (shT as.length)) as = as ++ wsAll M (qs.take i ++ [t]) []
    rw [List.map_append, wsAll_app, wsAll_app, wsAll_sh as h i (by omega)]
    show (as ++ wsAll M (qs.take i) []) ++ [worth M (as ++ wsAll M (qs.take i) []) (shT as.length t)] = as ++ (wsAll M (qs.take i) [] ++ [worth M (wsAll M (qs.take i) []) t])
    rw [worth_sh (D := D) (r := r) (k := i) (by omega) t (h.tm i t ht).1, List.append_assoc]
end
theorem joP_ok {D : Mv → Prop} {n : Nat} {ps qs : List Tm} (h : PrOk D 400 n ps) (g : PrOk D 400 n qs) (hl : ps.length + qs.length < 400) (hn : 2 ≤ n) : PrOk D 400 n (joP ps qs) := by
  have h0 := h.ne
  have g0 := g.ne
  refine ⟨by unfold joP; simp; omega, by unfold joP; simp; omega, fun i t ht => ?_⟩
  unfold joP at ht
  rw [List.append_assoc] at ht
  rcases Nat.lt_or_ge i ps.length with c | c
  · rw [List.getElem?_append_left c] at ht
    exact h.tm i t ht
  · rw [List.getElem?_append_right c] at ht
    rcases Nat.lt_or_ge (i - ps.length) qs.length with e | e
    · rw [List.getElem?_append_left (by rw [List.length_map]; exact e), List.getElem?_map] at ht
      obtain ⟨u, hu, rfl⟩ := Option.map_eq_some_iff.mp ht
      obtain ⟨o1, o2⟩ := g.tm _ u hu
      refine ⟨?_, by rw [dep_sh]; exact o2⟩
      have := ok_sh ps.length u o1
      rwa [show ps.length + (i - ps.length) = i by omega] at this
    · rw [List.getElem?_append_right (by rw [List.length_map]; exact e), List.length_map] at ht
      match hj : i - ps.length - qs.length, ht with
      | 0, ht =>
        cases Option.some.inj ht
        exact ⟨by simp only [okTm, okTms]; exact ⟨by simp, by omega, by omega, trivial⟩, by simp only [dep, depL]; omega⟩
      | _ + 1, ht => simp at ht
/-- a program behind a program: one table after the other -/
theorem joP_tab {N n : Nat} (hN : N ≤ 6) {ps qs : List Tm} (h : PrOk (Deed N) 400 n ps) (g : PrOk (Deed N) 400 n qs) (hp : TabOk N (progW (tabM N) ps)) : progW (tabM N) (joP ps qs) = bothT N (progW (tabM N) ps) (progW (tabM N) qs) := by
  have h0 := h.ne
  have g0 := g.ne
  have hl : (wsAll (tabM N) ps []).length = ps.length := by rw [wsAll_len]; show 0 + _ = _; omega
  have gl : (wsAll (tabM N) qs []).length = qs.length := by rw [wsAll_len]; show 0 + _ = _; omega
  unfold joP
  rw [progW_snocT, wsAll_app]
  have e := wsAll_sh (M := tabM N) (wsAll (tabM N) ps []) g qs.length (Nat.le_refl _)
  rw [List.take_length, hl] at e
  rw [e]
  simp only [worth, worthL]
  have e1 : (wsAll (tabM N) ps [] ++ wsAll (tabM N) qs []).getD (ps.length - 1) ((tabM N).oR []) = progW (tabM N) ps := by
    rw [List.getD_eq_getElem?_getD, List.getElem?_append_left (by omega), ← List.getD_eq_getElem?_getD]
    exact ws_lastT _ h0
  have e2 : (wsAll (tabM N) ps [] ++ wsAll (tabM N) qs []).getD (ps.length + qs.length - 1) ((tabM N).oR []) = progW (tabM N) qs := by
    rw [List.getD_eq_getElem?_getD, List.getElem?_append_right (by omega), hl, show ps.length + qs.length - 1 - ps.length = qs.length - 1 by omega, ← List.getD_eq_getElem?_getD]
    exact ws_lastT _ g0
  rw [e1, e2]
  show bothT N (bothT N (stillT N) (progW (tabM N) ps)) (progW (tabM N) qs) = _
  rw [still_both hN hp]
theorem bwP_ok {D : Mv → Prop} {n : Nat} {ps : List Tm} (h : PrOk D 400 n ps) (hl : ps.length < 400) (hn : 2 ≤ n) : PrOk D 400 n (bwP ps) := h.snocT hl (by simp only [okTm]; have := h.ne; omega) (by simp only [dep]; omega)
theorem bwP_tab {N : Nat} {ps : List Tm} (h : 0 < ps.length) : progW (tabM N) (bwP ps) = turnT N (progW (tabM N) ps) := by
  unfold bwP
  rw [progW_snocT]
  simp only [worth]
  rw [ws_lastT _ h]
  rfl
end Kr
namespace Kr
open PySem PySem.Spec PyProof.Rows L2
theorem wt_intF {i : Int} {k : Nat} (h : i.natAbs < 2 ^ k) : (PyData.int i).weight ≤ k := by
  simp only [PyData.weight]
  split
  · omega
  · rename_i h0
    have h1 : i.natAbs ≠ 0 := fun z => h0 (by simp; omega)
    have : i.natAbs.log2 < k := (Nat.log2_lt h1).mpr h
    omega
theorem wt_natF {i k : Nat} (h : i < 2 ^ k) : (PyData.int (i : Int)).weight ≤ k := wt_intF (by rw [Int.natAbs_natCast]; exact h)
theorem wt_lotF {l : List Nat} (h : ∀ x ∈ l, x < 24) : (lotD l).weight ≤ 6 * l.length := by
  have : ∀ l : List Nat, (∀ x ∈ l, x < 24) → PyData.weightAll (l.map fun x : Nat => PyData.int (x : Int)) ≤ 6 * l.length := by
    intro l
    induction l with
    | nil => intro _; simp [PyData.weightAll]
    | cons x l ih =>
      intro h
      have h1 := wt_natF (i := x) (k := 5) (by have := h x List.mem_cons_self; omega)
      have h2 := ih fun y hy => h y (List.mem_cons_of_mem _ hy)
      simp only [List.map_cons, PyData.weightAll, List.length_cons]
      omega
  simp only [lotD, PyData.weight]
  exact this l h
theorem wt_deedF {n : Nat} (hn : n ≤ 24) {d : Mv} (h : Deed n d) : (deedD d).weight ≤ 150 := by
  have h1 := h.few
  have h2 := wt_lotF (l := d.1) fun x hx => by have := (h.asc.2 x hx).2; omega
  have h3 := h.ab
  have h4 := h.bn
  have h5 := wt_natF (i := d.2.1) (k := 5) (by omega)
  have h6 := wt_natF (i := d.2.2) (k := 5) (by omega)
  have e : (deedD d).weight = (lotD d.1).weight + 1 + ((PyData.int (d.2.1 : Int)).weight + 1 + ((PyData.int (d.2.2 : Int)).weight + 1)) := by
    simp only [deedD, PyData.weight, PyData.weightAll]
  omega
theorem five_pos (m : Nat) : 1 ≤ 5 ^ m := Nat.one_le_pow _ _ (by decide)
theorem five_le {a b : Nat} (h : a ≤ b) : 5 ^ a ≤ 5 ^ b := Nat.pow_le_pow_right (by decide) h
mutual
theorem wt_tmF {n k : Nat} (hn : n ≤ 24) (hk : k ≤ 400) : ∀ t : Tm, okTm (Deed n) 4 k t → (tmD t).weight + 2 ≤ 40 * 5 ^ dep t
  | .doo d, h => by
    simp only [okTm] at h
    have h1 := wt_deedF hn h
    have e : (tmD (.doo d)).weight = 2 + 1 + ((deedD d).weight + 1) := by
      simp only [tmD, PyData.weight, PyData.weightAll]
      rfl
    simp only [dep]
    omega
  | .part j, h => by
    simp only [okTm] at h
    have h1 := wt_natF (i := j) (k := 9) (by omega)
    have e : (tmD (.part j)).weight = 4 + 1 + ((PyData.int (j : Int)).weight + 1) := by
      simp only [tmD, PyData.weight, PyData.weightAll]
      rfl
    simp only [dep]
    omega
  | .row ts, h => by
    simp only [okTm] at h
    have h1 := wt_tmsF hn hk ts h.2
    have e : (tmD (.row ts)).weight = 3 + 1 + (PyData.weightAll (tmDs ts) + 1) := by
      simp only [tmD, PyData.weight, PyData.weightAll]
      rfl
    have h2 : ts.length * (40 * 5 ^ depL ts - 1) ≤ 4 * (40 * 5 ^ depL ts - 1) := Nat.mul_le_mul_right _ h.1
    have h3 := five_pos (depL ts)
    simp only [dep, Nat.pow_succ]
    omega
  | .back t, h => by
    simp only [okTm] at h
    have h1 := wt_tmF hn hk t h
    have e : (tmD (.back t)).weight = 4 + 1 + ((tmD t).weight + 1) := by
      simp only [tmD, PyData.weight, PyData.weightAll]
      rfl
    have h3 := five_pos (dep t)
    simp only [dep, Nat.pow_succ]
    omega
  | .times t m, h => by
    simp only [okTm] at h
    have h1 := wt_tmF hn hk t h.2
    have h2 := wt_natF (i := m) (k := 100) (Nat.lt_of_le_of_lt h.1 (by decide +kernel))
    have e : (tmD (.times t m)).weight = 5 + 1 + ((tmD t).weight + 1 + ((PyData.int (m : Int)).weight + 1)) := by
      simp only [tmD, PyData.weight, PyData.weightAll]
      rfl
    have h3 := five_pos (dep t)
    simp only [dep, Nat.pow_succ]
    omega
theorem wt_tmsF {n k : Nat} (hn : n ≤ 24) (hk : k ≤ 400) : ∀ ts : List Tm, okTms (Deed n) 4 k ts → PyData.weightAll (tmDs ts) ≤ ts.length * (40 * 5 ^ depL ts - 1)
  | [], _ => by simp [tmDs, PyData.weightAll]
  | t :: ts, h => by
    simp only [okTms] at h
    have h1 := wt_tmF hn hk t h.1
    have h2 := wt_tmsF hn hk ts h.2
    have h3 := five_le (Nat.le_max_left (dep t) (depL ts))
    have h4 := five_le (Nat.le_max_right (dep t) (depL ts))
    have h5 : ts.length * (40 * 5 ^ depL ts - 1) ≤ ts.length * (40 * 5 ^ max (dep t) (depL ts) - 1) := Nat.mul_le_mul_left _ (by omega)
    simp only [tmDs, PyData.weightAll, depL, List.length_cons, Nat.add_mul, Nat.one_mul]
    have h6 := five_pos (max (dep t) (depL ts))
    generalize 5 ^ max (dep t) (depL ts) = X at *
    generalize ts.length * (40 * X - 1) = Y at *
    omega
end
/-- programs of at most five terms, four deep, the first five deep -/
theorem prog_smT {n : Nat} (hn : n ≤ 24) {p : List Tm} (h : PrOk (Deed n) 4 5 p) (hd : ∀ (i : Nat) t, p[i]? = some t → 0 < i → dep t ≤ 4) (hl : p.length ≤ 5) : Sm 20 240000 (.tuple (p.map tmD)) := by
  have mem : ∀ t ∈ p, okTm (Deed n) 4 400 t ∧ dep t ≤ 5 := fun t ht => by
    obtain ⟨i, hi⟩ := List.getElem?_of_mem ht
    obtain ⟨a, b⟩ := h.tm i t hi
    have := (List.getElem?_eq_some_iff.mp hi).1
    exact ⟨okTm_mono (fun _ q => q) (Nat.le_refl _) (by omega) t a, b⟩
  have ok : okTms (Deed n) 4 400 p := okTms_of fun t ht => (mem t ht).1
  have low : lowT (.tuple (p.map tmD)) = true := by
    have := low_tms (n := n) (r := 4) (k := 400) (by omega) (Nat.le_refl _) p ok
    rw [tmDs_map] at this
    simpa only [lowT] using this
  obtain ⟨h1, h2, _, _⟩ := low_sm _ low
  refine ⟨h1, h2, ?_, ?_⟩
  · have h3 := tms_depth p
    have h4 : depL p ≤ 5 := depL_of fun t ht => (mem t ht).2
    rw [tmDs_map] at h3
    simp only [PyData.depth]
    omega
  · have few : ∀ ts : List Tm, (∀ t ∈ ts, okTm (Deed n) 4 400 t ∧ dep t ≤ 4) → PyData.weightAll (ts.map tmD) ≤ ts.length * 25000 := by
      intro ts
      induction ts with
      | nil => intro _; simp [PyData.weightAll]
      | cons t ts ih =>
        intro h
        obtain ⟨a, b⟩ := h t List.mem_cons_self
        have h1 := wt_tmF hn (Nat.le_refl _) t a
        have h2 := ih fun x hx => h x (List.mem_cons_of_mem _ hx)
        have h3 := five_le b
        simp only [List.map_cons, PyData.weightAll, List.length_cons, Nat.succ_mul]
        omega
    cases p with
    | nil => exact absurd h.ne (by simp)
    | cons t ts =>
      obtain ⟨a, b⟩ := mem t List.mem_cons_self
      have h3 := wt_tmF hn (Nat.le_refl _) t a
      have h4 := five_le b
      have h5 := few ts fun u hu => by
        obtain ⟨i, hi⟩ := List.getElem?_of_mem hu
        exact ⟨(mem u (List.mem_cons_of_mem _ hu)).1, hd (i + 1) u hi (Nat.succ_pos _)⟩
      simp only [PyData.weight, List.map_cons, PyData.weightAll, List.length_cons] at *
      omega
end Kr
namespace Kr
open PySem PySem.Spec PyProof.Rows L2
local macro_rules | `(tactic| walk_at "bq") => `(tactic| repeat' (first | with_reducible refine bqa_nil ?_ | with_reducible refine bqa_cons ?_ | with_reducible refine bq_tup1 ?_ | with_reducible refine bq_tup2 ?_ | with_reducible refine bq_tup3 ?_ | with_reducible refine bq_str ?_ | with_reducible refine bq_c ?_ | with_reducible refine bn_c ?_ | with_reducible refine bn_op ?_))
theorem sq_asgGT {te : TE} {g : TG} {u : L2.TS} {D : Ends} {σ : L2.St} {H : Hp} (h : te σ H fun v H1 => g v σ H1 fun σ2 H2 => u D σ2 H2) : tSeq (tAsg te g) u D σ H := h
theorem tup_fstT {te : TE} {ta : TA} {σ : L2.St} {H : Hp} {Q : VK} (h : te σ H fun v H1 => ta σ H1 fun vs H2 => (v :: vs).length ≤ sizeLine ∧ ∀ p, H2 p = none → Q (.ref p) (upd H2 p (.tup (v :: vs)))) : tTup (tCons te ta) σ H Q := h
theorem one_dropT {te : TE} {D : Ends} {σ : L2.St} {H : Hp} (h : te σ H fun _ H1 => D.nx σ H1) : tDrop te D σ H := h
theorem tabs_flat (Ts : List (List (List Int))) : flatTA (Ts.map tabD) = true := flatTA_of fun d hd => by
  obtain ⟨T, _, rfl⟩ := List.mem_map.mp hd
  exact tab_flat T
/-- the program, its parts' tables and sizes, as they grow -/
structure LB (N k0 : Nat) (p l FA P S : Addr) (pv : V) (ts : List Tm) (js : List Nat) (G : Hp) : Prop where
  FB : FarB p l FA js G
  nP : P ≠ p ∧ P ≠ l ∧ P ≠ FA
  nS : S ≠ p ∧ S ≠ l ∧ S ≠ FA
  PS : P ≠ S
  hP : ∃ us : List V, G P = some (.lst us) ∧ DqA G us ((wsAll (tabM N) ts []).map tabD)
  hS : G S = some (.lst ((wsAll cntM ts []).map fun a : Nat => V.int (a : Int)))
  qp : Dq G pv (.tuple (ts.map tmD))
  tm : ∀ (i : Nat) t, ts[i]? = some t → okTm (Deed N) 4 i t ∧ dep t ≤ 5 ∧ (0 < i → dep t ≤ 4)
  jl : js.length ≤ k0
  ct : ∀ a ∈ wsAll cntM ts [], a ≤ (12 ^ 5) ^ ts.length * (10 ^ 30) ^ (k0 - js.length)
section
variable {N k0 : Nat} {p l FA P S : Addr} {pv : V} {ts : List Tm} {js is : List Nat} {G G' : Hp}
theorem LB.far (h : LB N k0 p l FA P S pv ts js G) (F' : FarB p l FA is G') (hl : is.length ≤ js.length) (E : ExtF p l FA G G') : LB N k0 p l FA P S pv ts is G' := by
  obtain ⟨us, h1, h2⟩ := h.hP
  have t := h.FB.ts E
  refine ⟨F', h.nP, h.nS, h.PS, ⟨us, E _ _ h.nP.1 h.nP.2.1 h.nP.2.2 h1, DqA.upT t (tabs_flat _) h2⟩, E _ _ h.nS.1 h.nS.2.1 h.nS.2.2 h.hS, Dq.upT t (prog_flatG ts) h.qp, h.tm, Nat.le_trans hl h.jl, fun a ha => Nat.le_trans (h.ct a ha) (Nat.mul_le_mul_left _ (Nat.pow_le_pow_right (by decide +kernel) (by omega)))⟩
theorem LB.deck (h : LB N k0 p l FA P S pv ts js G) (D : Deck G' p l) (E : Ext p l G G') : LB N k0 p l FA P S pv ts js G' := h.far (h.FB.deck D E) (Nat.le_refl _) (ExtF.of E)
theorem LB.up (h : LB N k0 p l FA P S pv ts js G) (s : Same G G') : LB N k0 p l FA P S pv ts js G' := h.deck (h.FB.D.up s) (Ext.of s)
end
theorem LB.mut {N k0 : Nat} {p l FA P S A : Addr} {pv : V} {ts : List Tm} {js : List Nat} {G : Hp} {xs ys : List V} (h : LB N k0 p l FA P S pv ts js G) (n : A ≠ p ∧ A ≠ l ∧ A ≠ FA) (nP : A ≠ P) (nS : A ≠ S) (hA : G A = some (.lst xs)) : LB N k0 p l FA P S pv ts js (upd G A (.lst ys)) := by
  obtain ⟨us, h1, h2⟩ := h.hP
  have t : TS G (upd G A (.lst ys)) := TS.lst hA
  exact ⟨h.FB.mut n, h.nP, h.nS, h.PS, ⟨us, by rw [upd_ne nP.symm]; exact h1, DqA.upT t (tabs_flat _) h2⟩, by rw [upd_ne nS.symm]; exact h.hS, Dq.upT t (prog_flatG ts) h.qp, h.tm, h.jl, h.ct⟩
theorem atI_m1T {xs : List V} {y : V} (h : xs[xs.length - 1]? = some y) : atI xs (-1) = some y := by
  have hj := (List.getElem?_eq_some_iff.mp h).1
  have h1 := List.take_append_drop (xs.length - 1) xs
  rw [List.drop_eq_getElem_cons hj, List.drop_eq_nil_of_le (by omega)] at h1
  rw [List.getElem?_eq_getElem hj] at h
  rw [Option.some.inj h] at h1
  rw [← h1]
  exact atI_last _ _
def spLaw (K : PySem.W.Frag) : Sp := fun vs H Q _ => ∃ (a : Addr) (ns : List Int), vs = [.ref a] ∧ SqL K H a (ns.map V.int) ∧ ns.length ≤ 63 ∧ ∀ H', Q (.bl true) H'
section
variable {P : Program} {w : World} {K : PySem.W.Frag} {mg : Str → Option Value} {base : Heap}
variable {CT : Addr}
abbrev n_Law : List Str := ["script", "box", "seldom", "is_far", "n", "far", "turn", "program", "parts", "sizes", "at", "term", "some", "due", "known", "is_named", "told"]
theorem sc_Law : FnScope n_Law ["script"] (defScope sLaw) := ⟨rfl, rfl, rfl, by decide +kernel, rfl, by decide +kernel, by decide +kernel⟩
theorem ok_law {f : Addr} {fd : FuncData} (F : Fun K "law" "law" sLaw f fd) (B : Bi mg) (dk : Ok P w K mg base 1 "_law_box" ["script"] (spDeck K)) (dr : Ok P w K mg base 1 "_law_draw" ["box", "many"] spDraw) (gr : OkG P w K mg base 40 "_law_is_great" ["box"] spGreat) (ch : OkG P w K mg base 40 "_law_is_chained" ["box"] spGreat) (pk : Ok P w K mg base 2 "_law_pick" ["box", "items"] spPick) (fa : Ok P w K mg base 2 "_law_far" ["box"] spFar) (tm : Ok P w K mg base 7 "_law_term" ["box", "n", "at", "deep", "far"] (spTermT 4)) (tb : Ok P w K mg base 9 "_law_table_by" ["n", "parts", "term"] (spTabBy 5)) (my : Ok P w K mg base 5 "_law_many" ["sizes", "term"] (spMany 5)) (to : OkN P w K mg base 15 "table_of" ["n", "program"] ["program", "n"] (spTableOf 5)) (ln : Ok P w K mg base 8 "length" ["program"] (calmSp (spLength CT 5))) (tu : Ok P w K mg base 3 "_law_turned" ["n", "table"] spUndone) (af : Ok P w K mg base 3 "_law_after" ["n", "one", "other"] spBoth) (bw : Ok P w K mg base 2 "backward" ["program"] (calmSp (spBackward CT))) (jo : Ok P w K mg base 7 "joined" ["one", "other"] (calmSp (spJoined CT 5))) : FnG P w K mg base CX0 43 f fd ["script"] (spLaw K) := by
  refine okG F sc_Law (fun vs H Q E h => ?_) (fun cdv A outer s H vs Q E hg hr h => ?_)
  · obtain ⟨_, _, rfl, _⟩ := h
    rfl
  · obtain ⟨scr, ns, rfl, hS, hlen, q⟩ := h
    have hr_dk := hr.mono (show 1 ≤ 42 by omega)
    have hr_dr := hr.mono (show 1 ≤ 42 by omega)
    have hr_gr := hr.mono (show 40 ≤ 42 by omega)
    have hr_ch := hr.mono (show 40 ≤ 42 by omega)
    have hr_pk := hr.mono (show 2 ≤ 42 by omega)
    have hr_fa := hr.mono (show 2 ≤ 42 by omega)
    have hr_tm := hr.mono (show 7 ≤ 42 by omega)
    have hr_tb := hr.mono (show 9 ≤ 42 by omega)
    have hr_my := hr.mono (show 5 ≤ 42 by omega)
    have hr_to := hr.mono (show 15 ≤ 42 by omega)
    have hr_ln := hr.mono (show 8 ≤ 42 by omega)
    have hr_tu := hr.mono (show 3 ≤ 42 by omega)
    have hr_af := hr.mono (show 3 ≤ 42 by omega)
    have hr_bw := hr.mono (show 2 ≤ 42 by omega)
    have hr_jo := hr.mono (show 7 ≤ 42 by omega)
    have hu : (cxOf CX0 P w K mg base n_Law "law" (defScope sLaw) f cdv A outer s H E).A.units + 64 < cLine := hr.units
    have hu1 := hu_of hr
    have cr := call_repr (X := (cxOf CX0 P w K mg base n_Law "law" (defScope sLaw) f cdv A outer s H E).nox) hg hr.units
    refine ⟨_, pss_cons (ps_set (i := 1) sc_Law.nd rfl (.inr rfl) (pe_fn dk hr_dk (by rfl) (pa_cons (pv 0) pa_nil)))
      (pss_cons (ps_set (i := 2) sc_Law.nd rfl (.inl rfl) (pe_fn dr hr_dr (by rfl) (pa_cons (pv 1) (pa_cons pe_int pa_nil))))
      (pss_cons (ps_if (pt_cmpR op_lt (pv 2) pe_int (nomark _)) (pss_one (ps_ret (pe_ifExp (pt_cmpR op_eq (pv 2) pe_int (nomark _)) (pe_fnG gr hg hr_gr (by rfl) (pa_cons (pv 1) pa_nil)) (pe_fnG ch hg hr_ch (by rfl) (pa_cons (pv 1) pa_nil))))) pss_nil)
      (pss_cons (ps_set (i := 3) sc_Law.nd rfl (.inl rfl) (pe_cmpR op_eq (pe_fn dr hr_dr (by rfl) (pa_cons (pv 1) (pa_cons pe_int pa_nil))) pe_int (nomark _)))
      (pss_cons (ps_asg (pe_tup (pa_cons (pe_fn pk hr_pk (by rfl) (pa_cons (pv 1) (pa_cons (pe_ifExp (pt_val (pv 3)) (pe_lst (pa_cons pe_int (pa_cons pe_int (pa_cons pe_int pa_nil)))) (pe_lst (pa_cons pe_int (pa_cons pe_int (pa_cons pe_int (pa_cons pe_int (pa_cons pe_int (pa_cons pe_int pa_nil)))))))) pa_nil))) (pa_cons (pe_lst pa_nil) pa_nil))) (pg_tup rfl (pgs_cons (pg_name (i := 4) sc_Law.nd rfl (.inr rfl)) (pgs_cons (pg_name (i := 5) sc_Law.nd rfl (.inr rfl)) pgs_nil))))
      (pss_cons (ps_set (i := 4) sc_Law.nd rfl (.inr rfl) (pe_ifExp (PW.pt (pw_and (pt_not (pt_val (pv 3))) (pw_and1 (pt_cmpR op_eq (pe_fn dr hr_dr (by rfl) (pa_cons (pv 1) (pa_cons pe_int pa_nil))) pe_int (nomark _))))) pe_int (pv 4)))
      (pss_cons (ps_for PassesOwn.never rfl (pi_range1 (by rfl) B.range (pa_cons (pe_ifExp (pt_val (pv 3)) (pe_op op_add pe_int (pe_callTy call_int1 (by rfl) B.int (by decide +kernel) (pa_cons (pe_and (pe_cmpR op_eq (pv 4) pe_int (nomark _)) (pe_one (pe_cmpR op_eq (pe_fn dr hr_dr (by rfl) (pa_cons (pv 1) (pa_cons pe_int pa_nil))) pe_int (nomark _)))) pa_nil))) pe_int) pa_nil)) (pg_name (i := 6) sc_Law.nd rfl (.inl rfl))
        (pss_one (ps_expr (pe_bm PySem.F.plainAttrs_list PySem.F.slot_list_append PySem.F.type_list_append mt_append (pv 5) (pa_cons (pe_fn pk hr_pk (by rfl) (pa_cons (pv 1) (pa_cons (pe_lst (pa_cons (pe_op op_pow pe_int pe_int) (pa_cons (pe_op op_sub (pe_op op_pow pe_int pe_int) pe_int) (pa_cons (pe_op op_pow pe_int pe_int) (pa_cons (pe_fn fa hr_fa (by rfl) (pa_cons (pv 1) pa_nil)) (pa_cons (pe_fn fa hr_fa (by rfl) (pa_cons (pv 1) pa_nil)) pa_nil)))))) pa_nil))) pa_nil)))))
      (pss_cons (ps_par3 (i := 7) (j := 8) (l := 9) rfl sc_Law.nd rfl rfl rfl (by decide) (by decide) (by decide) rfl rfl rfl (pa_cons (pe_tup pa_nil) (pa_cons (pe_lst pa_nil) (pa_cons (pe_lst pa_nil) pa_nil))) (by rfl))
      (pss_cons (ps_for PassesOwn.never rfl (pi_range1 (by rfl) B.range (pa_cons (pe_op op_add pe_int (pe_fn dr hr_dr (by rfl) (pa_cons (pv 1) (pa_cons (pe_op op_sub pe_int (pv 4)) pa_nil)))) pa_nil)) (pg_name (i := 10) sc_Law.nd rfl (.inr rfl))
        (pss_cons (ps_set (i := 11) sc_Law.nd rfl (.inl rfl) (pe_fn tm hr_tm (by rfl) (pa_cons (pv 1) (pa_cons (pv 4) (pa_cons (pv 10) (pa_cons (pe_ix ix_list (pe_lst (pa_cons pe_int (pa_cons pe_int (pa_cons pe_int (pa_cons pe_int pa_nil))))) (pe_op op_sub (pv 4) pe_int) (fun _ _ => rfl)) (pa_cons (pv 5) pa_nil)))))))
        (pss_cons (ps_if (PW.pt (pw_and (pt_cmpR op_lt (pv 4) pe_int (nomark _)) (pw_and1 (pt_cmpR op_eq (pe_fn dr hr_dr (by rfl) (pa_cons (pv 1) (pa_cons pe_int pa_nil))) pe_int (nomark _))))) (pss_cons (ps_setLc (i := 12) (own := [("turn", 6)]) (g := gName 6) (tt := tYes) rfl sc_Law.nd rfl rfl (sw_true rfl rfl rfl (by decide +kernel)) (pi_range1 (by rfl) B.range (pa_cons (pe_op op_add pe_int (pe_fn dr hr_dr (by rfl) (pa_cons (pv 1) (pa_cons pe_int pa_nil)))) pa_nil)) (blkOk_by (own := [("turn", 6)]) (N := n_Law) (sc := defScope sLaw) (by decide +kernel)) (fun _ _ _ _ _ => pg_name (i := 6) sc_Law.nd rfl (.inl rfl)) (fun _ _ _ _ _ => pts_nil) (fun _ _ _ _ _ => (pe_fn tm hr_tm (by rfl) (pa_cons (pv 1) (pa_cons (pv 4) (pa_cons (pv 10) (pa_cons pe_int (pa_cons (pv 5) pa_nil))))))))
          (pss_one (ps_set (i := 11) sc_Law.nd rfl (.inl rfl) (pe_tup (pa_cons pe_str (pa_cons (pe_callTy call_tuple_of (by rfl) B.tuple (by decide +kernel) (pa_cons (pe_op op_cat (pv 12) (pe_lst (pa_cons (pe_ifExp (pt_cmpR op_gt (pv 10) pe_int (nomark _)) (pe_tup (pa_cons pe_str (pa_cons (pe_op op_sub (pv 10) pe_int) pa_nil))) (pv 11)) pa_nil))) pa_nil)) pa_nil)))))) pss_nil)
        (pss_cons (ps_set (i := 7) sc_Law.nd rfl (.inl rfl) (pe_op op_catA (pv 7) (pe_tup (pa_cons (pv 11) pa_nil))))
        (pss_cons (ps_expr (pe_bm PySem.F.plainAttrs_list PySem.F.slot_list_append PySem.F.type_list_append mt_append (pv 8) (pa_cons (pe_fn tb hr_tb (by rfl) (pa_cons (pv 4) (pa_cons (pv 8) (pa_cons (pv 11) pa_nil)))) pa_nil)))
        (pss_one (ps_expr (pe_bm PySem.F.plainAttrs_list PySem.F.slot_list_append PySem.F.type_list_append mt_append (pv 9) (pa_cons (pe_fn my hr_my (by rfl) (pa_cons (pv 9) (pa_cons (pv 11) pa_nil))) pa_nil)))))))))
      (pss_cons (ps_par3 (i := 13) (j := 14) (l := 15) rfl sc_Law.nd rfl rfl rfl (by decide) (by decide) (by decide) rfl rfl rfl (pa_cons (pe_ix ix_list (pv 8) (pe_un un_neg pe_int) (fun _ _ => rfl)) (pa_cons (pe_callB cr (by rfl) B.repr (by decide +kernel) (pa_cons (pv 7) pa_nil)) (pa_cons (pe_cmpR op_eq (pe_fn dr hr_dr (by rfl) (pa_cons (pv 1) (pa_cons pe_int pa_nil))) pe_int (nomark _)) pa_nil))) (by rfl))
      (pss_cons (ps_set (i := 16) sc_Law.nd rfl (.inl rfl) (pe_ifExp (pt_val (pv 15)) (pe_fnN to hr_to (by rfl) (pk_cons (pv 7) (pk_cons (pv 4) pk_nil))) (pe_fn to.ok hr_to (by rfl) (pa_cons (pv 4) (pa_cons (pv 7) pa_nil)))))
      (pss_cons (ps_if (PW.pt (pw_or (pt_cmpR op_ne (pe_callB cr (by rfl) B.repr (by decide +kernel) (pa_cons (pv 16) pa_nil)) (pe_callB cr (by rfl) B.repr (by decide +kernel) (pa_cons (pv 13) pa_nil)) (nomark _)) (pw_or (pt_cmpR op_ne (pe_callB cr (by rfl) B.repr (by decide +kernel) (pa_cons (pe_fn ln hr_ln (by rfl) (pa_cons (pv 7) pa_nil)) pa_nil)) (pe_callB cr (by rfl) B.repr (by decide +kernel) (pa_cons (pe_ix ix_list (pv 9) (pe_un un_neg pe_int) (fun _ _ => rfl)) pa_nil)) (nomark _)) (pw_or1 (pt_cmpR op_ne (pe_callB cr (by rfl) B.repr (by decide +kernel) (pa_cons (pv 7) pa_nil)) (pv 14) (nomark _)))))) (pss_one (ps_ret pe_bl)) pss_nil)
      (pss_cons (ps_if (PW.pt (pw_or (pt_val (pv 3)) (pw_or1 (pt_cmpR op_gt (pv 4) pe_int (nomark _))))) (pss_one (ps_ret (pe_or (pe_not (pv 3)) (pe_or (pe_cmpR op_gt (pv 4) pe_int (nomark _)) (pe_one (pe_cmpR op_eq (pe_callB cr (by rfl) B.repr (by decide +kernel) (pa_cons (pe_fn to.ok hr_to (by rfl) (pa_cons (pv 4) (pa_cons (pe_fn bw hr_bw (by rfl) (pa_cons (pv 7) pa_nil)) pa_nil))) pa_nil)) (pe_callB cr (by rfl) B.repr (by decide +kernel) (pa_cons (pe_fn tu hr_tu (by rfl) (pa_cons (pv 4) (pa_cons (pv 13) pa_nil))) pa_nil)) (nomark _))))))) pss_nil)
      (pss_cons (ps_if (pt_cmpR op_ne (pe_callB cr (by rfl) B.repr (by decide +kernel) (pa_cons (pe_fn to.ok hr_to (by rfl) (pa_cons (pv 4) (pa_cons (pe_fn bw hr_bw (by rfl) (pa_cons (pv 7) pa_nil)) pa_nil))) pa_nil)) (pe_callB cr (by rfl) B.repr (by decide +kernel) (pa_cons (pe_fn tu hr_tu (by rfl) (pa_cons (pv 4) (pa_cons (pv 13) pa_nil))) pa_nil)) (nomark _)) (pss_one (ps_ret pe_bl)) pss_nil)
      (pss_one (ps_ret (pe_cmpR op_eq (pe_callB cr (by rfl) B.repr (by decide +kernel) (pa_cons (pe_fn to.ok hr_to (by rfl) (pa_cons (pv 4) (pa_cons (pe_fn jo hr_jo (by rfl) (pa_cons (pv 7) (pa_cons (pv 7) pa_nil))) pa_nil))) pa_nil)) (pe_callB cr (by rfl) B.repr (by decide +kernel) (pa_cons (pe_fn af hr_af (by rfl) (pa_cons (pv 4) (pa_cons (pv 13) (pa_cons (pv 13) pa_nil)))) pa_nil)) (nomark _))))))))))))))))), ?_⟩
    refine sq_asg ⟨.ref scr, rfl, scr, ns, rfl, hS, Nat.le_trans hlen (by decide), fun H1 p l s1 np nl D1 => ?_⟩
    clear s1 np nl hS
    refine sq_asg ⟨.ref p, rfl, p, l, 12, rfl, D1, by decide, by decide, fun G2 r D2 E2 r0 r1 => ?_⟩
    refine sq_if ?_
    refine ⟨_, rfl, _, _, rfl, rfl, _, rfl, ite2 (fun c => ?_) (fun c => ?_)⟩
    · exact one_ret (if_eqcG ⟨_, rfl, rfl, _, rfl, ite2 (fun _ => ⟨.ref p, rfl, p, l, rfl, D2, fun G => q G⟩) (fun _ => ⟨.ref p, rfl, p, l, rfl, D2, fun G => q G⟩)⟩)
    clear c D1 E2
    dsimp only [tNext]
    refine sq_asg ⟨.ref p, rfl, p, l, 3, rfl, D2, by decide, by decide, fun G3 r3 D3 E3 _ _ => ⟨rfl, ?_⟩⟩
    clear D2 E3
    generalize decide (V.int r3 = V.int 0) = b
    refine sq_asgGT (tup_fstT ?_)
    refine ⟨.ref p, rfl, val_joinG (R := fun v G => ∃ (a : Addr) (ks : List Int), v = .ref a ∧ Deck G p l ∧ hid p l G a = some (.lst (ks.map V.int)) ∧ 0 < ks.length ∧ ks.length ≤ 6 ∧ ∀ k ∈ ks, 3 ≤ k ∧ k ≤ 5 ∧ (b = true → k ≤ 4)) (fun v G4 ⟨a, ks, e, D4, hk, k0, k6, hks⟩ => ?_) fun Q' kQ => ?_⟩
    rotate_left
    · refine ⟨.bl b, rfl, b, rfl, ?_⟩
      cases b with
      | true => exact iteT ⟨by show 3 ≤ sizeLine; decide, fun a na => kQ _ _ ⟨a, [3, 3, 4], rfl, D3.up (same_new na), hid_upd (D3.new na).1 (D3.new na).2, by decide, by decide, by decide⟩⟩
      | false => exact iteF ⟨by show 6 ≤ sizeLine; decide, fun a na => kQ _ _ ⟨a, [3, 4, 4, 4, 5, 5], rfl, D3.up (same_new na), hid_upd (D3.new na).1 (D3.new na).2, by decide, by decide, by decide⟩⟩
    subst e
    refine ⟨p, l, a, _, rfl, D4, .inl hk, by rw [List.length_map]; exact k0, by rw [List.length_map]; omega, fun G5 r5 v D5 E5 hv => ?_⟩
    obtain ⟨k, rfl, n3, n5, nb⟩ : ∃ k : Nat, v = .int (k : Int) ∧ 3 ≤ k ∧ k ≤ 5 ∧ (b = true → k ≤ 4) := by
      rw [List.getElem?_map] at hv
      obtain ⟨z, hz, rfl⟩ := Option.map_eq_some_iff.mp hv
      obtain ⟨a1, a2, a3⟩ := hks z (List.mem_of_getElem? hz)
      exact ⟨z.toNat, by rw [Int.toNat_of_nonneg (by omega)], by omega, by omega, fun hb => by have := a3 hb; omega⟩
    clear D4 hk hks E5 hv
    refine ⟨by show 0 ≤ sizeLine; decide, fun FA nFA => ⟨by show 2 ≤ sizeLine; decide, fun t nt => ⟨t, _, rfl, SqT.of upd_same, rfl, _, _, rfl, _, [], rfl, rfl, ?_⟩⟩⟩
    have F5 : FarB p l FA [] (upd G5 FA (.lst [])) := ⟨D5.up (same_new nFA), D5.new nFA, upd_same, fun _ h => nomatch h⟩
    have F6 := F5.up (same_new (o := .tup [.int (k : Int), .ref FA]) nt)
    generalize upd (upd G5 FA (.lst [])) t (.tup [.int (k : Int), .ref FA]) = G6 at F6
    clear F5 nt nFA D5
    dsimp only
    refine sq_asg (val_joinG (R := fun v G => ∃ N : Nat, v = .int (N : Int) ∧ 3 ≤ N ∧ N ≤ 6 ∧ FarB p l FA [] G) (fun v G7 ⟨N, e, N3, N6, F7⟩ => ?_) fun Q' kQ => ?_)
    rotate_left
    · refine ⟨.bl b, rfl, b, rfl, ?_⟩
      cases b with
      | true => exact iteF (iteF ⟨_, rfl, kQ _ _ ⟨k, rfl, n3, by omega, F6⟩⟩)
      | false => exact iteT ⟨.ref p, rfl, p, l, 12, rfl, F6.D, by decide, by decide, fun G r D E _ _ => ⟨rfl, _, rfl, ite2 (fun _ => kQ _ _ ⟨6, rfl, by decide, by decide, F6.deck D E⟩) (fun _ => ⟨_, rfl, kQ _ _ ⟨k, rfl, n3, by omega, F6.deck D E⟩⟩)⟩⟩
    subst e
    clear F6 n3 n5 nb
    refine sq_rng (bn_at (F := frD p l) (H := G7) (N := fun x => ∃ k : Nat, x = (k : Int) ∧ k ≤ 2) (bn_ifbG rfl (fun hb => bn_op (bn_c ?_)) (fun hb => bn_c ⟨0, rfl, by decide⟩)) F7.D fun G8 z D8 E8 hz => ?_)
    · refine fun G a r Q q => ⟨_, rfl, rfl, _, rfl, ite2 (fun _ => ⟨.ref p, rfl, p, l, 2, rfl, a, by decide, by decide, fun G9 r9 D9 E9 _ _ => ⟨rfl, .inr ⟨_, rfl, q G9 _ D9 E9 ?_⟩⟩⟩) (fun _ => .inr ⟨false, rfl, q G _ a (frD p l).refl ⟨1, rfl, by decide⟩⟩)⟩
      split
      · exact ⟨2, rfl, by decide⟩
      · exact ⟨1, rfl, by decide⟩
    obtain ⟨fn, rfl, hfn⟩ := hz
    have F8 := F7.deck D8 E8
    clear F7 D8 E8
    refine ⟨_, rfl, by omega, by omega, for_it (walk_rg (n := fn)) (fun i σ G => ∃ (v6 : Option V) (ks : List Nat), σ = [some (.ref scr), some (.ref p), some (.int r), some (.bl b), some (.int (N : Int)), some (.ref FA), v6, none, none, none, none, none, none, none, none, none, none] ∧ FarB p l FA ks G ∧ ks.length = i) ⟨_, [], rfl, F8, rfl⟩ (fun _ _ _ _ _ => trivial) ?_ ?_⟩
    · rintro i x σ _ G hi ⟨v6, ks, rfl, FG, hkl⟩ ⟨rfl, rfl⟩
      have e30 : (10 : Int) ^ (30 : Int).toNat = ((10 ^ 30 : Nat) : Int) := by decide +kernel
      have e18 : (10 : Int) ^ (18 : Int).toNat = ((10 ^ 18 : Nat) : Int) := by decide +kernel
      have e31 : (10 ^ 30 : Nat) = 1000000000000000000000000000000 := by decide +kernel
      refine one_dropT ⟨.ref FA, rfl, .inl ⟨rfl, _, SqL.of FG.hF⟩, ?_⟩
      refine bn_at (F := frD p l) (H := G) (N := fun x => ∃ c : Nat, x = (c : Int) ∧ c ≤ 10 ^ 30) (bn_pick (m := 4) rfl ?_) FG.D fun G9 x D9 E9 ⟨c, e, hc⟩ => ?_
      · walk_at "bq"
        refine bq_int (N := fun x => ∃ c : Nat, x = (c : Int) ∧ c ≤ 10 ^ 30) (bn_opC (bn_c (bn_c ⟨⟨by decide, by decide, by decide⟩, 10 ^ 30, e30, Nat.le_refl _⟩))) fun x hx => ?_
        walk_at "bq"
        refine bq_int (N := fun x => ∃ c : Nat, x = (c : Int) ∧ c ≤ 10 ^ 30) (bn_op (bn_opC (bn_c (bn_c ⟨⟨by decide, by decide, by decide⟩, bn_c ⟨10 ^ 30 - 1, by rw [e30, e31]; rfl, Nat.sub_le _ _⟩⟩)))) fun y hy => ?_
        walk_at "bq"
        refine bq_int (N := fun x => ∃ c : Nat, x = (c : Int) ∧ c ≤ 10 ^ 30) (bn_opC (bn_c (bn_c ⟨⟨by decide, by decide, by decide⟩, 10 ^ 18, e18, by decide +kernel⟩))) fun u hu => ?_
        walk_at "bq"
        refine bq_int (N := fun x => ∃ c : Nat, x = (c : Int) ∧ c ≤ 10 ^ 30) (bn_farG rfl fun x h0 h1 => ⟨x.toNat, by omega, by rw [e31]; omega⟩) fun z hz => ?_
        walk_at "bq"
        refine bq_int (N := fun x => ∃ c : Nat, x = (c : Int) ∧ c ≤ 10 ^ 30) (bn_farG rfl fun x h0 h1 => ⟨x.toNat, by omega, by rw [e31]; omega⟩) fun w hw => ?_
        walk_at "bq"
        intro d hd
        simp only [List.mem_cons, List.not_mem_nil, or_false] at hd
        rcases hd with rfl | rfl | rfl | rfl | rfl
        · exact ⟨_, rfl, hx⟩
        · exact ⟨_, rfl, hy⟩
        · exact ⟨_, rfl, hu⟩
        · exact ⟨_, rfl, hz⟩
        · exact ⟨_, rfl, hw⟩
      subst e
      have F9 := FG.deck D9 E9
      refine ⟨FA, _, .int (c : Int), rfl, rfl, F9.hF, szl (by rw [List.length_map]; omega), _, ks ++ [c], rfl, ⟨F9.D.mut F9.ap.1 F9.ap.2, F9.ap, by rw [upd_same, List.map_append]; rfl, fun k hk => ?_⟩, by rw [List.length_append, hkl]; rfl⟩
      rcases List.mem_append.mp hk with h | h
      · exact F9.le k h
      · rw [List.mem_singleton.mp h]; exact hc
    clear F8
    rintro σ G ⟨v6, ks, rfl, FG, hkl⟩
    dsimp only
    refine sq_par3T ⟨by show 0 ≤ sizeLine; decide, fun pg0 npg => ⟨by show 0 ≤ sizeLine; decide, fun P nP => ⟨by show 0 ≤ sizeLine; decide, fun S nS => ⟨_, _, _, rfl, ?_⟩⟩⟩⟩
    have L0 : LB N ks.length p l FA P S (.ref pg0) [] ks (upd (upd (upd G pg0 (.tup [])) P (.lst [])) S (.lst [])) := by
      have s1 := same_new (o := .tup []) npg
      have s2 := same_new (o := .lst []) nP
      have s3 := same_new (o := .lst []) nS
      have Fp := FG.up s1
      have FP := Fp.up s2
      have d1 := Fp.D.new nP
      have d2 := FP.D.new nS
      exact ⟨FP.up s3, ⟨d1.1, d1.2, (ne_of_none Fp.hF nP).symm⟩, ⟨d2.1, d2.2, (ne_of_none FP.hF nS).symm⟩, ne_of_none upd_same nS, ⟨[], s3 _ _ upd_same, .nil⟩, upd_same, .tup ((s2.trans s3) _ _ upd_same) .nil, fun i t h => by simp at h, Nat.le_refl _, fun a ha => by simp [wsAll] at ha⟩
    generalize upd (upd (upd G pg0 (.tup [])) P (.lst [])) S (.lst []) = GA at L0
    clear npg nP nS FG
    refine sq_rng (bn_at (F := frD p l) (H := GA) (N := fun x => ∃ k : Nat, x = (k : Int) ∧ 1 ≤ k ∧ k ≤ 5) (bn_op (bn_c (bn_draw rfl (bn_op (bn_c (bn_var rfl ⟨by omega, by omega, fun r h0 h1 => ⟨(2 + r).toNat, by omega, by omega, by omega⟩⟩)))))) L0.FB.D fun GB z DB EB hz => ?_)
    obtain ⟨tn, rfl, tn1, tn5⟩ := hz
    have L1 := L0.deck DB EB
    clear L0 DB EB
    obtain ⟨dd, dd2, dd4, hdd⟩ : ∃ dd : Nat, 2 ≤ dd ∧ dd ≤ 4 ∧ atI [V.int 4, .int 4, .int 2, .int 2] ((N : Int) - 3) = some (.int (dd : Int)) := by
      rcases (by omega : N = 3 ∨ N = 4 ∨ N = 5 ∨ N = 6) with rfl | rfl | rfl | rfl
      · exact ⟨4, by decide, by decide, rfl⟩
      · exact ⟨4, by decide, by decide, rfl⟩
      · exact ⟨2, by decide, by decide, rfl⟩
      · exact ⟨2, by decide, by decide, rfl⟩
    refine ⟨_, rfl, by omega, by omega, for_it (walk_rg (n := tn)) (fun i σ G => ∃ (v6 v10 v11 v12 : Option V) (pv : V) (ts : List Tm) (js : List Nat), σ = [some (.ref scr), some (.ref p), some (.int r), some (.bl b), some (.int (N : Int)), some (.ref FA), v6, some pv, some (.ref P), some (.ref S), v10, v11, v12, none, none, none, none] ∧ LB N ks.length p l FA P S pv ts js G ∧ ts.length = i) ⟨_, _, _, _, _, [], ks, rfl, L1, rfl⟩ (fun _ _ _ _ _ => trivial) ?_ ?_⟩
    · rintro i x σ _ G hi ⟨v6, v10, v11, v12, pv, ts, js, rfl, L, htl⟩ ⟨rfl, rfl⟩
      refine sq_asg ⟨.ref p, rfl, .int (N : Int), rfl, .int (i : Int), rfl, by show 4 ≤ sizeLine; decide, fun T nT => ?_⟩
      have L2 := L.up (same_new (o := .lst [V.int 4, .int 4, .int 2, .int 2]) nT)
      have jl := L.jl
      refine ⟨_, rfl, _, _, rfl, rfl, T, _, (N : Int) - 3, .int (dd : Int), rfl, rfl, SqL.of upd_same, hdd, .ref FA, rfl, p, l, FA, N, i, dd, js, rfl, L2.FB, by omega, N3, N6, by omega, by omega, by omega, fun GC tv t is FI hil XI qt ot dt ct => ?_⟩
      have LC := L2.far FI hil XI
      refine sq_if ?_
      refine joinC7 (c := tAnd _ _) (fun b' G => LB N ks.length p l FA P S pv ts is G ∧ Dq G tv (tmD t)) (fun b' GD ⟨LD, qtD⟩ => ?_) (fun Q' k => ?_)
      rotate_left
      · refine ⟨_, rfl, _, _, rfl, rfl, _, rfl, ite2 (fun c => ?_) (fun c => k _ _ ⟨LC, qt⟩)⟩
        exact ⟨.ref p, rfl, p, l, 2, rfl, LC.FB.D, by decide, by decide, fun G r D E _ _ => ⟨rfl, _, rfl, k _ _ ⟨LC.deck D E, Dq.upT (TS.deck LC.FB.D E) (tm_flat t) qt⟩⟩⟩
      clear LC L2 qt FI XI
      refine ifS_join (R := fun σ G => ∃ (v6 v12 : Option V) (v11 : V) (t' : Tm) (hs : List Nat), σ = [some (.ref scr), some (.ref p), some (.int r), some (.bl b), some (.int (N : Int)), some (.ref FA), v6, some pv, some (.ref P), some (.ref S), some (.int (i : Int)), some v11, v12, none, none, none, none] ∧ LB N ks.length p l FA P S pv ts hs G ∧ hs.length ≤ js.length ∧ Dq G v11 (tmD t') ∧ okTm (Deed N) 4 i t' ∧ dep t' ≤ 5 ∧ (0 < i → dep t' ≤ 4) ∧ CntT 5 (js.length - hs.length) t') ?_ (fun c D' kD => ?_) (fun c D' kD => kD _ _ ⟨_, _, tv, t, is, rfl, LD, hil, qtD, okTm_mono (fun _ h => h) (by decide) (Nat.le_refl _) t ot, by omega, fun _ => by omega, ct_mono ct (by omega) (Nat.le_refl _)⟩)
      rotate_left
      · refine sq_asg ⟨.ref p, rfl, p, l, 3, rfl, LD.FB.D, by decide, by decide, fun GE r2 DE EE h0 h1 => ⟨_, _, rfl, rfl, 1 + r2, rfl, by omega, by omega, fun A nA => ?_⟩⟩
        have LE := LD.deck DE EE
        have qtE := Dq.upT (TS.deck LD.FB.D EE) (tm_flat t) qtD
        have nA1 := DE.new nA
        have nAF : A ≠ FA := (ne_of_none LE.FB.hF nA).symm
        obtain ⟨pus, hpu, _⟩ := LE.hP
        have nAP : A ≠ P := (ne_of_none hpu nA).symm
        have nAS : A ≠ S := (ne_of_none LE.hS nA).symm
        have n3 : A ≠ p ∧ A ≠ l ∧ A ≠ FA := ⟨nA1.1, nA1.2, nAF⟩
        obtain ⟨m, hm, hm3⟩ : ∃ m : Nat, (1 + r2).toNat = m ∧ m ≤ 3 := ⟨_, rfl, by omega⟩
        rw [hm]
        have sA := same_new (o := .lst []) nA
        refine lc_it (walk_rg (n := m)) (fun c G => ∃ (us : List V) (xs : List Tm) (hs : List Nat), G A = some (.lst us) ∧ LB N ks.length p l FA P S pv ts hs G ∧ hs.length ≤ is.length ∧ us.length = c ∧ DqA G us (xs.map tmD) ∧ Dq G tv (tmD t) ∧ ∀ x ∈ xs, okTm (Deed N) 3 i x ∧ dep x ≤ 3 ∧ CntT 3 (is.length - hs.length) x) ⟨[], [], is, upd_same, LE.up sA, Nat.le_refl _, rfl, .nil, qtE.up sA, (fun _ h => nomatch h)⟩ (fun _ _ _ _ => trivial) ?_ ?_
        · rintro c x _ G hc ⟨us, xs, hs, hA, LG, hhl, hul, qu, qtG, hxs⟩ ⟨rfl, rfl⟩
          refine ⟨rfl, ?_⟩
          dsimp only [tYes]
          rw [if_pos rfl]
          refine ⟨.ref p, rfl, .int (N : Int), rfl, .int (i : Int), rfl, .ref FA, rfl, p, l, FA, N, i, 3, hs, rfl, LG.FB, by omega, N3, N6, by omega, by decide, by decide, fun GF v y gs FF hgl XF qy oy dy cy => ?_⟩
          have LF := LG.far FF hgl XF
          have hAF := XF _ _ n3.1 n3.2.1 n3.2.2 hA
          have tF := LG.FB.ts XF
          have tA : TS GF (upd GF A (.lst (us ++ [v]))) := TS.lst hAF
          have fl : flatTA (xs.map tmD) = true := by
            have := tms_flat xs
            rwa [tmDs_map] at this
          refine ⟨us, hAF, szm (by omega), us ++ [v], xs ++ [y], gs, upd_same, LF.mut n3 nAP nAS hAF, by omega, by rw [List.length_append, hul]; rfl, ?_, Dq.upT tA (tm_flat t) (Dq.upT tF (tm_flat t) qtG), fun z hz => ?_⟩
          · rw [List.map_append]
            exact dqa_snoc (DqA.upT tA fl (DqA.upT tF fl qu)) (Dq.upT tA (tm_flat y) qy)
          · rcases List.mem_append.mp hz with h | h
            · obtain ⟨a1, a2, a3⟩ := hxs z h
              exact ⟨a1, a2, ct_mono a3 (Nat.le_refl _) (by omega)⟩
            · rw [List.mem_singleton.mp h]
              exact ⟨oy, dy, ct_mono cy (Nat.le_refl _) (by omega)⟩
        · rintro G ⟨us, xs, hs, hA, LG, hhl, hul, qu, qtG, hxs⟩
          have hxl : xs.length = m := by have := qu.len; rw [List.length_map] at this; omega
          refine one_asg ⟨.ref A, rfl, val_joinG (R := fun v G2 => ∃ z, Same G G2 ∧ Dq G2 v (tmD z) ∧ okTm (Deed N) 3 i z ∧ dep z ≤ 4 ∧ (0 < i → dep z ≤ 3) ∧ CntT 4 (js.length - is.length) z) (fun v G2 ⟨z, s2, qz, oz, dz, dz3, cz⟩ => ?_) fun Q' kQ => ?_⟩
          rotate_left
          · refine ⟨_, rfl, _, _, rfl, rfl, _, rfl, ite2 (fun c0 => ?_) (fun c0 => ?_)⟩
            · have hi0 : (0 : Int) < (i : Int) := of_decide_eq_true c0
              refine bq_at (F := frS) (H := G) (R := fun d => d = tmD (.part (i - 1))) ?_ trivial fun G2 v d _ s2 q2 f2 h2 => kQ _ _ ⟨.part (i - 1), s2, h2 ▸ q2, by simp only [okTm]; omega, by simp only [dep]; omega, fun _ => by simp only [dep]; omega, ct_mono ct_part (Nat.le_refl _) (Nat.zero_le _)⟩
              walk_at "bq"
              refine bq_op (bn_var rfl (bn_c ?_))
              walk_at "bq"
              simp only [tmD]
              rw [show ((i : Int) - 1) = ((i - 1 : Nat) : Int) by omega]
            · have hi0 : ¬ (0 : Int) < (i : Int) := fun z => c0 (decide_eq_true z)
              exact ⟨tv, rfl, kQ _ _ ⟨t, Same.refl _, qtG, ot, by omega, fun z => by omega, ct_mono ct dd4 (Nat.le_refl _)⟩⟩
          refine ⟨by show 1 ≤ sizeLine; decide, fun U nU => ?_⟩
          have sU := same_new (o := .lst [v]) nU
          refine ⟨A, U, us, [v], rfl, rfl, sU _ _ (s2 _ _ hA), upd_same, Nat.le_of_lt (szm (by show us.length + 1 ≤ 100000; omega)), fun W nW => ⟨W, _, rfl, .inl ⟨SqL.of upd_same, fun t1 n1 => ⟨by show 2 ≤ sizeLine; decide, fun t2 n2 => ?_⟩⟩⟩⟩
          have sW := same_new (o := .lst (us ++ [v])) nW
          have u1 := same_new (o := .tup (us ++ [v])) n1
          have u2 := same_new (o := .tup [.str "row", .ref t1]) n2
          have u12 := u1.trans u2
          have s3 := sU.trans (sW.trans u12)
          have s4 := s2.trans s3
          refine kD _ _ ⟨_, _, .ref t2, .row (xs ++ [z]), hs, rfl, LG.up s4, by omega, ?_, ?_, ?_, fun hi0 => ?_, ?_⟩
          · simp only [tmD]
            rw [tmDs_map, List.map_append]
            exact .tup upd_same (.cons (.str _) (.cons (.tup (u2 _ _ upd_same) ((qu.up s4).app (.cons (qz.up s3) .nil))) .nil))
          · simp only [okTm]
            refine ⟨by rw [List.length_append]; show xs.length + 1 ≤ 4; omega, okTms_of fun y hy => ?_⟩
            rcases List.mem_append.mp hy with h | h
            · exact okTm_mono (fun _ h => h) (by decide) (Nat.le_refl _) y (hxs y h).1
            · rw [List.mem_singleton.mp h]; exact okTm_mono (fun _ h => h) (by decide) (Nat.le_refl _) z oz
          · simp only [dep]
            have := depL_of (m := 4) (ts := xs ++ [z]) fun y hy => by
              rcases List.mem_append.mp hy with h | h
              · exact Nat.le_trans (hxs y h).2.1 (by decide)
              · rw [List.mem_singleton.mp h]; exact dz
            omega
          · simp only [dep]
            have := depL_of (m := 3) (ts := xs ++ [z]) fun y hy => by
              rcases List.mem_append.mp hy with h | h
              · exact (hxs y h).2.1
              · rw [List.mem_singleton.mp h]; exact dz3 hi0
            omega
          · refine ct_row (d := 4) (fun y hy => ?_) (by rw [List.length_append]; show xs.length + 1 ≤ 12; omega)
            rcases List.mem_append.mp hy with h | h
            · exact ct_mono (hxs y h).2.2 (by decide) (by omega)
            · rw [List.mem_singleton.mp h]; exact ct_mono cz (Nat.le_refl _) (by omega)
      clear LD qtD
      rintro σ GH ⟨v6', v12', v11', t', hs, rfl, LH, hhs, q11, o11, d11, d11', c11⟩
      dsimp only
      have htw : (wsAll (tabM N) ts []).length = ts.length := by rw [wsAll_len]; show 0 + _ = _; omega
      have hcw : (wsAll cntM ts []).length = ts.length := by rw [wsAll_len]; show 0 + _ = _; omega
      have okW : ∀ T ∈ wsAll (tabM N) ts [], TabOk N T := fun T hT => by
        rcases Nat.eq_zero_or_pos ts.length with z | z
        · rw [List.eq_nil_of_length_eq_zero z] at hT
          simp [wsAll] at hT
        · have := wsAll_ok (tabR N N6) (n := 5) (p := ts) ⟨z, by omega, fun j u hu => ⟨okTm_mono (fun _ h => h) (show 4 ≤ 400 by decide) (Nat.le_refl _) u (LH.tm j u hu).1, (LH.tm j u hu).2.1⟩⟩ ts.length (Nat.le_refl _)
          rw [List.take_length] at this
          exact this T hT
      obtain ⟨pa, ys, epa, hpa, qpa⟩ := LH.qp.tup_inv
      have hyl := qpa.len
      rw [List.length_map] at hyl
      refine sq_asg ⟨pv, rfl, v11', rfl, by show 1 ≤ sizeLine; decide, fun t1 n1 => ?_⟩
      have s1 := same_new (o := .tup [v11']) n1
      rw [epa]
      refine catA_k (s1 _ _ hpa) upd_same (by rw [hyl]; show ts.length + 1 ≤ 100000; omega) fun z G4 s2 hz => ?_
      have s12 := s1.trans s2
      have L4 := LH.up s12
      have q4 := q11.up s12
      have qz4 : Dq G4 (.ref z) (.tuple ((ts ++ [t']).map tmD)) := by
        rw [List.map_append]
        exact .tup hz ((qpa.up s12).app (.cons q4 .nil))
      obtain ⟨us, hP4, qP4⟩ := L4.hP
      have hul : us.length = ts.length := by rw [qP4.len, List.length_map, htw]
      refine sq_drop ⟨.ref P, rfl, .inl ⟨rfl, us, SqL.of hP4⟩, .int (N : Int), rfl, .ref P, rfl, v11', rfl, N, P, v11', t', wsAll (tabM N) ts [], rfl, N3, N6, ⟨⟨us, hP4, qP4⟩, okW⟩, q4, d11, by rw [htw, htl]; exact okTm_mono (fun _ h => h) (by decide) (Nat.le_refl _) t' o11, fun G5 r5 s5 h5 => ?_⟩
      have L5 := L4.up s5
      have hP5 := s5 _ _ hP4
      have tP : TS G5 (upd G5 P (.lst (us ++ [r5]))) := TS.lst hP5
      refine ⟨P, us, r5, rfl, rfl, hP5, szl (by omega), ?_⟩
      have hP6 : upd G5 P (.lst (us ++ [r5])) P = some (.lst (us ++ [r5])) := upd_same
      have qP6 : DqA (upd G5 P (.lst (us ++ [r5]))) (us ++ [r5]) ((wsAll (tabM N) (ts ++ [t']) []).map tabD) := by
        rw [wsAll_app]
        show DqA _ (us ++ [r5]) ((wsAll (tabM N) ts [] ++ [worth (tabM N) (wsAll (tabM N) ts []) t']).map tabD)
        rw [List.map_append]
        exact dqa_snoc (DqA.upT tP (tabs_flat _) (qP4.up s5)) (Dq.upT tP (tab_flat _) h5)
      have F6 := L5.FB.mut (o := .lst (us ++ [r5])) L5.nP
      have hS6 : upd G5 P (.lst (us ++ [r5])) S = some (.lst ((wsAll cntM ts []).map fun a : Nat => V.int (a : Int))) := by rw [upd_ne L5.PS.symm]; exact L5.hS
      have q6 := Dq.upT tP (tm_flat t') (q4.up s5)
      have qz6 := Dq.upT tP (prog_flatG _) (qz4.up s5)
      generalize upd G5 P (.lst (us ++ [r5])) = G6 at hP6 qP6 F6 hS6 q6 qz6
      have hbd : ∀ a ∈ wsAll cntM ts [], a < 2 ^ 300 := fun a ha => by
        refine Nat.lt_of_le_of_lt (Nat.le_trans (LH.ct a ha) (Nat.mul_le_mul (Nat.pow_le_pow_right (by decide) (show ts.length ≤ 5 by omega)) (Nat.pow_le_pow_right (by decide +kernel) (show ks.length - hs.length ≤ 2 by omega)))) ?_
        decide +kernel
      refine one_drop ⟨.ref S, rfl, .inl ⟨rfl, _, SqL.of hS6⟩, .ref S, rfl, v11', rfl, S, v11', t', wsAll cntM ts [], 300, rfl, hS6, q6, d11, by rw [hcw, htl]; exact okTm_mono (fun _ _ => trivial) (by decide) (Nat.le_refl _) t' o11, hbd, by decide, fun G7 s7 => ?_⟩
      have hS7 := s7 _ _ hS6
      have tS : TS G7 (upd G7 S (.lst (((wsAll cntM ts []).map fun a : Nat => V.int (a : Int)) ++ [.int ((worth cntM (wsAll cntM ts []) t' : Nat) : Int)]))) := TS.lst hS7
      refine ⟨S, _, _, rfl, rfl, hS7, szl (by rw [List.length_map]; omega), _, _, _, _, .ref z, ts ++ [t'], hs, rfl, ⟨(F6.up s7).mut LH.nS, LH.nP, LH.nS, LH.PS, ⟨us ++ [r5], by rw [upd_ne LH.PS]; exact s7 _ _ hP6, DqA.upT tS (tabs_flat _) (qP6.up s7)⟩, ?_, Dq.upT tS (prog_flatG _) (qz6.up s7), fun j u hu => ?_, LH.jl, fun a ha => ?_⟩, by rw [List.length_append, htl]; rfl⟩
      · rw [upd_same, wsAll_app]
        show _ = some (HO.lst ((wsAll cntM ts [] ++ [worth cntM (wsAll cntM ts []) t']).map fun a : Nat => V.int (a : Int)))
        rw [List.map_append]
        rfl
      · rcases Nat.lt_trichotomy j ts.length with c | c | c
        · rw [List.getElem?_append_left c] at hu
          exact LH.tm j u hu
        · subst c
          rw [List.getElem?_append_right (Nat.le_refl _), Nat.sub_self] at hu
          cases Option.some.inj hu
          rw [htl]
          exact ⟨o11, d11, d11'⟩
        · rw [List.getElem?_eq_none (by rw [List.length_append]; show _ + 1 ≤ _; omega)] at hu
          cases hu
      · rw [wsAll_app] at ha
        have ha : a ∈ wsAll cntM ts [] ++ [worth cntM (wsAll cntM ts []) t'] := ha
        rw [List.length_append, List.length_singleton]
        rcases List.mem_append.mp ha with h | h
        · exact Nat.le_trans (LH.ct a h) (Nat.mul_le_mul_right _ (Nat.pow_le_pow_right (by decide) (Nat.le_succ _)))
        · rw [List.mem_singleton.mp h]
          have h12 : 1 ≤ (12 ^ 5) ^ ts.length * (10 ^ 30) ^ (ks.length - js.length) := Nat.mul_pos (Nat.pow_pos (by decide)) (Nat.pow_pos (by decide +kernel))
          refine Nat.le_trans (c11 _ _ h12 fun a ha => L.ct a ha) ?_
          have e : ks.length - hs.length = (ks.length - js.length) + (js.length - hs.length) := by have := L.jl; omega
          rw [e, Nat.pow_add (10 ^ 30), Nat.pow_succ (12 ^ 5)]
          refine Nat.le_of_eq ?_
          ac_rfl
    · rintro σ G ⟨v6, v10, v11, v12, pv, ts, js, rfl, L, htl⟩
      dsimp only
      have h0 : 0 < ts.length := by omega
      have pr4 : PrOk (Deed N) 4 5 ts := ⟨h0, by omega, fun j u hu => ⟨(L.tm j u hu).1, (L.tm j u hu).2.1⟩⟩
      have pr5 : PrOk (Deed N) 400 5 ts := ⟨h0, by omega, fun j u hu => ⟨okTm_mono (fun _ h => h) (show 4 ≤ 400 by decide) (Nat.le_refl _) u (L.tm j u hu).1, (L.tm j u hu).2.1⟩⟩
      have prT : PrOk (fun _ => True) 400 5 ts := ⟨h0, by omega, fun j u hu => ⟨okTm_mono (fun _ _ => trivial) (show 4 ≤ 400 by decide) (Nat.le_refl _) u (L.tm j u hu).1, (L.tm j u hu).2.1⟩⟩
      have smP := prog_smT (show N ≤ 24 by omega) pr4 (fun j u hu => (L.tm j u hu).2.2) (by omega)
      have htw : (wsAll (tabM N) ts []).length = ts.length := by rw [wsAll_len]; show 0 + _ = _; omega
      have hcw : (wsAll cntM ts []).length = ts.length := by rw [wsAll_len]; show 0 + _ = _; omega
      have elT : (wsAll (tabM N) ts [])[ts.length - 1]? = some (progW (tabM N) ts) := by
        rw [← ws_lastT (tabM N) h0, List.getD_eq_getElem?_getD, List.getElem?_eq_getElem (by omega)]
        rfl
      have elC : (wsAll cntM ts [])[ts.length - 1]? = some (progW cntM ts) := by
        rw [← ws_lastT cntM h0, List.getD_eq_getElem?_getD, List.getElem?_eq_getElem (by omega)]
        rfl
      have okX : TabOk N (progW (tabM N) ts) := by
        have := wsAll_ok (tabR N N6) (n := 5) (p := ts) pr5 ts.length (Nat.le_refl _)
        rw [List.take_length] at this
        exact this _ (List.mem_of_getElem? elT)
      have smX := sm_tab N6 okX
      have hcl : progW cntM ts ≤ (12 ^ 5) ^ 5 * (10 ^ 30) ^ 2 := Nat.le_trans (L.ct _ (List.mem_of_getElem? elC)) (Nat.mul_le_mul (Nat.pow_le_pow_right (by decide) (show ts.length ≤ 5 by omega)) (Nat.pow_le_pow_right (by decide +kernel) (show ks.length - js.length ≤ 2 by omega)))
      have hcL : progW cntM ts ≤ lim := Nat.le_trans hcl (by unfold lim; decide +kernel)
      have hlen : progW lenM ts = progW cntM ts := by
        have := rel_len.progW prT
        omega
      obtain ⟨us, hP, qP⟩ := L.hP
      have hul : us.length = ts.length := by rw [qP.len, List.length_map, htw]
      obtain ⟨y, hy, qy⟩ : ∃ y, us[us.length - 1]? = some y ∧ Dq G y (tabD (progW (tabM N) ts)) := by
        obtain ⟨y, hy⟩ : ∃ y, us[us.length - 1]? = some y := ⟨_, List.getElem?_eq_getElem (by omega)⟩
        obtain ⟨d, hd, qd⟩ := qP.get hy
        rw [List.getElem?_map, hul, elT] at hd
        cases Option.some.inj hd
        exact ⟨y, hy, qd⟩
      refine sq_par3T ⟨.ref P, rfl, _, rfl, P, us, -1, y, rfl, rfl, SqL.of hP, atI_m1T hy, pv, rfl, ?_⟩
      dsimp only [tNil]
      refine repr_x L.qp smP (by decide) (by decide) fun kx hkx => ⟨.ref p, rfl, p, l, 2, rfl, L.FB.D, by decide, by decide, fun G2 r9 D2 E2 _ _ => ⟨rfl, _, _, _, rfl, ?_⟩⟩
      have LZ := L.deck D2 E2
      have qy2 := Dq.upT (TS.deck L.FB.D E2) (tab_flat _) qy
      have qp2 := LZ.qp
      have hS2 := LZ.hS
      clear L E2 qy hP qP D2
      generalize decide (V.int r9 = V.int 0) = b9
      refine sq_asg (val_joinG (R := fun v G3 => Same G2 G3 ∧ Dq G3 v (tabD (progW (tabM N) ts))) (fun tl G3 ⟨s3, q3⟩ => ?_) fun Q' k => ?_)
      rotate_left
      · refine ⟨.bl b9, rfl, b9, rfl, ?_⟩
        cases b9 with
        | true => exact iteT ⟨pv, rfl, _, rfl, rfl, pv, ts, N, rfl, N6, qp2, pr5, fun GE r sE hr => k _ _ ⟨sE, hr⟩⟩
        | false => exact iteF ⟨_, rfl, pv, rfl, pv, ts, N, rfl, N6, qp2, pr5, fun GE r sE hr => k _ _ ⟨sE, hr⟩⟩
      refine sq_if ?_
      refine joinC7 (c := tOr _ _) (fun b' G => b' = false ∧ Same G2 G) (fun b' G4 ⟨e4, s4⟩ => ?_) (fun Q' k => ?_)
      rotate_left
      · refine ne_repr ⟨tl, rfl, ?_⟩
        dsimp only [tNil]
        refine repr_x q3 smX (by decide) (by decide) fun x1 hx1 => ⟨y, rfl, ?_⟩
        refine repr_ne hx1 (qy2.up s3) smX (by decide) (by decide) (iteF ?_)
        refine ne_repr ⟨pv, rfl, pv, ts, rfl, qp2.up s3, prT, fun hle GF sF => ?_, fun hlt => absurd hlt (by rw [hlen]; omega)⟩
        rw [hlen]
        have smC : SmB 1 1010 (.int ((progW cntM ts : Nat) : Int)) := SmB.int (by rw [Int.natAbs_natCast]; exact Nat.lt_of_le_of_lt hcl (by decide +kernel))
        refine repr_xB (.int _) smC (by decide) (by decide) fun x2 hx2 => ⟨.ref S, rfl, _, rfl, S, _, -1, .int ((progW cntM ts : Nat) : Int), rfl, rfl, SqL.of (sF _ _ (s3 _ _ hS2)), atI_m1T (by rw [List.length_map, hcw, List.getElem?_map, elC]; rfl), ?_⟩
        refine repr_neB hx2 (.int _) smC (by decide) (by decide) (iteF ?_)
        refine ne_reprV ⟨pv, rfl, ?_⟩
        refine repr_x (qp2.up (s3.trans sF)) smP (by decide) (by decide) fun x3 hx3 => ⟨.str kx, rfl, txt_ne hx3 hkx (k _ _ ⟨rfl, s3.trans sF⟩)⟩
      subst e4
      refine iteF ?_
      dsimp only [tNext]
      have okT := okX.turn N6
      have smT := sm_tab N6 okT
      have rep1 : ∀ (σ : L2.St) (G : Hp) (Q' : VK), Same G2 G → σ[4]? = some (some (.int (N : Int))) → σ[7]? = some (some pv) → (∀ G' x, Same G G' → x = (tabD (turnT N (progW (tabM N) ts))).shown → Q' (.str x) G') → tCB rRepr (tCons (tCall (spTableOf 5) [] E0 (tCons (tVar 4) (tCons (tCall (calmSp (spBackward CT)) [] E0 (tCons (tVar 7) tNil)) tNil))) tNil) σ G Q' := fun σ G Q' s e4 e7 k => by
        refine ⟨_, e4, _, e7, pv, ts, rfl, qp2.up s, h0, by omega, fun _ G5 r5 s5 h5 => ⟨r5, bwP ts, N, rfl, N6, h5, bwP_ok pr5 (by omega) (by decide), fun G6 r6 s6 h6 => ?_⟩, fun z => absurd z (by omega)⟩
        rw [bwP_tab h0] at h6
        exact repr_x h6 smT (by decide) (by decide) fun x hx => k G6 x (s5.trans s6) hx
      have rep2 : ∀ (σ : L2.St) (G : Hp) (Q' : VK), Same G2 G → σ[4]? = some (some (.int (N : Int))) → σ[13]? = some (some y) → (∀ G' x, Same G G' → x = (tabD (turnT N (progW (tabM N) ts))).shown → Q' (.str x) G') → tCB rRepr (tCons (tCall spUndone [] E0 (tCons (tVar 4) (tCons (tVar 13) tNil))) tNil) σ G Q' := fun σ G Q' s e4 e13 k => by
        exact ⟨_, e4, _, e13, N, y, _, rfl, N6, qy2.up s, okX, fun G6 r6 s6 h6 => repr_x h6 smT (by decide) (by decide) fun x hx => k G6 x s6 hx⟩
      refine sq_if ?_
      refine joinC7 (c := tOr _ _) (fun b' G => Same G2 G) (fun b' G5 s5 => ?_) (fun Q' k => ?_)
      rotate_left
      · refine ⟨.bl b, rfl, b, rfl, ?_⟩
        cases b with
        | true => exact iteT (k _ _ s4)
        | false => exact iteF ⟨_, rfl, _, _, rfl, rfl, _, rfl, k _ _ s4⟩
      refine ite2 (fun _ => ?_) (fun _ => ?_)
      · refine one_ret ⟨.bl b, rfl, b, rfl, !b, rfl, ite2 (fun _ => q _) (fun _ => ?_)⟩
        refine ⟨_, rfl, _, _, rfl, rfl, _, rfl, ite2 (fun _ => q _) (fun _ => ?_)⟩
        exact rep1 _ _ _ s5 rfl rfl fun G6 x s6 hx => rep2 _ _ _ (s5.trans s6) rfl rfl fun G7 z s7 hz => txt_eq hx hz (q _)
      dsimp only [tNext]
      refine sq_if ?_
      refine rep1 _ _ _ s5 rfl rfl fun G6 x s6 hx => rep2 _ _ _ (s5.trans s6) rfl rfl fun G7 z s7 hz => txt_ne hx hz (iteF ?_)
      have s57 := s5.trans (s6.trans s7)
      dsimp only [tNext]
      obtain ⟨b1, b2, b3, b4⟩ := okX.both_in N6
      obtain ⟨b5, b6, b7, b8⟩ := TabOk.both_in N6 okX
      have smB := sm_tab N6 (okX.both N6 okX)
      refine ret_eq_repr ⟨.int (N : Int), rfl, pv, rfl, pv, rfl, pv, pv, ts, ts, rfl, qp2.up s57, qp2.up s57, h0, by omega, prT, fun _ G8 r8 s8 h8 => ⟨r8, joP ts ts, N, rfl, N6, h8, joP_ok pr5 pr5 (by omega) (by decide), fun G9 r9 s9 h9 => ?_⟩, fun z => absurd z (by omega)⟩
      rw [joP_tab N6 pr5 pr5 okX] at h9
      dsimp only [tNil]
      refine repr_x h9 smB (by decide) (by decide) fun x4 hx4 => ⟨.int (N : Int), rfl, y, rfl, y, rfl, N, y, y, _, _, rfl, N6, qy2.up (s57.trans (s8.trans s9)), qy2.up (s57.trans (s8.trans s9)), b1, b2, b7, b8, fun GA rA sA hA => ?_⟩
      exact repr_eq hx4 hA smB (by decide) (by decide) (q _)
end
end Kr
namespace Kr
open PySem PySem.Spec PyProof.Rows L2
section
variable {P : Program} {w : World} {K : PySem.W.Frag} {mg : Str → Option Value} {base : Heap}
abbrev nAl : List Str := ["n", "size", "lot"]
theorem scAl : FnScope nAl ["n"] (defScope sAllLots) := ⟨rfl, rfl, rfl, by decide +kernel, rfl, by decide +kernel, by decide +kernel⟩
theorem o_all6 (D0 : Df K mg "all_lots" sAllLots ["n"]) (B : Bi mg) (hM : ∃ t, mg "MAX_TABLE" = some (.int 6 t)) (lo : Ok P w K mg base 1 "lots_of" ["n", "size"] spLots) : Ok P w K mg base 2 "all_lots" ["n"] spAll6 := by
  obtain ⟨tM, gM⟩ := hM
  refine D0.ok fun f fd F => F.ok scAl (fun vs H Q E h => ?_) (fun cdv A outer s H vs Q E hr h => ?_)
  · obtain ⟨n, rfl, _⟩ := h
    rfl
  · obtain ⟨n, rfl, hn6, q⟩ := h
    refine ⟨_, pss_cons (ps_if (pt_cmpR op_gt (pv 0) (pe_glob (v := .int 6) (by rfl) gM ⟨_, rfl⟩) (nomark _)) (pss_one ps_never) pss_nil)
      (pss_one (ps_ret (pe_callTy call_tuple_of (by rfl) B.tuple (by decide +kernel) (pa_cons
        (pe_lc2 (wi1 := iTup K (tCall spLots [] E0 (tCons (tVar 0) (tCons (tVar 1) tNil)))) (own := [("size", 1), ("lot", 2)]) (vs1 := [2]) (g := gName 1) (g1 := gName 2) (tt := tYes) (tt1 := tYes) rfl scAl.nd (pi_range1 (by rfl) B.range (pa_cons (pe_op op_add (pv 0) pe_int) pa_nil)) (blkOk_by (own := [("size", 1), ("lot", 2)]) (N := nAl) (sc := defScope sAllLots) (by decide +kernel)) (by decide)
          (fun _ _ _ _ _ => pg_name (i := 1) scAl.nd rfl (.inl rfl)) (fun _ _ _ _ _ => pts_nil)
          (fun _ _ _ _ _ => by exact pi_tup (pe_fn lo hr (by rfl) (pa_cons (pv 0) (pa_cons (pv 1) pa_nil))))
          (fun _ _ _ _ _ => pg_name (i := 2) scAl.nd rfl (.inl rfl)) (fun _ _ _ _ _ => pts_nil) (fun _ _ _ _ _ => pv 2)) pa_nil)))), ?_⟩
    refine ⟨.int n, rfl, _, _, rfl, rfl, _, rfl, ite2 (fun h6 => ?_) (fun h6 => ?_)⟩
    · have : (6 : Int) < n := of_decide_eq_true h6
      omega
    refine ⟨.int n, rfl, _, _, rfl, rfl, (n : Int) + 1, rfl, by omega, by omega, fun D nD => ?_⟩
    have hm : ((n : Int) + 1).toNat = n + 1 := by omega
    rw [hm]
    have hfull : ∀ i, i ≤ n + 1 → (((List.range (n + 1)).take i).flatMap (lotsL n)).length ≤ 1000 := by
      intro i hi
      have h1 := flat_le (List.range (n + 1)) (lotsL n) i
      have h2 : ∀ n : Nat, n < 7 → ((List.range (n + 1)).flatMap (lotsL n)).length ≤ 1000 := by decide +kernel
      have := h2 n (by omega)
      omega
    refine lc2_it (walk_rg (n := n + 1)) (fun i G => ∃ acc, G D = some (.lst acc) ∧ Same H G ∧ DqA G acc ((((List.range (n + 1)).take i).flatMap (lotsL n)).map lotD)) ⟨[], upd_same, same_new nD, .nil⟩ (fun _ _ _ _ => trivial) ?_ ?_
    · rintro i x G G' hi ⟨acc, hD, s2, qa⟩ ⟨rfl, rfl⟩
      refine ⟨rfl, ?_⟩
      dsimp only [tYes]
      rw [if_pos rfl]
      refine ⟨.int n, rfl, .int i, rfl, n, i, rfl, by omega, by omega, fun G2 v s3 hv => ?_⟩
      obtain ⟨a, xs, rfl, ha, qx2⟩ := Dq.tup_inv hv
      have hxl : xs.length = (lotsL n i).length := by rw [qx2.len, List.length_map]
      have hri : (List.range (n + 1))[i]? = some i := List.getElem?_range hi
      have hb := hfull (i + 1) (by omega)
      rw [flat_take hri, List.length_append] at hb
      refine ⟨a, rfl, ⟨xs, SqT.of ha⟩, ?_⟩
      refine inner_it (walk_tup (K := K) (a := a) (xs := xs)) (fun j G3 => ∃ acc, G3 D = some (.lst acc) ∧ Same H G3 ∧ G3 a = some (.tup xs) ∧ DqA G3 xs ((lotsL n i).map lotD) ∧ DqA G3 acc ((((List.range (n + 1)).take i).flatMap (lotsL n) ++ (lotsL n i).take j).map lotD)) ⟨acc, s3 _ _ hD, s2.trans s3, ha, qx2, by simpa using qa.up s3⟩ (fun j G3 _ ⟨_, _, _, h, _⟩ => SqT.of h) ?_ ?_
      · rintro j x G3 G3' hj ⟨acc2, hD2, s4, ha3, qxs, qa2⟩ ⟨rfl, hx⟩
        obtain ⟨l, hl, b, rfl, hbl⟩ := lots_get qxs hx
        refine ⟨rfl, ?_⟩
        dsimp only [tYes]
        rw [if_pos rfl]
        have hal : acc2.length ≤ 1000 := by
          have := qa2.len
          rw [List.length_map, List.length_append, List.length_take] at this
          omega
        have ts : TS G3' (upd G3' D (.lst (acc2 ++ [.ref b]))) := TS.lst hD2
        refine ⟨.ref b, rfl, acc2, hD2, szm (by omega), acc2 ++ [.ref b], upd_same, fun c o hc => ?_, ts _ _ ha3, DqA.upT ts (lots_flat _) qxs, ?_⟩
        · rw [upd_ne (ne_of_none hc nD)]
          exact s4 _ _ hc
        · rw [List.take_add_one, hl, ← List.append_assoc, List.map_append]
          exact dqa_snoc (DqA.upT ts (lots_flat _) qa2) (Dq.upT ts (lot_flat _) (lot_at hbl))
      · rintro G3 ⟨acc2, hD2, s4, ha3, qxs, qa2⟩
        refine ⟨acc2, hD2, s4, ?_⟩
        rw [hxl, List.take_length] at qa2
        rw [flat_take hri]
        exact qa2
    · rintro G ⟨acc, hD, s2, qa⟩
      have e : (List.range (n + 1)).take (n + 1) = List.range (n + 1) := List.take_of_length_le (by rw [List.length_range]; exact Nat.le_refl _)
      rw [e] at qa
      exact ⟨D, acc, rfl, .inl ⟨SqL.of hD, fun t nt => q _ _ (s2.trans (same_new nt)) (.tup upd_same (qa.up (same_new nt)))⟩⟩
end
end Kr
namespace Kr
open PySem PySem.Spec PyProof.Rows L2
section
variable {P : Program} {w : World} {K : PySem.W.Frag} {mg : Str → Option Value} {base : Heap}
abbrev nLo : List Str := ["n", "size", "lots", "_", "lot", "place"]
theorem scLo : FnScope nLo ["n", "size"] (defScope sLotsOf) := ⟨rfl, rfl, rfl, by decide +kernel, rfl, by decide +kernel, by decide +kernel⟩
theorem f_lotsOf {f : Addr} {fd : FuncData} (F : Fun K "lots_of" "lots_of" sLotsOf f fd) (B : Bi mg) : FnOk P w K mg base CX0 1 f fd ["n", "size"] spLots := by
  refine F.ok scLo (fun vs H Q E h => ?_) (fun cdv A outer s H vs Q E hr h => ?_)
  · obtain ⟨n, s, rfl, _⟩ := h
    rfl
  · obtain ⟨n, s, rfl, hn, hs, q⟩ := h
    refine ⟨_, pss_cons (ps_set (i := 2) scLo.nd rfl (.inl rfl) (pe_lst (pa_cons (pe_tup pa_nil) pa_nil)))
      (pss_cons (ps_for PassesOwn.never rfl (pi_range1 (by rfl) B.range (pa_cons (pv 1) pa_nil)) (pg_name (i := 3) scLo.nd rfl (.inl rfl))
        (pss_one (ps_setLc2 (wi1 := iRng2 (tCons (tNextL K 4) (tCons (tVar 0) tNil))) (i := 2) (own := [("lot", 4), ("place", 5)]) (vs1 := [5]) (g := gName 4) (g1 := gName 5) (tt := tYes) (tt1 := tYes) rfl scLo.nd rfl rfl (sw_true rfl rfl rfl (by decide +kernel)) (pi_list (pv 2)) (blkOk_by (own := [("lot", 4), ("place", 5)]) (N := nLo) (sc := defScope sLotsOf) (by decide +kernel)) (by decide)
          (fun _ _ _ _ _ => pg_name (i := 4) scLo.nd rfl (.inl rfl)) (fun _ _ _ _ _ => pts_nil)
          (fun _ _ _ _ _ => by exact pi_range2 (by rfl) B.range (pa_cons (pe_ifExp (pt_truth (pv 4) (by intro _; rfl)) (pe_op op_add (pe_ix (r := rIxT K) ix_tup (pv 4) (pe_un un_neg pe_int) (fun _ _ => rfl)) pe_int) pe_int) (pa_cons (pv 0) pa_nil)))
          (fun _ _ _ _ _ => pg_name (i := 5) scLo.nd rfl (.inl rfl)) (fun _ _ _ _ _ => pts_nil)
          (fun _ _ _ _ _ => pe_op (r := rCatA K) op_catA (pv 4) (pe_tup (pa_cons (pv 5) pa_nil))))))
      (pss_one (ps_ret (pe_callTy call_tuple_of (by rfl) B.tuple (by decide +kernel) (pa_cons (pv 2) pa_nil))))), ?_⟩
    refine ⟨by show 0 ≤ sizeLine; decide, fun t nt => ⟨by show 1 ≤ sizeLine; decide, fun l0 nl0 => ?_⟩⟩
    have s0 := (same_new (o := .tup []) nt).trans (same_new (o := .lst [.ref t]) nl0)
    have ht0 : upd (upd H t (.tup [])) l0 (.lst [.ref t]) t = some (.tup (lv [])) := same_new (o := .lst [.ref t]) nl0 _ _ upd_same
    refine ⟨.int s, rfl, (s : Int), rfl, by omega, by omega, for_it (walk_rg (n := s)) (fun t σ H2 => ∃ (L : Addr) (us : List V) (v3 : Option V), σ = [some (.int n), some (.int s), some (.ref L), v3, none, none] ∧ (∀ b o, H b = some o → H2 b = some o) ∧ H2 L = some (.lst us) ∧ DqA H2 us ((lotsL n t).map lotD))
      ⟨l0, _, none, rfl, s0, upd_same, .cons (lot_at (l := []) ht0) .nil⟩ (fun _ _ _ _ _ => trivial) ?_ ?_⟩
    · rintro t x σ H2 H2' ht ⟨L, us, v3, rfl, sm, hL, qus⟩ ⟨rfl, rfl⟩
      have hul : us.length = (lotsL n t).length := by rw [qus.len, List.length_map]
      have hful : ((lotsL n t).flatMap (exts n)).length < 1000 := by
        have := lots_len n (by omega) (t + 1) (by omega)
        have h2 := ch_small n (by omega) (t + 1) (by omega)
        show (lotsL n (t + 1)).length < 1000
        omega
      refine ⟨.ref L, rfl, L, rfl, ⟨us, SqL.of hL⟩, fun D nD => ?_⟩
      refine lc2_it (walk_list (K := K) (a := L) (xs := us)) (fun i G => ∃ acc, G D = some (.lst acc) ∧ Same H2' G ∧ DqA G acc ((((lotsL n t).take i).flatMap (exts n)).map lotD)) ⟨[], upd_same, same_new nD, .nil⟩ (fun i G _ ⟨_, _, s2, _⟩ => SqL.of (s2 _ _ hL)) ?_ ?_
      · rintro i x G G' hi ⟨acc, hD, s2, qa⟩ ⟨rfl, hx⟩
        obtain ⟨l, hl, a, rfl, ha0⟩ := lots_get qus hx
        have ha := s2 _ _ ha0
        refine ⟨rfl, ?_⟩
        dsimp only [tYes]
        rw [if_pos rfl]
        refine next_val (l := l) rfl ha ⟨.int n, rfl, _, _, rfl, ⟨by omega, ?_, by omega, by omega⟩, ?_⟩
        · have hin := (lots_in n t l (List.mem_of_getElem? hl)).2
          by_cases hl0 : l = []
          · subst hl0
            rw [nx_nil]
            omega
          · have e : l = l.dropLast ++ [l.getLast hl0] := (List.dropLast_concat_getLast hl0).symm
            have := hin _ (List.getLast_mem hl0)
            rw [e, nx_snoc]
            omega
        have hnn : ((n : Int) - (nx l : Nat)).toNat = n - nx l := by omega
        rw [hnn]
        have hpre := flat_le (lotsL n t) (exts n) (i + 1)
        rw [flat_take hl, List.length_append] at hpre
        have hel : (exts n l).length = n - nx l := by unfold exts; rw [List.length_map, List.length_range']
        have hacc : acc.length = (((lotsL n t).take i).flatMap (exts n)).length := by rw [qa.len, List.length_map]
        refine inner_it (walk_range (lo := (nx l : Nat)) (n := n - nx l)) (fun j G2 => ∃ acc, G2 D = some (.lst acc) ∧ Same H2' G2 ∧ DqA G2 acc ((((lotsL n t).take i).flatMap (exts n) ++ (List.range' (nx l) j).map fun x => l ++ [x]).map lotD)) ⟨acc, hD, s2, by simpa using qa⟩ (fun _ _ _ _ => trivial) ?_ ?_
        · rintro j x G2 G2' hj ⟨acc2, hD2, s3, qa2⟩ ⟨rfl, rfl⟩
          refine ⟨rfl, ?_⟩
          dsimp only [tYes]
          rw [if_pos rfl]
          have ha2 : G2' a = some (.tup (lv l)) := s3 _ _ ha0
          refine ⟨.ref a, rfl, .int _, rfl, by show 1 ≤ sizeLine; decide, fun u nu => ?_⟩
          have su := same_new (o := .tup [.int ((nx l : Nat) + (j : Int))]) nu
          have hll : l.length ≤ 12 := by have := (lots_in n t l (List.mem_of_getElem? hl)).1; omega
          refine catA_k (su _ _ ha2) upd_same (by rw [lv_len]; show _ + 1 ≤ _; omega) fun y H5 s5 hy => ?_
          have hD5 := s5 _ _ (su _ _ hD2)
          have hl2 : acc2.length < 1000 := by
            have := qa2.len
            rw [List.length_map, List.length_append, List.length_map, List.length_range'] at this
            omega
          refine ⟨acc2, hD5, szm (by omega), acc2 ++ [.ref y], upd_same, fun b o hb => ?_, ?_⟩
          · rw [upd_ne (ne_of_none hb nD)]
            exact s5 _ _ (su _ _ (s3 _ _ hb))
          · have ts : TS H5 (upd H5 D (.lst (acc2 ++ [.ref y]))) := TS.lst hD5
            rw [range1_succ, List.map_append (f := fun x => l ++ [x]), ← List.append_assoc, List.map_append (f := lotD)]
            refine dqa_snoc (DqA.upT ts (lots_flat _) ((qa2.up su).up s5)) (Dq.upT ts (lot_flat _) ?_)
            refine lot_at ?_
            rw [hy, lv_snoc]
            simp
        · rintro G2 ⟨acc2, hD2, s3, qa2⟩
          refine ⟨acc2, hD2, s3, ?_⟩
          rw [flat_take hl]
          exact qa2
      · rintro G ⟨acc, hD, s2, qa⟩
        rw [hul, List.take_length] at qa
        exact ⟨D, acc, _, rfl, fun b o hb => s2 _ _ (sm _ _ hb), hD, qa⟩
    · rintro σ H2 ⟨L, us, v3, rfl, sm, hL, qus⟩
      exact ⟨.ref L, rfl, L, us, rfl, .inl ⟨SqL.of hL, fun t nt => q _ _ (fun b o hb => same_new nt _ _ (sm _ _ hb)) (.tup upd_same (qus.up (same_new nt)))⟩⟩
end
end Kr
namespace Kr
open PySem PySem.Spec PyProof.Rows L2
section
variable {P : Program} {w : World} {K : PySem.W.Frag} {mg : Str → Option Value} {base : Heap}
theorem f_goal {f : Addr} {fd : FuncData} (F : Fun K "goal" "goal" sGoal f fd) (B : Bi mg) : FnOk P w K mg base CX0 1 f fd ["n", "entry"] spGoal := by
  have scGo : FnScope ["n", "entry", "place"] ["n", "entry"] (defScope sGoal) := ⟨rfl, rfl, rfl, by decide +kernel, rfl, by decide +kernel, by decide +kernel⟩
  refine F.ok scGo (fun vs H Q E h => ?_) (fun cdv A outer s H vs Q E hr h => ?_)
  · obtain ⟨n, a, e, rfl, _⟩ := h
    rfl
  · obtain ⟨n, a, e, rfl, hn, ha, q⟩ := h
    refine ⟨_, pss_one (ps_ret (pe_callTy call_tuple_of (by rfl) B.tuple (by decide +kernel) (pa_cons
      (pe_lc (own := [("place", 2)]) (g := gName 2) rfl scGo.nd (pi_range1 (by rfl) B.range (pa_cons (pv 0) pa_nil)) (blkOk_by (own := [("place", 2)]) (N := ["n", "entry", "place"]) (sc := defScope sGoal) (by decide +kernel))
        (fun _ _ _ _ _ => pg_name (i := 2) scGo.nd rfl (.inl rfl)) (fun _ _ _ _ _ => pts_one (pt_cmpR (r := rIn K true) op_notIn_seq (pv 2) (pv 1) rfl))
        (fun _ _ _ _ _ => pv 2)) pa_nil))), ?_⟩
    refine ⟨.int n, rfl, (n : Int), rfl, by omega, by omega, fun D nD => ?_⟩
    refine lc_it (walk_rg (n := n)) (fun i G => G D = some (.lst (lv ((List.range i).filter fun (x : Nat) => !decide ((x : Int) ∈ e)))) ∧ Same H G) ⟨upd_same, same_new nD⟩ (fun _ _ _ _ => trivial) ?_ ?_
    · rintro i x G G' hi ⟨hD, s1⟩ ⟨rfl, rfl⟩
      refine ⟨rfl, .int i, rfl, .ref a, rfl, a, _, rfl, .inr (SqT.of (s1 _ _ ha)), rfl, int_fl e, _, rfl, ?_⟩
      have er : (List.range (i + 1)).filter (fun (x : Nat) => !decide ((x : Int) ∈ e)) = (List.range i).filter (fun (x : Nat) => !decide ((x : Int) ∈ e)) ++ (if (i : Int) ∈ e then [] else [i]) := by
        rw [List.range_succ, List.filter_append]
        by_cases hm : (i : Int) ∈ e
        · rw [if_pos hm]
          simp [hm]
        · rw [if_neg hm]
          simp [hm]
      rw [inV_int, er]
      by_cases hm : (i : Int) ∈ e
      · rw [decide_eq_true hm, if_pos hm, List.append_nil]
        exact iteF ⟨hD, s1⟩
      · rw [decide_eq_false hm, if_neg hm]
        refine iteT ⟨_, rfl, _, hD, szm ?_, ?_, fun b o hb => ?_⟩
        · rw [lv_len]
          have := List.length_filter_le (fun (x : Nat) => !decide ((x : Int) ∈ e)) (List.range i)
          rw [List.length_range] at this
          omega
        · rw [upd_same]
          simp [lv]
        · rw [upd_ne (ne_of_none hb nD)]
          exact s1 _ _ hb
    · rintro G ⟨hD, s1⟩
      exact ⟨D, _, rfl, .inl ⟨SqL.of hD, fun t nt => q _ t (s1.trans (same_new nt)) upd_same⟩⟩
theorem o_goal (D0 : Df K mg "goal" sGoal ["n", "entry"]) (B : Bi mg) : Ok P w K mg base 1 "goal" ["n", "entry"] spGoal := D0.ok fun _ _ F => f_goal F B
end
end Kr
namespace Kr
open PySem PySem.Spec PyProof.Rows L2
section
variable {P : Program} {w : World} {K : PySem.W.Frag} {mg : Str → Option Value} {base : Heap}
theorem o_ways (D0 : Df K mg "ways_table" sWays ["n", "ways"]) (B : Bi mg) (al : Ok P w K mg base 2 "all_lots" ["n"] spAll6) (eb : Ok P w K mg base 1 "_entry_by" ["lot", "ways"] spEntBy) : Ok P w K mg base 3 "ways_table" ["n", "ways"] spWays := by
  have scSt : FnScope ["n", "ways", "lot"] ["n", "ways"] (defScope sWays) := ⟨rfl, rfl, rfl, by decide +kernel, rfl, by decide +kernel, by decide +kernel⟩
  refine D0.ok fun f fd F => F.ok scSt (fun vs H Q E h => ?_) (fun cdv A outer s H vs Q E hr h => ?_)
  · obtain ⟨n, b, ws, rfl, _⟩ := h
    rfl
  · obtain ⟨n, b, ws, rfl, hn, hb, hw, q⟩ := h
    have hr1 := hr.mono (show 1 ≤ 2 by decide)
    refine ⟨_, pss_one (ps_ret (pe_callTy call_tuple_of (by rfl) B.tuple (by decide +kernel) (pa_cons
      (pe_lc (own := [("lot", 2)]) (g := gName 2) (tt := tYes) rfl scSt.nd (pi_tup (pe_fn al hr (by rfl) (pa_cons (pv 0) pa_nil))) (blkOk_by (own := [("lot", 2)]) (N := ["n", "ways", "lot"]) (sc := defScope sWays) (by decide +kernel))
        (fun _ _ _ _ _ => pg_name (i := 2) scSt.nd rfl (.inl rfl)) (fun _ _ _ _ _ => pts_nil)
        (fun _ _ _ _ _ => pe_fn eb hr1 (by rfl) (pa_cons (pv 2) (pa_cons (pv 1) pa_nil)))) pa_nil))), ?_⟩
    refine ⟨.int n, rfl, n, rfl, hn, fun H1 v s1 hv => ?_⟩
    obtain ⟨a, xs, rfl, ha, qx⟩ := Dq.tup_inv hv
    refine ⟨a, rfl, ⟨xs, SqT.of ha⟩, fun D nD => ?_⟩
    have hxl : xs.length = (allL n).length := by rw [qx.len, List.length_map]
    have hal := all_few n (by omega)
    refine lc_itF (walk_tup (K := K) (a := a) (xs := xs)) (fun i => entD (byE ((allL n).getD i []) ws)) nD (by omega) (fun _ _ => ent_flat _) (fun G s => SqT.of (s _ _ ha)) (fun i x G G' C Cn hi s2 y c => ?_) (fun G acc s2 hD qa => ?_)
    · obtain ⟨rfl, hx⟩ := y
      obtain ⟨l, hl, b', rfl, hb'⟩ := lots_get qx hx
      rw [getD_of hl] at c
      refine ⟨rfl, ?_⟩
      dsimp only [tYes]
      rw [if_pos rfl]
      exact ⟨.ref b', rfl, .ref b, rfl, b', b, l, ws, rfl, s2 _ _ hb', s2 _ _ (s1 _ _ hb), hw, fun H' t s' ht => c _ _ s' (ent_at ht)⟩
    rw [hxl, map_getD (fun l => entD (byE l ws))] at qa
    refine ⟨D, acc, rfl, .inl ⟨SqL.of hD, fun t nt => q _ _ (s1.trans (s2.trans (same_new nt))) (.tup upd_same ?_)⟩⟩
    rw [List.map_map]
    exact qa.up (same_new nt)
end
end Kr
namespace Kr
open PySem PySem.Spec PyProof.Rows L2
section
variable {P : Program} {w : World} {K : PySem.W.Frag} {mg : Str → Option Value} {base : Heap}
theorem o_entBy (D : Df K mg "_entry_by" sEntryBy ["lot", "ways"]) (B : Bi mg) : Ok P w K mg base 1 "_entry_by" ["lot", "ways"] spEntBy := by
  have scEb : FnScope ["lot", "ways", "place", "way"] ["lot", "ways"] (defScope sEntryBy) := ⟨rfl, rfl, rfl, by decide +kernel, rfl, by decide +kernel, by decide +kernel⟩
  refine D.ok fun f fd F => F.ok scEb (fun vs H Q E h => ?_) (fun cdv A outer s H vs Q E hr h => ?_)
  · obtain ⟨a, b, l, ws, rfl, _⟩ := h
    rfl
  · obtain ⟨a, b, l, ws, rfl, ha, hb, hw, q⟩ := h
    refine ⟨_, pss_one (ps_ret (pe_callTy call_tuple_of (by rfl) B.tuple (by decide +kernel) (pa_cons
      (pe_lc (own := [("place", 2), ("way", 3)]) (g := gTup K 2 (gCons (gName 2) (gCons (gName 3) gNil))) (tt := tYes) rfl scEb.nd (pi_enum (by rfl) B.enumerate (pa_cons (pv 1) pa_nil)) (blkOk_by (own := [("place", 2), ("way", 3)]) (N := ["lot", "ways", "place", "way"]) (sc := defScope sEntryBy) (by decide +kernel))
        (fun _ _ _ _ _ => pg_tup rfl (pgs_cons (pg_name (i := 2) scEb.nd rfl (.inl rfl)) (pgs_cons (pg_name (i := 3) scEb.nd rfl (.inl rfl)) pgs_nil))) (fun _ _ _ _ _ => pts_nil)
        (fun _ _ _ _ _ => pe_ifExp (pt_cmpR (r := rIn K false) op_in_seq (pv 2) (pv 0) rfl) (pe_un un_neg pe_int) (pv 3))) pa_nil))), ?_⟩
    refine ⟨.ref b, rfl, b, _, rfl, SqL.of hb, fun D nD => ?_⟩
    refine lc_itF walk_enum (fun i => .int (if i ∈ l then -1 else ws.getD i 0)) nD (by rw [List.length_map]; omega) (fun _ _ => rfl) (fun G s => SqL.of (s _ _ hb)) (fun i x G G' C Cn hi s1 y c => ?_) (fun G acc s1 hD qa => ?_)
    · rw [List.length_map] at hi
      obtain ⟨T, x1, x2, rfl, nT, rfl, e1, e2⟩ := y
      cases Option.some.inj e1
      have e3 : x2 = .int (ws.getD i 0) := by
        have e4 : (ws.map V.int)[i]? = some x2 := e2
        rw [List.getElem?_map, List.getElem?_eq_getElem hi] at e4
        rw [List.getD_eq_getElem?_getD, List.getElem?_eq_getElem hi]
        exact (Option.some.inj e4).symm
      subst e3
      have sT := same_new (o := .tup [.int (i : Nat), .int (ws.getD i 0)]) nT
      have haT := sT _ _ (s1 _ _ ha)
      refine ⟨T, [.int (i : Nat), .int (ws.getD i 0)], rfl, SqT.of upd_same, rfl, .int (i : Nat), [.int (ws.getD i 0)], rfl, .int (ws.getD i 0), [], rfl, rfl, rfl, ?_⟩
      dsimp only [tYes]
      rw [if_pos rfl]
      refine ⟨.int (i : Nat), rfl, .ref a, rfl, a, lv l, rfl, .inr (SqT.of haT), rfl, lv_fl l, _, rfl, ?_⟩
      rw [inV_lot]
      by_cases hm : i ∈ l
      · rw [decide_eq_true hm]
        rw [if_pos hm] at c
        exact iteT ⟨1, rfl, c _ _ sT (.int _)⟩
      · rw [decide_eq_false hm]
        rw [if_neg hm] at c
        exact iteF ⟨_, rfl, c _ _ sT (.int _)⟩
    have eacc : acc = (byE l ws).map V.int := dqa_int (by
      rw [List.length_map] at qa
      unfold byE
      rw [List.map_map]
      exact qa)
    subst eacc
    exact ⟨D, _, rfl, .inl ⟨SqL.of hD, fun t nt => q _ t (s1.trans (same_new nt)) upd_same⟩⟩
end
end Kr
namespace Kr
open PySem PySem.Spec PyProof.Rows L2
/-! ### {k: v for ..}, the keys tuples -/
theorem put_tk {X : Cx} {ps : List (Addr × Obj)} {st : L2.St} {H : Hp} {sh : Shared} {B : Value → Shared → Prop} {D b : Addr} {es : List (List Key × V)} {ks : List Key} {v : V} {rv : Value} {Q : Unit → Shared → Prop} (hu : X.A.units < cLine) (Iv : Inv X ps st H sh) (hD : H D = some (.dT es))
    (hz : es.length < sizeLine) (hb : H b = some (.tup (ks.map kV))) (rel : RelV v rv) (fin : ∀ z, Inv X ps st (upd H D (.dT (putK es ks v))) z → Q () z) : wpAny (model X.prog X.w) X.A (dictSet D (.ref b) rv) Q B sh := by
  obtain ⟨z1, z2, ws, zr, zd⟩ := dt_of Iv.hok hD
  have zl : ws.length ≤ sizeLine := by rw [← Paired.length zr]; exact z1
  have zp : (putK es ks v).length ≤ sizeLine := Nat.le_trans (length_putK es ks v) hz
  refine wpAny_dictSet_heap (knd := tupleKind (mixKind X.prog X.w)) (hsz := zl) hu (key_of Iv.hok hb) zd fun h2 d2 same => fin _ ?_
  obtain ⟨ob, en, ep, e1, e2, e3, e4, _, e5⟩ := d2
  refine d_write Iv (by rw [hD]; trivial) same ⟨ob, e1⟩ ⟨zp, z2, _, (zr.put ks hb rel).keeps fun c ys ec => ?_, ob, en, ep, e1, e2, e3, e4, e5⟩
  exact (upd_ne (ne_of ec hD (by intro z; cases z))).trans ec
section
variable {X : Cx}
def tDcT (wi : TI) (g : TG) (tt : TT) (tk tv : TE) (own : List Nat) : TE := fun st H Q => wi st H fun J H1 => ∀ D, H1 D = none → ∃ W : Nat → Nat → Hp → Prop, (∃ m, W 0 m (upd H1 D (.dT []))) ∧ ∀ i m G, W i m G →
  (J.stop i G ∧ Q (.ref D) G) ∨ (J.go i G ∧ ∃ Nx : Hp → Prop, (∀ G', Nx G' → ∃ m', m' < m ∧ W (i + 1) m' G') ∧ ∀ x G', J.yld i G x G' → g x (wipe st own) G' fun s2 G2 => wipe s2 own = wipe st own ∧ tt s2 G2 fun yes G3 =>
    if yes = true then tk s2 G3 fun y G4 => tv s2 G4 fun z G5 => ∃ es ks b, y = .ref b ∧ G5 b = some (.tup (ks.map kV)) ∧ G5 D = some (.dT es) ∧ es.length < sizeLine ∧ Nx (upd G5 D (.dT (putK es ks z))) else Nx G3)
theorem pe_dcT {kx vx tg src : Expr} {ifs : List Expr} {sc : Scope} {own : List (Str × Nat)} {pos : Pos} {wi : TI} {g : TG} {tt : TT} {tk tv : TE} (hu : X.A.units < cLine) (calm : X.calm = true) (nd : X.N.Nodup) (ps : PI X tg src wi) (ok : BlkOk X.N X.env.scope sc own)
    (pg : ∀ (s : Shared) (H : Hp) (C : Addr) (cl : List (Str × Addr)) (fp : List Addr), PG (X.blk s H sc (compEnvC sc cl C X.env) fp) tg g) (pt : ∀ (s : Shared) (H : Hp) (C : Addr) (cl : List (Str × Addr)) (fp : List Addr), PTs (X.blk s H sc (compEnvC sc cl C X.env) fp) ifs tt)
    (pk : ∀ (s : Shared) (H : Hp) (C : Addr) (cl : List (Str × Addr)) (fp : List Addr), PE (X.blk s H sc (compEnvC sc cl C X.env) fp) kx tk)
    (pw : ∀ (s : Shared) (H : Hp) (C : Addr) (cl : List (Str × Addr)) (fp : List Addr), PE (X.blk s H sc (compEnvC sc cl C X.env) fp) vx tv) (fs : ∀ x, foldedSetIterable src X.env x = pure x := by intro _; rfl) :
    PE X (.DictComp kx vx [⟨tg, src, ifs, 0⟩] sc pos) (tDcT wi g tt tk tv (own.map (·.2))) := by
  refine ⟨fun pins s st H Q I h => ?_⟩
  rw [arm_eval_DictComp]
  have cellOf : ∀ y ∈ sc.names, y.2 = .free → ∃ c, X.env.cells.lookup y.1 = some c := fun y hy e => I.ok.has _ ((ok.free y hy e).elim .inl .inr)
  refine wpAny_comprehension_free (use := none) rfl fs (closure_ok cellOf) ok.kind (fun y hy e => by rw [ok.uniq y hy, e]) (thn (ps.run pins s st H _ I h) fun xv s1 hx => thn hx fun itv s2 h2 => ?_)
  obtain ⟨it, fp, tn, J, H2, rfl, I2, T, at2, fp2, q⟩ := h2
  refine wpAny_newObj_type (newEnv_comp ?_)
  have lt2 : ∀ b ∈ fp, b < s2.heap.objs.size := fun b hb => let ⟨_, e, _⟩ := T.obj _ _ at2 b hb; Heap.lt_size e
  generalize hD : s2.heap.objs.size = D
  have free2 : H2 D = none := I2.hok.fresh (Nat.le_of_eq hD)
  obtain ⟨W, ⟨m0, w0⟩, turn⟩ := q D free2
  generalize hsh : ({ s2 with heap := s2.heap.push { cls := .type "dict", data := .dict #[] } } : Shared) = s3
  have hp3 : s3.heap = s2.heap.push { cls := .type "dict", data := .dict #[] } := by rw [← hsh]
  have I3 : Inv X pins st (upd H2 D (.dT [])) s3 := by
    subst hsh
    exact I2.laid (t' := s2.toks) (fun b o e => Heap.get?_push_of_some _ e) (Nat.le_of_eq hD) (hD ▸ dt_empty s2.heap I2.big)
  have fp3 : ∀ b ∈ fp, FpOk X pins (upd H2 D (.dT [])) b ∧ b < s3.heap.objs.size := fun b hb => by
    have lt := lt2 b hb
    refine ⟨⟨(upd_ne (hD ▸ Nat.ne_of_lt lt)).trans (fp2 b hb).1, (fp2 b hb).2⟩, ?_⟩
    rw [hp3, Heap.size_push]
    exact Nat.lt_succ_of_lt lt
  have at3 : tn 0 s3.heap := T.keep _ _ _ at2 fun b _ o e => by rw [hp3]; exact Heap.get?_push_of_some _ e
  have I4 := block_start I3 ok nd fp3
  have g4 := pg s3 (upd H2 D (.dT [])) s3.heap.objs.size (cellsFrom (s3.heap.objs.size + 1) sc.names (cloFrom X.env.cells sc.names [])) fp
  have t4 := pt s3 (upd H2 D (.dT [])) s3.heap.objs.size (cellsFrom (s3.heap.objs.size + 1) sc.names (cloFrom X.env.cells sc.names [])) fp
  have k4 := pk s3 (upd H2 D (.dT [])) s3.heap.objs.size (cellsFrom (s3.heap.objs.size + 1) sc.names (cloFrom X.env.cells sc.names [])) fp
  have v4 := pw s3 (upd H2 D (.dT [])) s3.heap.objs.size (cellsFrom (s3.heap.objs.size + 1) sc.names (cloFrom X.env.cells sc.names [])) fp
  show codeAny _ _ (.compStart (.DictComp kx vx [⟨tg, src, ifs, 0⟩] sc pos) 0 (.ref it) (.ref D) (compEnvC sc (cellsFrom (s3.heap.objs.size + 1) sc.names (cloFrom X.env.cells sc.names [])) s3.heap.objs.size X.env)) _ { s3 with heap := pushCells (s3.heap.push { cls := .type "dict", data := .dict #[] }) sc.names }
  generalize hce : compEnvC sc (cellsFrom (s3.heap.objs.size + 1) sc.names (cloFrom X.env.cells sc.names [])) s3.heap.objs.size X.env = ce at I4 g4 t4 k4 v4 ⊢
  have loc : ce.locals = s3.heap.objs.size := by rw [← hce]; rfl
  have none3 : ∀ b ∈ fp, upd H2 D (.dT []) b = none := fun b hb => (fp3 b hb).1.1
  generalize upd H2 D (.dT []) = H3 at I3 I4 g4 t4 k4 v4 w0 none3 fp3
  generalize hs4 : ({ s3 with heap := pushCells (s3.heap.push { cls := .type "dict", data := .dict #[] }) sc.names } : Shared) = s4 at I4 ⊢
  have at4 : tn 0 s4.heap := T.keep _ _ _ at3 fun b _ o e => by rw [← hs4]; exact pushCells_keeps _ _ _ _ (Heap.get?_push_of_some _ e)
  have fpOf : ∀ {st' : L2.St} {G : Hp} {z : Shared}, Inv (X.blk s3 H3 sc ce fp) [] st' G z → (∀ b ∈ fp, G b = none) → ∀ b ∈ fp, FpOk (X.blk s3 H3 sc ce fp) [] G b := fun Iz no b hb =>
    ⟨no b hb, (Iz.ok.exf b hb).1, Iz.ok.exfs b hb, .inl hb, fun x c e => (Iz.ok.exf b hb).2 x c e, fun p hp => absurd (show p ∈ ([] : List (Addr × Obj)) ++ [] from hp) (by simp)⟩
  refine codeAny_compStart_dict ?lp (T.self X.A 0 _ _ _ at4 ?lp)
  refine compLoop_anyD (fun k z => ∃ i G, Inv (X.blk s3 H3 sc ce fp) [] (wipe st (own.map (·.2))) G z ∧ tn i z.heap ∧ (∀ b ∈ fp, G b = none) ∧ W i k G) ?_ m0 ⟨0, H3, I4, at4, none3, w0⟩
  rintro k s5 ⟨i, G5, I5, at5, no5, w5⟩
  rcases turn i k G5 w5 with ⟨hstop, fin⟩ | ⟨hgo, Nx, next, step⟩
  · refine thnF (T.done (X.blk s3 H3 sc ce fp) rfl rfl rfl calm i [] s5 _ G5 (fun _ _ => False) I5 (fpOf I5 no5) at5 hstop) fun r s6 ⟨hr, I6⟩ => ?_
    subst hr
    have I7 : Inv X pins st G5 s6 := I3.call' (ch := fp) I6.os I6.base I6.hok I6.bare fun b hb => ⟨(fp3 b hb).1.2.2.2.1, (fp3 b hb).1.2.1, (fp3 b hb).1.2.2.2.2.1, (fp3 b hb).1.2.2.2.2.2⟩
    have free6 : G5 s3.heap.objs.size = none := by rw [← loc]; exact I6.free
    obtain ⟨m, ns, _⟩ := I6.loc
    have ns : s6.heap.Ns ce.locals m := ns
    rw [loc] at ns
    refine ⟨m, ns, fun h7 sb => ?_⟩
    obtain ⟨f0, f1, f2, f3, f4, f5⟩ := I3.fpOk (Nat.le_refl _) free6
    exact ⟨.ref D, G5, I7.turned (t' := s6.toks) (fun b o hb e => (sb.2 b hb).trans e) f0 f1 f3 f4 f5, rfl, fin⟩
  · refine thnF (T.item (X.blk s3 H3 sc ce fp) rfl rfl rfl calm i [] s5 _ G5 (fun _ _ => False) I5 (fpOf I5 no5) at5 hgo) fun r s6 ⟨u, hr, h6⟩ => ?_
    subst hr
    refine thnF h6 fun _ s7 ⟨x, G7, I7, r7, y7, at7, no7⟩ => ?_
    have I8 := I7.pinned (fpOf I7 no7) (T.obj _ _ at7)
    refine thnF (g4.run _ s7 _ G7 x u _ I8 r7 (step x G7 y7)) fun _ s8 ⟨st8, G8, I9, wq, q8⟩ => ?_
    have back : ∀ {z : Shared} {G : Hp}, Inv (X.blk s3 H3 sc ce fp) ([] ++ pinsAt fp s7.heap) st8 G z → Nx G → ∃ m, m < k ∧ ∃ i G, Inv (X.blk s3 H3 sc ce fp) [] (wipe st (own.map (·.2))) G z ∧ tn i z.heap ∧ (∀ b ∈ fp, G b = none) ∧ W i m G := fun {z G} Iz nx => by
      obtain ⟨m', less, w'⟩ := next G nx
      have pinned : ∀ b ∈ fp, ∀ o, s7.heap.get? b = some o → z.heap.get? b = some o ∧ G b = none := fun b hb o e => by
        have p := Iz.pin (b, o) (List.mem_append_right _ (List.mem_append_right _ (mem_pinsAt hb e)))
        exact ⟨p.1, p.2.1⟩
      refine ⟨m', less, i + 1, G, (Iz.unpinned (pins := [])).weak (by rw [← wq, wipe_length]) (fun j v e => ?_), T.keep _ _ _ at7 fun b hb o e => (pinned b hb o e).1, fun b hb => ?_, w'⟩
      · rw [← wq] at e
        exact (wipe_some e).1
      · obtain ⟨o, e, _⟩ := T.obj _ _ at7 b hb
        exact (pinned b hb o e).2
    refine thnF (t4.run _ s8 st8 G8 _ I9 q8) fun yes s9 ⟨G9, I10, q9⟩ => ?_
    cases yes with
    | false =>
      simp only [Bool.false_eq_true, if_false] at q9 ⊢
      exact back I10 q9
    | true =>
      simp only [if_true] at q9 ⊢
      refine thnF (k4.run _ s9 st8 G9 _ I10 q9) fun kv s10 ⟨yk, G10, I11, r10, q10⟩ => ?_
      refine thnF (v4.run _ s10 st8 G10 _ I11 q10) fun vv s11 ⟨yv, G11, I12, r11, es, ks, b, ek, hb, hD11, hz, nx⟩ => ?_
      subst ek
      obtain rfl : kv = Value.ref b := r10
      exact put_tk (X := X.blk s3 H3 sc ce fp) hu I12 hD11 hz hb r11 fun z Iz => back Iz nx
/-- over any walk -/
theorem dcT_it {J : It} {n : Nat} {G : Hp → Prop} {Y : Nat → Hp → V → Hp → Prop} (w : Walk J n G Y) {g : TG} {tt : TT} {tk tv : TE} {vs : List Nat} {σ : L2.St} {H1 : Hp} {D : Addr} {Qd : Hp → Prop} (Pv : Nat → Hp → Prop) (h0 : Pv 0 (upd H1 D (.dT []))) (hG : ∀ i H, i ≤ n → Pv i H → G H)
    (hs : ∀ i x H H', i < n → Pv i H → Y i H x H' → g x (wipe σ vs) H' fun σ2 H2 => wipe σ2 vs = wipe σ vs ∧ tt σ2 H2 fun b H3 =>
      if b = true then tk σ2 H3 fun y H4 => tv σ2 H4 fun z H5 => ∃ es ks b, y = .ref b ∧ H5 b = some (.tup (ks.map kV)) ∧ H5 D = some (.dT es) ∧ es.length < sizeLine ∧ Pv (i + 1) (upd H5 D (.dT (putK es ks z))) else Pv (i + 1) H3) (hd : ∀ H, Pv n H → Qd H) :
    ∃ W : Nat → Nat → Hp → Prop, (∃ m, W 0 m (upd H1 D (.dT []))) ∧ ∀ i m H, W i m H →
      (J.stop i H ∧ Qd H) ∨ (J.go i H ∧ ∃ Nx : Hp → Prop, (∀ H', Nx H' → ∃ m', m' < m ∧ W (i + 1) m' H') ∧ ∀ x H', J.yld i H x H' → g x (wipe σ vs) H' fun σ2 H2 => wipe σ2 vs = wipe σ vs ∧ tt σ2 H2 fun b H3 =>
        if b = true then tk σ2 H3 fun y H4 => tv σ2 H4 fun z H5 => ∃ es ks b, y = .ref b ∧ H5 b = some (.tup (ks.map kV)) ∧ H5 D = some (.dT es) ∧ es.length < sizeLine ∧ Nx (upd H5 D (.dT (putK es ks z))) else Nx H3) := by
  refine ⟨fun i m H => m = n - i ∧ i ≤ n ∧ Pv i H, ⟨n, (Nat.sub_zero n).symm, Nat.zero_le _, h0⟩, fun i m H ⟨hm, hi, p⟩ => ?_⟩
  subst hm
  have hg := hG i H hi p
  rcases Nat.lt_or_ge i n with lt | ge
  · exact .inr ⟨w.goes i H lt hg, Pv (i + 1), fun H' p' => ⟨n - (i + 1), by omega, rfl, lt, p'⟩, fun x H' y => hs i x H H' lt p (w.yields i H x H' lt hg y)⟩
  · cases Nat.le_antisymm hi ge
    exact .inl ⟨w.stops H hg, hd H p⟩
end
end Kr
namespace Kr
open PySem PySem.Spec PyProof.Rows L2
section
variable {P : Program} {w : World} {K : PySem.W.Frag} {mg : Str → Option Value} {base : Heap}
theorem o_numbers (D0 : Df K mg "numbers_of_lots" sNumbers ["n"]) (B : Bi mg) (al : Ok P w K mg base 2 "all_lots" ["n"] spAll6) : Ok P w K mg base 3 "numbers_of_lots" ["n"] spNumbers := by
  have scNu : FnScope ["n", "number", "lot"] ["n"] (defScope sNumbers) := ⟨rfl, rfl, rfl, by decide +kernel, rfl, by decide +kernel, by decide +kernel⟩
  refine D0.ok fun f fd F => F.ok scNu (fun vs H Q E h => ?_) (fun cdv A outer s H vs Q E hr h => ?_)
  · obtain ⟨n, rfl, _⟩ := h
    rfl
  · obtain ⟨n, rfl, hn, q⟩ := h
    have hu2 : (cxOf CX0 P w K mg base ["n", "number", "lot"] "numbers_of_lots" (defScope sNumbers) f cdv A outer s H E).A.units < cLine := Nat.lt_of_le_of_lt (Nat.le_add_right _ 64) hr.units
    refine ⟨_, pss_one (ps_ret (pe_dcT (own := [("number", 1), ("lot", 2)]) (g := gTup K 2 (gCons (gName 1) (gCons (gName 2) gNil))) (tt := tYes) hu2 rfl scNu.nd (pi_enumT (by rfl) B.enumerate (pa_cons (pe_fn al hr (by rfl) (pa_cons (pv 0) pa_nil)) pa_nil)) (blkOk_by (own := [("number", 1), ("lot", 2)]) (N := ["n", "number", "lot"]) (sc := defScope sNumbers) (by decide +kernel))
        (fun _ _ _ _ _ => pg_tup rfl (pgs_cons (pg_name (i := 1) scNu.nd rfl (.inl rfl)) (pgs_cons (pg_name (i := 2) scNu.nd rfl (.inl rfl)) pgs_nil))) (fun _ _ _ _ _ => pts_nil)
        (fun _ _ _ _ _ => pv 2) (fun _ _ _ _ _ => pv 1))), ?_⟩
    refine ⟨.int n, rfl, n, rfl, hn, fun H1 lv1 s1 hl1 => ?_⟩
    obtain ⟨la, ks, rfl, hla, qk⟩ := Dq.tup_inv hl1
    have hal := all_few n (by omega)
    have hkl : ks.length = (allL n).length := by rw [qk.len, List.length_map]
    refine ⟨la, _, rfl, SqT.of hla, fun D nD => ?_⟩
    refine dcT_it walk_enumT (fun i G => ∃ es, G D = some (.dT es) ∧ Same H1 G ∧ es.length ≤ i ∧ ∀ j l, j < i → (allL n)[j]? = some l → valV es (lotK l) = some (.int (j : Nat)))
      ⟨[], upd_same, same_new nD, Nat.zero_le _, fun j _ h _ => absurd h (Nat.not_lt_zero j)⟩ (fun i G _ ⟨_, _, sm, _⟩ => SqT.of (sm _ _ hla)) ?_ ?_
    · rintro i _ G _ hi ⟨es, hD, sm, hlen, hes⟩ ⟨t, x, y, rfl, nt, rfl, e1, e2⟩
      cases Option.some.inj e1
      obtain ⟨l, hl, lb, rfl, hlb⟩ := lots_get qk e2
      have st := same_new (o := .tup [.int (i : Nat), .ref lb]) nt
      refine ⟨t, [.int (i : Nat), .ref lb], rfl, SqT.of upd_same, rfl, .int (i : Nat), [.ref lb], rfl, .ref lb, [], rfl, rfl, rfl, ?_⟩
      dsimp only [tYes]
      rw [if_pos rfl]
      refine ⟨.ref lb, rfl, .int (i : Nat), rfl, es, lotK l, lb, rfl, by rw [lotK_v]; exact st _ _ (sm _ _ hlb), st _ _ hD, szl (by omega), putK es (lotK l) (.int (i : Nat)), upd_same, fun b o hb => ?_, ?_, fun j l' hj hl' => ?_⟩
      · rw [upd_ne (ne_of_none hb nD)]
        exact st _ _ (sm _ _ hb)
      · have := length_putK es (lotK l) (V.int (i : Nat))
        omega
      · rw [valV_put]
        by_cases ek : lotK l' = lotK l
        · have := lotK_inj ek
          subst this
          have e1 := (all_num_at hn hl).1
          have e2 := (all_num_at hn hl').1
          rw [if_pos ek]
          rw [show j = i by omega]
        · rw [if_neg ek]
          refine hes j l' ?_ hl'
          rcases Nat.lt_or_ge j i with c | c
          · exact c
          · have : j = i := by omega
            subst this
            rw [hl] at hl'
            exact absurd (by rw [Option.some.inj hl']) ek
    · rintro G ⟨es, hD, sm, hlen, hes⟩
      refine q G D es (s1.trans sm) hD fun l hl => ?_
      obtain ⟨j, hj, ej⟩ := List.getElem_of_mem hl
      have e1 : (allL n)[j]? = some l := by rw [List.getElem?_eq_getElem hj, ej]
      rw [(all_num_at hn e1).1]
      exact hes j l (by omega) e1
end
end Kr
namespace Kr
open PySem PySem.Spec PyProof.Rows L2
section
variable {P : Program} {w : World} {K : PySem.W.Frag} {mg : Str → Option Value} {base : Heap}
theorem o_aims (D0 : Df K mg "aims_of" sAims ["n", "table"]) (B : Bi mg) (go : Ok P w K mg base 1 "goal" ["n", "entry"] spGoal) (nu : Ok P w K mg base 3 "numbers_of_lots" ["n"] spNumbers) : Ok P w K mg base 4 "aims_of" ["n", "table"] spAims := by
  have scAi : FnScope ["n", "table", "numbers", "entry"] ["n", "table"] (defScope sAims) := ⟨rfl, rfl, rfl, by decide +kernel, rfl, by decide +kernel, by decide +kernel⟩
  refine D0.ok fun f fd F => F.ok scAi (fun vs H Q E h => ?_) (fun cdv A outer s H vs Q E hr h => ?_)
  · obtain ⟨n, v, T, rfl, _⟩ := h
    rfl
  · obtain ⟨n, v, T, rfl, hn, hv, hTl, hT, q⟩ := h
    have hr1 := hr.mono (show 1 ≤ 3 by decide)
    have hu := hu_of hr
    refine ⟨_, pss_cons (ps_set (i := 2) scAi.nd rfl (.inr rfl) (pe_fn nu hr (by rfl) (pa_cons (pv 0) pa_nil)))
      (pss_one (ps_ret (pe_lc (own := [("entry", 3)]) (g := gName 3) (tt := tYes) rfl scAi.nd (pi_tup (pv 1)) (blkOk_by (own := [("entry", 3)]) (N := ["n", "table", "numbers", "entry"]) (sc := defScope sAims) (by decide +kernel))
        (fun _ _ _ _ _ => pg_name (i := 3) scAi.nd rfl (.inl rfl)) (fun _ _ _ _ _ => pts_nil)
        (fun _ _ _ _ _ => pe_dget hu (pv 2) (pe_fn go hr1 (by rfl) (pa_cons (pv 0) (pa_cons (pv 3) pa_nil))) (fun _ _ => rfl))))), ?_⟩
    refine ⟨.int n, rfl, n, rfl, hn, fun H1 nb kvs s1 hnb hkv => ?_⟩
    have hv1 := hv.up s1
    obtain ⟨va, xs, rfl, hva, qx⟩ := Dq.tup_inv hv1
    have hxl : xs.length = T.length := by rw [qx.len, List.length_map]
    refine ⟨.ref va, rfl, va, rfl, ⟨xs, SqT.of hva⟩, fun D nD => ?_⟩
    refine lc_itF (walk_tup (K := K) (a := va) (xs := xs)) (fun i => .int ((num n (goalE n (T.getD i [])) : Nat) : Int)) nD (by omega) (fun _ _ => rfl) (fun G s => SqT.of (s _ _ hva)) (fun i x G G' C Cn hi s2 y c => ?_) (fun G acc s2 hD qa => ?_)
    · obtain ⟨rfl, hx⟩ := y
      obtain ⟨e, he, ea, rfl, hea⟩ := ents_get qx hx
      have hgo := hT e (List.mem_of_getElem? he)
      rw [getD_of he] at c
      refine ⟨rfl, ?_⟩
      dsimp only [tYes]
      rw [if_pos rfl]
      refine ⟨.ref nb, rfl, .int n, rfl, .ref ea, rfl, n, ea, e, rfl, by omega, s2 _ _ hea, fun G2 t s3 ht => ?_⟩
      refine ⟨nb, .int (num n (goalE n e) : Nat), rfl, ?_, c _ _ s3 (.int _)⟩
      rw [← hkv _ hgo]
      exact DGet.t (s3 _ _ (s2 _ _ hnb)) (by rw [lotK_v]; exact ht)
    rw [hxl, map_getD (fun e => PyData.int ((num n (goalE n e) : Nat) : Int))] at qa
    have ea : acc = (aimsT n T).map V.int := dqa_int (by unfold aimsT; rw [List.map_map]; exact qa)
    subst ea
    exact q G D (s1.trans s2) (s1.free nD) hD
end
end Kr
namespace Kr
open PySem PySem.Spec PyProof.Rows L2
section
variable {P : Program} {w : World} {K : PySem.W.Frag} {mg : Str → Option Value} {base : Heap}
abbrev nMx : List Str := ["box", "items", "left", "found", "turn"]
theorem scMixed : FnScope nMx ["box", "items"] (defScope sMixed) := ⟨rfl, rfl, rfl, by decide +kernel, rfl, by decide +kernel, by decide +kernel⟩
theorem o_mixed (D : Df K mg "_law_mixed" sMixed ["box", "items"]) (B : Bi mg) (d : Ok P w K mg base 1 "_law_draw" ["box", "many"] spDraw) : Ok P w K mg base 2 "_law_mixed" ["box", "items"] spMixV := by
  refine D.ok fun fa fd F => F.ok scMixed (fun vs H Q E h => ?_) (fun cdv A outer s H vs Q E hr h => ?_)
  · obtain ⟨p, l, a, xs, rfl, _⟩ := h
    rfl
  · obtain ⟨p, l, a, xs, rfl, Dk, ha, hlen, q⟩ := h
    refine ⟨_, pss_cons (ps_par (i := 2) (j := 3) rfl scMixed.nd rfl rfl (by decide) rfl rfl (pa_cons (pe_callTy call_list_of (by rfl) B.list (by decide +kernel) (pa_cons (pv 1) pa_nil)) (pa_cons (pe_lst pa_nil) pa_nil)) (by rfl))
      (pss_cons (ps_for PassesOwn.never rfl (pi_range1 (by rfl) B.range (pa_cons (pe_callB call_len_seq (by rfl) B.len boot_len (pa_cons (pv 2) pa_nil)) pa_nil)) (pg_name (i := 4) scMixed.nd rfl (.inl rfl))
        (pss_one (ps_expr (pe_bm PySem.F.plainAttrs_list PySem.F.slot_list_append PySem.F.type_list_append mt_append (pv 3) (pa_cons
          (pe_bm PySem.F.plainAttrs_list PySem.F.slot_list_pop PySem.F.type_list_pop mt_popAt (pv 2) (pa_cons (pe_fn d hr (by rfl) (pa_cons (pv 0) (pa_cons (pe_callB call_len_seq (by rfl) B.len boot_len (pa_cons (pv 2) pa_nil)) pa_nil))) pa_nil)) pa_nil)))))
      (pss_one (ps_ret (pv 3)))), ?_⟩
    refine ⟨.ref a, rfl, a, _, rfl, .inl (SqL.of (hid_same p l H _ _ ha)), fun lf nlf => ?_⟩
    obtain ⟨nlp, nll⟩ := Dk.new nlf
    obtain ⟨e1, D1, _⟩ := new_dq (o := .lst xs) Dk nlf
    refine ⟨by show 0 ≤ sizeLine; decide, fun f nf => ?_⟩
    obtain ⟨nfp, nfl⟩ := D1.new nf
    have nff : f ≠ lf := fun z => by rw [z, upd_same] at nf; cases nf
    have nf0 : H f = none := by rw [upd_ne nff] at nf; exact nf
    obtain ⟨e2, D2, _⟩ := new_dq (o := .lst []) D1 nf
    have hz0 : upd (upd H lf (.lst xs)) f (.lst []) lf = some (.lst xs) := by rw [upd_ne nff.symm, upd_same]
    refine ⟨_, _, rfl, .ref lf, rfl, lf, _, rfl, .inl (SqL.of hz0), (xs.length : Int), rfl, by omega, by omega, ?_⟩
    refine for_it (walk_rg (n := xs.length)) (fun i σ H6 => ∃ (zs ys : List V) (v4 : Option V), σ = [some (.ref p), some (.ref a), some (.ref lf), some (.ref f), v4] ∧ Deck H6 p l ∧ Ext p l H H6 ∧ H6 lf = some (.lst zs) ∧ H6 f = some (.lst ys) ∧ (ys ++ zs).Perm xs ∧ ys.length = i)
      ⟨xs, [], none, rfl, D2, e1.trans e2, hz0, upd_same, .refl _, rfl⟩ (fun _ _ _ _ _ => trivial) ?_ ?_
    · rintro i x σ H6 H7 hi ⟨zs, ys, v4, rfl, D7, E7, hz7, hy7, hp, hyi⟩ ⟨rfl, rfl⟩
      have hll := hp.length_eq
      rw [List.length_append] at hll
      have hpos : 0 < zs.length := by omega
      refine ⟨.ref f, rfl, .inl ⟨rfl, _, SqL.of hy7⟩, .ref lf, rfl, .inl ⟨rfl, _, SqL.of hz7⟩, .ref p, rfl, .ref lf, rfl, lf, _, rfl, .inl (SqL.of hz7), p, l, _, rfl, D7, by omega, by omega, fun H8 r D8 E8 h0 h1 => ?_⟩
      have hr : r.toNat < zs.length := by omega
      have hz8 : H8 lf = some (.lst zs) := (hid_some (E8 lf _ (by rw [hid_ne nlp nll]; exact hz7))).2.2
      have hy8 : H8 f = some (.lst ys) := (hid_some (E8 f _ (by rw [hid_ne nfp nfl]; exact hy7))).2.2
      have E9 := E7.trans E8
      refine ⟨lf, zs, r, r.toNat, zs[r.toNat], rfl, rfl, hz8, by omega, by omega, seqIx h0 (by omega), List.getElem?_eq_getElem hr, ?_⟩
      refine ⟨f, ys, zs[r.toNat], rfl, rfl, by rw [upd_ne nff]; exact hy8, szl (by omega), ?_⟩
      refine ⟨zs.eraseIdx r.toNat, ys ++ [zs[r.toNat]], _, rfl, (D8.mut nlp nll).mut nfp nfl, Ext.mut (Ext.mut E9 nlf) nf0, ?_, ?_, ?_, ?_⟩
      · rw [upd_ne nff.symm, upd_same]
      · rw [upd_same]
      · rw [List.append_assoc]
        exact (List.Perm.append_left ys (erasev_perm zs hr)).trans hp
      · rw [List.length_append, hyi]
        rfl
    · rintro σ H6 ⟨zs, ys, v4, rfl, D7, E7, hz7, hy7, hp, hyi⟩
      have hll := hp.length_eq
      rw [List.length_append] at hll
      have : zs = [] := List.length_eq_zero_iff.mp (by omega)
      subst this
      exact ⟨.ref f, rfl, q H6 f ys D7 E7 nf0 (by rw [hid_ne nfp nfl]; exact hy7) (by rw [List.append_nil] at hp; exact hp)⟩
end
end Kr
namespace Kr
open PySem PySem.Spec PyProof.Rows L2
section
variable {P : Program} {w : World} {K : PySem.W.Frag} {mg : Str → Option Value} {base : Heap}
abbrev nEv : List Str := ["n", "found", "some", "size", "longer", "own", "x"]
theorem o_every (D0 : Df K mg "_law_every" sEvery ["n"]) (B : Bi mg) : Ok P w K mg base 1 "_law_every" ["n"] spEvery := by
  have scEv : FnScope nEv ["n"] (defScope sEvery) := ⟨rfl, rfl, rfl, by decide +kernel, rfl, by decide +kernel, by decide +kernel⟩
  refine D0.ok fun f fd F => F.ok scEv (fun vs H Q E h => ?_) (fun cdv A outer s H vs Q E hr h => ?_)
  · obtain ⟨n, rfl, _⟩ := h
    rfl
  · obtain ⟨n, rfl, hn, q⟩ := h
    have hu : (cxOf CX0 P w K mg base nEv "_law_every" (defScope sEvery) f cdv A outer s H E).A.units + 64 < cLine := hr.units
    refine ⟨_, pss_cons (ps_par (i := 1) (j := 2) rfl scEv.nd rfl rfl (by decide) rfl rfl (pa_cons (pe_lst (pa_cons (pe_tup pa_nil) pa_nil)) (pa_cons (pe_lst (pa_cons (pe_tup pa_nil) pa_nil)) pa_nil)) (by rfl))
      (pss_cons (ps_for PassesOwn.never rfl (pi_range1 (by rfl) B.range (pa_cons (pv 0) pa_nil)) (pg_name (i := 3) scEv.nd rfl (.inl rfl))
        (pss_cons (ps_set (i := 4) scEv.nd rfl (.inl rfl) (pe_lst pa_nil))
        (pss_cons (ps_for PassesOwn.never rfl (pi_list (pv 2)) (pg_name (i := 5) scEv.nd rfl (.inr rfl))
          (pss_one (ps_set (i := 4) scEv.nd rfl (.inl rfl) (pe_op op_cat (pv 4)
            (pe_lc (own := [("x", 6)]) (g := gName 6) (tt := tYes) rfl scEv.nd (pi_range2 (by rfl) B.range (pa_cons (pe_ifExp (pt_cmpR (op_neD hu) (pv 5) (pe_tup pa_nil) (nomark _)) (pe_op op_add (pe_ix (r := rIxT K) ix_tup (pv 5) (pe_un un_neg pe_int) (fun _ _ => rfl)) pe_int) pe_int) (pa_cons (pv 0) pa_nil))) (blkOk_by (own := [("x", 6)]) (N := nEv) (sc := defScope sEvery) (by decide +kernel))
              (fun _ _ _ _ _ => pg_name (i := 6) scEv.nd rfl (.inl rfl)) (fun _ _ _ _ _ => pts_nil)
              (fun _ _ _ _ _ => pe_op (r := rCatA K) op_catA (pv 5) (pe_tup (pa_cons (pv 6) pa_nil))))))))
        (pss_one (ps_par (i := 1) (j := 2) rfl scEv.nd rfl rfl (by decide) rfl rfl (pa_cons (pe_op op_cat (pv 1) (pv 4)) (pa_cons (pv 4) pa_nil)) (by rfl))))))
      (pss_one (ps_ret (pv 1)))), ?_⟩
    refine ⟨by show 0 ≤ sizeLine; decide, fun t0 nt0 => ⟨by show 1 ≤ sizeLine; decide, fun l0 nl0 => ⟨by show 0 ≤ sizeLine; decide, fun t1 nt1 => ⟨by show 1 ≤ sizeLine; decide, fun l1 nl1 => ⟨_, _, rfl, ?_⟩⟩⟩⟩⟩
    have s1 := same_new (o := .tup []) nt0
    have s2 := same_new (o := .lst [.ref t0]) nl0
    have s3 := same_new (o := .tup []) nt1
    have s4 := same_new (o := .lst [.ref t1]) nl1
    have h0 : Dq (upd (upd (upd (upd H t0 (.tup [])) l0 (.lst [.ref t0])) t1 (.tup [])) l1 (.lst [.ref t1])) (.ref l0) (.list (([[]] : List (List Nat)).map lotD)) := Dq.up s4 (Dq.up s3 (.lst upd_same (.cons (lot_at (l := []) (s2 _ _ upd_same)) .nil)))
    have h1 : Dq (upd (upd (upd (upd H t0 (.tup [])) l0 (.lst [.ref t0])) t1 (.tup [])) l1 (.lst [.ref t1])) (.ref l1) (.list (([[]] : List (List Nat)).map lotD)) := .lst upd_same (.cons (lot_at (l := []) (s4 _ _ upd_same)) .nil)
    have s14 := s1.trans (s2.trans (s3.trans s4))
    generalize upd (upd (upd (upd H t0 (.tup [])) l0 (.lst [.ref t0])) t1 (.tup [])) l1 (.lst [.ref t1]) = Ha at s14 h0 h1
    clear s1 s2 s3 s4 nt0 nl0 nt1 nl1
    refine ⟨.int n, rfl, (n : Int), rfl, by omega, by omega, for_it (walk_rg (n := n)) (fun i σ G => ∃ (fo so : V) (v3 v4 v5 : Option V), σ = [some (.int n), some fo, some so, v3, v4, v5, none] ∧ Same H G ∧ Dq G fo (.list (((List.range (i + 1)).flatMap (lotsL n)).map lotD)) ∧ Dq G so (.list ((lotsL n i).map lotD)))
      ⟨_, _, none, none, none, rfl, s14, h0, h1⟩ (fun _ _ _ _ _ => trivial) ?_ ?_⟩
    · rintro i x σ G0 G1 hi ⟨fo, so, v3, v4, v5, rfl, sm, hfo, hso⟩ ⟨rfl, rfl⟩
      refine ⟨by show 0 ≤ sizeLine; decide, fun f0 nf0 => ?_⟩
      have s5 := same_new (o := .lst []) nf0
      have hso1 := hso.up s5
      have hfo1 := hfo.up s5
      have hf1 : upd G1 f0 (.lst []) f0 = some (.lst []) := upd_same
      have sm1 := sm.trans s5
      generalize upd G1 f0 (.lst []) = G3 at hso1 hfo1 hf1 sm1
      have hful : ((lotsL n i).flatMap (exts n)).length < 1000 := by
        have h2 := lots_len n (by omega) (i + 1) (by omega)
        have h3 := ch_small n (by omega) (i + 1) (by omega)
        show (lotsL n (i + 1)).length < 1000
        omega
      cases hso1 with
      | @lst L us _ hL qus =>
      have hul : us.length = (lotsL n i).length := by rw [qus.len, List.length_map]
      refine ⟨.ref L, rfl, L, rfl, ⟨us, SqL.of hL⟩, for_list (K := K) (xs := us) (fun j σ G => ∃ (lo : V) (v5 : Option V), σ = [some (.int n), some fo, some (.ref L), some (.int i), some lo, v5, none] ∧ Same G3 G ∧ Dq G lo (.list ((((lotsL n i).take j).flatMap (exts n)).map lotD)))
        ⟨_, _, rfl, Same.refl _, .lst hf1 .nil⟩ (fun j σ G _ ⟨_, _, _, s2, _⟩ => SqL.of (s2 _ _ hL)) ?_ ?_⟩
      · rintro j x σ G hx ⟨lo, v5, rfl, s2, hlo⟩
        obtain ⟨l, hl, a, rfl, ha0⟩ := lots_get qus hx
        have ha := s2 _ _ ha0
        obtain ⟨hll, hlm⟩ := lots_in n i l (List.mem_of_getElem? hl)
        have hpre := flat_le (lotsL n i) (exts n) (j + 1)
        rw [flat_take hl, List.length_append] at hpre
        have hel : (exts n l).length = n - nx l := by unfold exts; rw [List.length_map, List.length_range']
        have hnx : nx l ≤ n := by
          by_cases hl0 : l = []
          · subst hl0
            rw [nx_nil]
            omega
          · have e : l = l.dropLast ++ [l.getLast hl0] := (List.dropLast_concat_getLast hl0).symm
            have := hlm _ (List.getLast_mem hl0)
            rw [e, nx_snoc]
            omega
        refine ⟨lo, rfl, ?_⟩
        refine next_ne (l := l) rfl ha fun G2 s3 => ?_
        refine ⟨.int n, rfl, _, _, rfl, ⟨by omega, by omega, by omega, by omega⟩, fun D nD => ?_⟩
        have hnn : ((n : Int) - (nx l : Nat)).toNat = n - nx l := by omega
        rw [hnn]
        refine lc_it (walk_range (lo := (nx l : Nat)) (n := n - nx l)) (fun k G4 => ∃ acc, G4 D = some (.lst acc) ∧ Same G2 G4 ∧ DqA G4 acc (((List.range' (nx l) k).map fun x => l ++ [x]).map lotD)) ⟨[], upd_same, same_new nD, .nil⟩ (fun _ _ _ _ => trivial) ?_ ?_
        · rintro k x G4 G4' hk ⟨acc, hD, s4, qa⟩ ⟨rfl, rfl⟩
          refine ⟨rfl, ?_⟩
          dsimp only [tYes]
          rw [if_pos rfl]
          have ha4 := s4 _ _ (s3 _ _ ha)
          refine ⟨.ref a, rfl, .int _, rfl, by show 1 ≤ sizeLine; decide, fun u nu => ?_⟩
          have su := same_new (o := .tup [.int ((nx l : Nat) + (k : Int))]) nu
          refine catA_k (su _ _ ha4) upd_same (by rw [lv_len, hll]; show _ + 1 ≤ _; omega) fun y H5 s5 hy => ?_
          have hD5 := s5 _ _ (su _ _ hD)
          have hl2 : acc.length = k := by rw [qa.len, List.length_map, List.length_map, List.length_range']
          refine ⟨acc, hD5, szm (by omega), acc ++ [.ref y], upd_same, fun b o hb => ?_, ?_⟩
          · rw [upd_ne (ne_of_none hb nD)]
            exact s5 _ _ (su _ _ (s4 _ _ hb))
          · have ts : TS H5 (upd H5 D (.lst (acc ++ [.ref y]))) := TS.lst hD5
            rw [range1_succ, List.map_append (f := fun x => l ++ [x]), List.map_append (f := lotD)]
            refine dqa_snoc (DqA.upT ts (lots_flat _) ((qa.up su).up s5)) (Dq.upT ts (lot_flat _) ?_)
            refine lot_at ?_
            rw [hy, lv_snoc]
            simp
        · rintro G4 ⟨acc, hD, s4, qa⟩
          have hf4 := (hlo.up s3).up s4
          cases hf4 with
          | @lst fa fs _ hfa qfs =>
          refine ⟨fa, D, fs, acc, rfl, rfl, hfa, hD, ?_, fun p np => ?_⟩
          · have e1 : fs.length = (((lotsL n i).take j).flatMap (exts n)).length := by rw [qfs.len, List.length_map]
            have e2 : acc.length = (exts n l).length := by rw [qa.len, List.length_map]; rfl
            exact sz (by rw [e1, e2]; omega)
          · have sp := same_new (o := .lst (fs ++ acc)) np
            refine ⟨.ref p, _, rfl, s2.trans (s3.trans (s4.trans sp)), ?_⟩
            rw [flat_take hl, List.map_append (f := lotD)]
            exact .lst upd_same ((qfs.up sp).app (qa.up sp))
      · rintro σ G ⟨lo, v5, rfl, s2, hlo⟩
        rw [hul, List.take_length] at hlo
        have hlo : Dq G lo (.list ((lotsL n (i + 1)).map lotD)) := hlo
        have hfo2 := hfo1.up s2
        cases hfo2 with
        | @lst fa fs _ hfa qfs =>
        cases hlo with
        | @lst la ls _ hla qls =>
        have hb := every_few n (by omega) (i + 2) (by omega)
        have er : (List.range (i + 2)).flatMap (lotsL n) = (List.range (i + 1)).flatMap (lotsL n) ++ lotsL n (i + 1) := by
          rw [List.range_succ, List.flatMap_append]
          simp
        rw [er, List.length_append] at hb
        refine ⟨.ref fa, rfl, .ref la, rfl, fa, la, fs, ls, rfl, rfl, hfa, hla, ?_, fun p np => ?_⟩
        · rw [qfs.len, qls.len, List.length_map, List.length_map]
          exact sz (by omega)
        · have sp := same_new (o := .lst (fs ++ ls)) np
          refine ⟨.ref la, rfl, _, _, rfl, .ref p, .ref la, _, _, _, rfl, sm1.trans (s2.trans sp), ?_, .lst (sp _ _ hla) (qls.up sp)⟩
          rw [er, List.map_append (f := lotD)]
          exact .lst upd_same ((qfs.up sp).app (qls.up sp))
    · rintro σ G ⟨fo, so, v3, v4, v5, rfl, sm, hfo, hso⟩
      exact ⟨fo, rfl, q _ _ sm hfo⟩
end
end Kr
namespace Kr
open PySem PySem.Spec PyProof.Rows L2
section
variable {P : Program} {w : World} {K : PySem.W.Frag} {mg : Str → Option Value} {base : Heap}
abbrev nLe : List Str := ["n", "lies", "found", "y", "x"]
theorem o_lEntry (D0 : Df K mg "_law_entry" sEntry ["n", "lies"]) (B : Bi mg) : Ok P w K mg base 1 "_law_entry" ["n", "lies"] spLEnt := by
  have scLe : FnScope nLe ["n", "lies"] (defScope sEntry) := ⟨rfl, rfl, rfl, by decide +kernel, rfl, by decide +kernel, by decide +kernel⟩
  refine D0.ok fun f fd F => F.ok scLe (fun vs H Q E h => ?_) (fun cdv A outer s H vs Q E hr h => ?_)
  · obtain ⟨n, a, ls, rfl, _⟩ := h
    rfl
  · obtain ⟨n, a, ls, rfl, hn0, hn, ha, hll, hlx, q⟩ := h
    refine ⟨_, pss_cons (ps_set (i := 2) scLe.nd rfl (.inl rfl) (pe_op op_rep (pe_lst (pa_cons (pe_un un_neg pe_int) pa_nil)) (pv 0)))
      (pss_cons (ps_for PassesOwn.never rfl (pi_enum (by rfl) B.enumerate (pa_cons (pv 1) pa_nil)) (pg_tup rfl (pgs_cons (pg_name (i := 3) scLe.nd rfl (.inl rfl)) (pgs_cons (pg_name (i := 4) scLe.nd rfl (.inl rfl)) pgs_nil)))
        (pss_one (ps_if (pt_cmpR op_ge (pv 4) pe_int (nomark _)) (pss_one (ps_asg (pv 3) (pg_sub (pv 2) (pv 4) set_list))) pss_nil)))
      (pss_one (ps_ret (pe_callTy call_tuple_of (by rfl) B.tuple (by decide +kernel) (pa_cons (pv 2) pa_nil))))), ?_⟩
    refine ⟨1, rfl, by show 1 ≤ sizeLine; decide, fun l1 nl1 => ⟨.int n, rfl, l1, (n : Int), [.int (-1)], rfl, rfl, upd_same, by omega, by omega, by show 1 * _ ≤ sizeLine; exact sz (by omega), fun fo nfo => ?_⟩⟩
    have s1 := same_new (o := .lst [.int (-1)]) nl1
    have s2 := same_new (o := .lst (List.replicate (n : Int).toNat [V.int (-1)]).flatten) nfo
    have hfo : upd (upd H l1 (.lst [.int (-1)])) fo (.lst (List.replicate (n : Int).toNat [V.int (-1)]).flatten) fo = some (.lst ((List.replicate n (-1)).map V.int)) := by
      rw [upd_same, Int.toNat_natCast, List.map_replicate]
      exact congrArg _ (congrArg _ (by
        have : ∀ (k : Nat), (List.replicate k [V.int (-1)]).flatten = List.replicate k (V.int (-1)) := fun k => by
          induction k with
          | zero => rfl
          | succ k ih => rw [List.replicate_succ, List.flatten_cons, ih]; rfl
        exact this n))
    have s12 := s1.trans s2
    have nf : ∀ b o, H b = some o → b ≠ fo := fun b o hb => ne_of_none (s1 _ _ hb) nfo
    generalize upd (upd H l1 (.lst [.int (-1)])) fo (.lst (List.replicate (n : Int).toNat [V.int (-1)]).flatten) = H2 at hfo s12
    refine ⟨.ref a, rfl, a, _, rfl, SqL.of (s12 _ _ ha), for_it walk_enum (fun i σ G => ∃ (acc : List Int) (v3 v4 : Option V), σ = [some (.int n), some (.ref a), some (.ref fo), v3, v4] ∧ (∀ b o, H b = some o → G b = some o) ∧ G fo = some (.lst (acc.map V.int)) ∧ acc.length = n ∧ setGo i (ls.drop i) acc = lawE n ls)
      ⟨_, none, none, rfl, s12, hfo, List.length_replicate, rfl⟩ (fun i σ G _ ⟨_, _, _, _, k, _⟩ => SqL.of (k _ _ ha)) ?_ ?_⟩
    · rintro i _ σ G _ hi ⟨acc, v3, v4, rfl, k, hG, hal, eg⟩ ⟨T, x1, x2, rfl, nT, rfl, e1, e2⟩
      cases Option.some.inj e1
      rw [List.length_map] at hi
      have e3 : x2 = .int ls[i] := by
        have e4 : (ls.map V.int)[i]? = some x2 := e2
        rw [List.getElem?_map, List.getElem?_eq_getElem hi] at e4
        exact (Option.some.inj e4).symm
      subst e3
      rw [List.drop_eq_getElem_cons hi] at eg
      have hz := hlx _ (List.getElem_mem hi)
      generalize ls[i] = z at eg hz
      have sT := same_new (o := .tup [.int (i : Nat), .int z]) nT
      have hGT := sT _ _ hG
      simp only [setGo] at eg
      refine ⟨T, [.int (i : Nat), .int z], rfl, SqT.of upd_same, rfl, .int (i : Nat), [.int z], rfl, .int z, [], rfl, rfl, ?_⟩
      refine ⟨.int z, rfl, _, _, rfl, rfl, _, rfl, ite2 (fun hc => ?_) (fun hc => ?_)⟩
      · have hz0 : 0 ≤ z := of_decide_eq_true hc
        rw [if_pos hz0] at eg
        obtain ⟨m, rfl⟩ : ∃ m : Nat, z = m := ⟨z.toNat, by omega⟩
        rw [Int.toNat_natCast] at eg
        refine ⟨.int (i : Nat), rfl, .ref fo, rfl, .int m, rfl, fo, _, m, m, rfl, rfl, hGT, ixN_nat (by rw [List.length_map, hal]; omega), acc.set m (i : Int), _, _, rfl, fun b o hb => ?_, ?_, by rw [List.length_set]; exact hal, eg⟩
        · rw [upd_ne (nf b o hb)]
          exact sT _ _ (k _ _ hb)
        · rw [upd_same, List.map_set]
      · have hz0 : ¬ 0 ≤ z := fun y => hc (decide_eq_true y)
        rw [if_neg hz0] at eg
        exact ⟨acc, _, _, rfl, fun b o hb => sT _ _ (k _ _ hb), hGT, hal, eg⟩
    · rintro σ G ⟨acc, v3, v4, rfl, k, hG, hal, eg⟩
      rw [List.length_map, List.drop_of_length_le (Nat.le_refl _)] at eg
      have ea : acc = lawE n ls := eg
      rw [ea] at hG
      exact ⟨.ref fo, rfl, fo, _, rfl, .inl ⟨SqL.of hG, fun t nt => q _ t (fun b o hb => same_new nt _ _ (k _ _ hb)) upd_same⟩⟩
end
end Kr
namespace Kr
open PySem PySem.Spec PyProof.Rows L2
section
variable {P : Program} {w : World} {K : PySem.W.Frag} {mg : Str → Option Value} {base : Heap}
abbrev nMd : List Str := ["n", "moves", "found", "keys", "lies", "own", "a", "b", "x"]
theorem o_made (D0 : Df K mg "_law_made" sMade ["n", "moves"]) (B : Bi mg) (ev : Ok P w K mg base 1 "_law_every" ["n"] spEvery) (le : Ok P w K mg base 1 "_law_entry" ["n", "lies"] spLEnt) : Ok P w K mg base 2 "_law_made" ["n", "moves"] spMade := by
  have scMd : FnScope nMd ["n", "moves"] (defScope sMade) := ⟨rfl, rfl, rfl, by decide +kernel, rfl, by decide +kernel, by decide +kernel⟩
  refine D0.ok fun f fd F => F.ok scMd (fun vs H Q E h => ?_) (fun cdv A outer s H vs Q E hr h => ?_)
  · obtain ⟨n, mo, xs, ms, rfl, _⟩ := h
    rfl
  · obtain ⟨n, mo, xs, ms, rfl, hn0, hn, hmo, hxm, hde, hms, q⟩ := h
    have hu : (cxOf CX0 P w K mg base nMd "_law_made" (defScope sMade) f cdv A outer s H E).A.units + 64 < cLine := hr.units
    refine ⟨_, pss_cons (ps_set (i := 2) scMd.nd rfl (.inl rfl) (pe_lst pa_nil))
      (pss_cons (ps_for PassesOwn.never rfl (pi_list (pe_fn ev hr (by rfl) (pa_cons (pv 0) pa_nil))) (pg_name (i := 3) scMd.nd rfl (.inr rfl))
        (pss_cons (ps_set (i := 4) scMd.nd rfl (.inr rfl) (pe_lc (own := [("x", 8)]) (g := gName 8) (tt := tYes) rfl scMd.nd (pi_range1 (by rfl) B.range (pa_cons (pv 0) pa_nil)) (blkOk_by (own := [("x", 8)]) (N := nMd) (sc := defScope sMade) (by decide +kernel)) (fun _ _ _ _ _ => pg_name (i := 8) scMd.nd rfl (.inl rfl)) (fun _ _ _ _ _ => pts_nil)
            (fun _ _ _ _ _ => pe_ifExp (pt_cmpR (r := rIn K false) op_in_seq (pv 8) (pv 3) rfl) (pe_un un_neg pe_int) (pv 8))))
        (pss_cons (ps_for PassesOwn.never rfl (pi_list (pv 1)) (pg_tup rfl (pgs_cons (pg_name (i := 5) scMd.nd rfl (.inl rfl)) (pgs_cons (pg_name (i := 6) scMd.nd rfl (.inl rfl)) (pgs_cons (pg_name (i := 7) scMd.nd rfl (.inl rfl)) pgs_nil))))
          (pss_one (ps_if (pt_cmpR (op_eqN hu) (pe_lc (own := [("x", 8)]) (g := gName 8) rfl scMd.nd (pi_tup (pv 5)) (blkOk_by (own := [("x", 8)]) (N := nMd) (sc := defScope sMade) (by decide +kernel)) (fun _ _ _ _ _ => pg_name (i := 8) scMd.nd rfl (.inl rfl))
              (fun _ _ _ _ _ => pts_one (pt_cmpR op_ge (pe_ix (r := rIxL K) ix_list (pv 4) (pv 8) (fun _ _ => rfl)) pe_int (nomark _))) (fun _ _ _ _ _ => pe_int)) (pe_lst pa_nil) (nomark _))
            (pss_one (ps_asg (pe_tup (pa_cons (pe_ix ix_list (pv 4) (pv 7) (fun _ _ => rfl)) (pa_cons (pe_ix ix_list (pv 4) (pv 6) (fun _ _ => rfl)) pa_nil))) (pg_tup rfl (pgs_cons (pg_sub (pv 4) (pv 6) set_list) (pgs_cons (pg_sub (pv 4) (pv 7) set_list) pgs_nil))))) pss_nil)))
        (pss_one (ps_expr (pe_bm PySem.F.plainAttrs_list PySem.F.slot_list_append PySem.F.type_list_append mt_append (pv 2) (pa_cons (pe_fn le hr (by rfl) (pa_cons (pv 0) (pa_cons (pv 4) pa_nil))) pa_nil)))))))
      (pss_one (ps_ret (pe_callTy call_tuple_of (by rfl) B.tuple (by decide +kernel) (pa_cons (pv 2) pa_nil))))), ?_⟩
    refine ⟨by show 0 ≤ sizeLine; decide, fun fo nfo => ?_⟩
    have s1 := same_new (o := .lst []) nfo
    have hfo : upd H fo (.lst []) fo = some (.lst []) := upd_same
    have nf : ∀ b o, H b = some o → b ≠ fo := fun b o hb => ne_of_none hb nfo
    generalize upd H fo (.lst []) = H1 at s1 hfo
    refine ⟨.int n, rfl, n, rfl, hn, fun H2 v s2 hv => ?_⟩
    cases hv with
    | @lst L ks _ hL qk =>
    have hal := all_len n (by omega)
    have hal2 := all_few n (by omega)
    have hkl : ks.length = (allL n).length := by rw [qk.len, List.length_map]
    have hfo2 := s2 _ _ hfo
    have nL : L ≠ fo := fun z => by
      rw [z, hfo2] at hL
      cases hL
      rw [hal] at hkl
      have : 0 < 2 ^ n := Nat.pow_pos (by decide)
      rw [List.length_nil] at hkl
      omega
    refine ⟨L, rfl, ⟨_, SqL.of hL⟩, for_list (K := K) (xs := ks) (fun i σ G => ∃ (v3 v4 v5 v6 v7 : Option V) (acc : List V), σ = [some (.int n), some (.ref mo), some (.ref fo), v3, v4, v5, v6, v7, none] ∧
        (∀ b o, b ≠ fo → H2 b = some o → G b = some o) ∧ G fo = some (.lst acc) ∧ DqA G acc (((allL n).take i).map fun l => entD (madeE n ms l)))
      ⟨_, _, _, _, _, [], rfl, fun _ _ _ h => h, hfo2, .nil⟩ (fun i σ G _ ⟨_, _, _, _, _, _, _, k, _⟩ => SqL.of (k _ _ nL hL)) ?_ ?_⟩
    · rintro i x σ G hx ⟨v3, v4, v5, v6, v7, acc, rfl, k, hG, qac⟩
      have hil := (List.getElem?_eq_some_iff.mp hx).1
      obtain ⟨l, hl, lb, rfl, hlb⟩ := lots_get qk hx
      have nlb : lb ≠ fo := ne_of hlb hfo2 (by intro z; cases z)
      have hlb' := k _ _ nlb hlb
      have kH : ∀ b o, H b = some o → G b = some o := fun b o hb => k _ _ (nf _ _ hb) (s2 _ _ (s1 _ _ hb))
      have acl : acc.length = i := by
        rw [qac.len, List.length_map, List.length_take]
        omega
      refine ⟨.int n, rfl, (n : Int), rfl, by omega, by omega, fun li nli => ?_⟩
      refine lc_itF (walk_rg (n := n)) (fun x => .int (if x ∈ l then -1 else ((x : Nat) : Int))) nli (by omega) (fun _ _ => rfl) (fun _ _ => trivial) (fun j y G2 G2' C Cn hj s5 y c => ?_) (fun G3 bs s5 hli qb => ?_)
      · obtain ⟨rfl, rfl⟩ := y
        refine ⟨rfl, ?_⟩
        dsimp only [tYes]
        rw [if_pos rfl]
        refine ⟨.int j, rfl, .ref lb, rfl, lb, lv l, rfl, .inr (SqT.of (s5 _ _ hlb')), rfl, lv_fl l, _, rfl, ?_⟩
        rw [inV_lot]
        by_cases hm : j ∈ l
        · rw [decide_eq_true hm]
          rw [if_pos hm] at c
          exact iteT ⟨1, rfl, c _ _ (Same.refl _) (.int _)⟩
        · rw [decide_eq_false hm]
          rw [if_neg hm] at c
          exact iteF ⟨_, rfl, c _ _ (Same.refl _) (.int _)⟩
      have ebs : bs = (stL n l).map V.int := dqa_int (by unfold stL; rw [List.map_map]; exact qb)
      subst ebs
      have hstl : (stL n l).length = n := by unfold stL; rw [List.length_map, List.length_range]
      have hstx : ∀ x ∈ stL n l, x < n := fun x hx => by
        unfold stL at hx
        obtain ⟨y, hy, rfl⟩ := List.mem_map.mp hx
        have := List.mem_range.mp hy
        split <;> omega
      have nl : ∀ b o, G b = some o → b ≠ li := fun b o hb => ne_of_none hb nli
      dsimp only [tNext]
      refine ⟨.ref mo, rfl, mo, rfl, ⟨_, SqL.of (s5 _ _ (kH _ _ hmo))⟩, for_list (K := K) (xs := xs) (fun j σ G5 => ∃ (v5 v6 v7 : Option V) (ls : List Int), σ = [some (.int n), some (.ref mo), some (.ref fo), some (.ref lb), some (.ref li), v5, v6, v7, none] ∧
          (∀ b o, G b = some o → G5 b = some o) ∧ G5 li = some (.lst (ls.map V.int)) ∧ ls = (ms.take j).foldl mvL (stL n l) ∧ ls.length = n ∧ ∀ x ∈ ls, x < n)
        ⟨_, _, _, stL n l, rfl, s5, hli, rfl, hstl, hstx⟩ (fun j σ G5 _ ⟨_, _, _, _, _, k5, _⟩ => SqL.of (k5 _ _ (kH _ _ hmo))) ?_ ?_⟩
      · rintro j y σ G5 hy ⟨v5, v6, v7, ls, rfl, k5, hli5, els, hls, hlx⟩
        have hjl := (List.getElem?_eq_some_iff.mp hy).1
        obtain ⟨m, hm⟩ : ∃ m, ms[j]? = some m := ⟨_, List.getElem?_eq_getElem (by omega)⟩
        obtain ⟨d, qa, rfl, hd, hq⟩ := hde j y m hy hm
        obtain ⟨⟨ha, hb⟩, hol, hox⟩ := hms m (List.mem_of_getElem? hm)
        have hd5 := k5 _ _ (kH _ _ hd)
        have hq5 := k5 _ _ (kH _ _ hq)
        refine ⟨d, _, rfl, SqT.of hd5, rfl, .ref qa, [.int m.2.1, .int m.2.2], rfl, .int m.2.1, [.int m.2.2], rfl, .int m.2.2, [], rfl, rfl, ?_⟩
        have etk : (ms.take (j + 1)).foldl mvL (stL n l) = mvL ls m := by
          rw [List.take_add_one, hm, List.foldl_append, ← els]
          rfl
        refine ⟨.ref qa, rfl, qa, rfl, ⟨_, SqT.of hq5⟩, fun D nD => ?_⟩
        refine lc_it (walk_tup (K := K) (a := qa) (xs := lv m.1)) (fun j G => ∃ zs : List V, G D = some (.lst zs) ∧ Same G5 G ∧ zs.length ≤ j ∧ zs.isEmpty = (m.1.take j).all (fun x => !decide (0 ≤ ls.getD x 0))) ⟨[], upd_same, same_new nD, Nat.le_refl _, rfl⟩ (fun j G _ ⟨_, _, sm, _⟩ => SqT.of (sm _ _ hq5)) ?_ ?_
        · rintro t x G6 G6' ht ⟨zs, hD, sm, hzl, hze⟩ ⟨rfl, hx2⟩
          rw [lv_len] at ht
          obtain ⟨z, hz, rfl⟩ : ∃ z, m.1[t]? = some z ∧ V.int (z : Nat) = x := by
            unfold lv at hx2
            rw [List.getElem?_map] at hx2
            cases e : m.1[t]? with
            | none => rw [e] at hx2; cases hx2
            | some y => rw [e] at hx2; exact ⟨y, rfl, Option.some.inj hx2⟩
          have hzn := hox z (List.mem_of_getElem? hz)
          have etk2 : (m.1.take (t + 1)).all (fun x => !decide (0 ≤ ls.getD x 0)) = ((m.1.take t).all (fun x => !decide (0 ≤ ls.getD x 0)) && !decide (0 ≤ ls.getD z 0)) := by
            rw [List.take_add_one, hz, List.all_append]
            simp
          refine ⟨rfl, .ref li, rfl, .int z, rfl, li, _, z, .int (ls.getD z 0), rfl, rfl, SqL.of (sm _ _ hli5), atI_nat (by rw [List.getElem?_map, getD_get (by omega)]; rfl), _, _, rfl, rfl, _, rfl, ite2 (fun c => ?_) (fun c => ?_)⟩
          · have c2 : 0 ≤ ls.getD z 0 := of_decide_eq_true c
            refine ⟨zs, hD, szl (by omega), zs ++ [.int 1], upd_same, fun b o hb' => ?_, by rw [List.length_append]; show _ + 1 ≤ _; omega, ?_⟩
            · rw [upd_ne (ne_of_none hb' nD)]
              exact sm _ _ hb'
            · rw [etk2, decide_eq_true c2, Bool.not_true, Bool.and_false]
              cases zs <;> rfl
          · have c2 : ¬ 0 ≤ ls.getD z 0 := fun y => c (decide_eq_true y)
            refine ⟨zs, hD, sm, by omega, ?_⟩
            rw [etk2, decide_eq_false c2, Bool.not_false, Bool.and_true]
            exact hze
        · rintro G6 ⟨zs, hD, sm, hzl, hze⟩
          rw [lv_len, List.take_length] at hze
          refine ⟨by show 0 ≤ sizeLine; decide, fun e ne => ⟨D, e, zs, rfl, rfl, same_new ne _ _ hD, upd_same, _, rfl, ?_⟩⟩
          have sm7 := sm.trans (same_new (o := .lst []) ne)
          generalize upd G6 e (.lst []) = G7 at sm7
          have hli7 := sm7 _ _ hli5
          rw [hze]
          cases hc : m.1.all (fun x => !decide (0 ≤ ls.getD x 0)) with
          | false =>
            refine iteF ⟨_, _, _, ls, rfl, fun b o hb' => sm7 _ _ (k5 _ _ hb'), hli7, ?_, hls, hlx⟩
            rw [etk]
            unfold mvL
            rw [hc]
            rfl
          | true =>
            refine iteT ⟨.ref li, rfl, .int m.2.2, rfl, li, _, m.2.2, .int (ls.getD m.2.2 0), rfl, rfl, SqL.of hli7, atI_nat (by rw [List.getElem?_map, getD_get (by omega)]; rfl), ?_⟩
            refine ⟨.ref li, rfl, .int m.2.1, rfl, li, _, m.2.1, .int (ls.getD m.2.1 0), rfl, rfl, SqL.of hli7, atI_nat (by rw [List.getElem?_map, getD_get (by omega)]; rfl), ?_⟩
            refine ⟨by show 2 ≤ sizeLine; decide, fun t nt => ⟨t, _, rfl, SqT.of upd_same, rfl, .int (ls.getD m.2.2 0), [.int (ls.getD m.2.1 0)], rfl, ?_⟩⟩
            have st := same_new (o := .tup [.int (ls.getD m.2.2 0), .int (ls.getD m.2.1 0)]) nt
            have hli8 := st _ _ hli7
            have sm8 := sm7.trans st
            generalize upd G7 t (.tup [.int (ls.getD m.2.2 0), .int (ls.getD m.2.1 0)]) = G8 at hli8 sm8
            refine ⟨.ref li, rfl, .int m.2.1, rfl, li, _, m.2.1, m.2.1, rfl, rfl, hli8, ixN_nat (by rw [List.length_map]; omega), .int (ls.getD m.2.1 0), [], rfl, ?_⟩
            refine ⟨.ref li, rfl, .int m.2.2, rfl, li, _, m.2.2, m.2.2, rfl, rfl, upd_same, ixN_nat (by rw [List.length_set, List.length_map]; omega), rfl, ?_⟩
            rw [upd_upd]
            refine ⟨_, _, _, (ls.set m.2.1 (ls.getD m.2.2 0)).set m.2.2 (ls.getD m.2.1 0), rfl, fun b o hb' => ?_, by rw [upd_same, List.map_set, List.map_set], ?_, by rw [List.length_set, List.length_set]; exact hls, set_lt (getD_lt (by omega) hlx _) (set_lt (getD_lt (by omega) hlx _) hlx)⟩
            · rw [upd_ne (nl _ _ hb')]
              exact sm8 _ _ (k5 _ _ hb')
            · rw [etk]
              unfold mvL
              rw [if_pos hc]
      · rintro σ G5 ⟨v5, v6, v7, ls, rfl, k5, hli5, els, hls, hlx⟩
        rw [hxm, List.take_length] at els
        have hG5 := k5 _ _ hG
        refine ⟨.ref fo, rfl, .inl ⟨rfl, _, SqL.of hG5⟩, .int n, rfl, .ref li, rfl, n, li, ls, rfl, hn0, hn, hli5, by omega, hlx, fun G6 t s6 ht => ?_⟩
        have ts : TS G6 (upd G6 fo (.lst (acc ++ [.ref t]))) := TS.lst (s6 _ _ hG5)
        refine ⟨fo, acc, .ref t, rfl, rfl, s6 _ _ hG5, szl (by omega), _, _, _, _, _, _, rfl, fun b o hb ho => ?_, upd_same, ?_⟩
        · rw [upd_ne hb]
          exact s6 _ _ (k5 _ _ (k _ _ hb ho))
        · rw [take_snoc hl]
          refine dqa_snoc (DqA.upT ts (flatTA_of fun d hd => ?_) ((qac.up k5).up s6)) (Dq.upT ts (ent_flat _) (ent_at ?_))
          · obtain ⟨l', _, rfl⟩ := List.mem_map.mp hd
            exact ent_flat _
          · rw [ht, els]
            rfl
    · rintro σ G ⟨v3, v4, v5, v6, v7, acc, rfl, k, hG, qac⟩
      rw [hkl, List.take_length] at qac
      refine ⟨.ref fo, rfl, fo, acc, rfl, .inl ⟨SqL.of hG, fun t nt => q _ _ (fun b' o hb => same_new nt _ _ (k _ _ (nf _ _ hb) (s2 _ _ (s1 _ _ hb)))) (.tup upd_same ?_)⟩⟩
      unfold madeT
      rw [List.map_map]
      exact qac.up (same_new nt)
end
end Kr
namespace Kr
open PySem PySem.Spec PyProof.Rows L2
section
variable {P : Program} {w : World} {K : PySem.W.Frag} {mg : Str → Option Value} {base : Heap}
theorem o_lPlaces (D0 : Df K mg "_law_places" sLPlaces ["n"]) (B : Bi mg) (ev : Ok P w K mg base 1 "_law_every" ["n"] spEvery) : Ok P w K mg base 2 "_law_places" ["n"] spNumbers := by
  have scPl : FnScope ["n", "found", "number", "keys"] ["n"] (defScope sLPlaces) := ⟨rfl, rfl, rfl, by decide +kernel, rfl, by decide +kernel, by decide +kernel⟩
  refine D0.ok fun f fd F => F.ok scPl (fun vs H Q E h => ?_) (fun cdv A outer s H vs Q E hr h => ?_)
  · obtain ⟨n, rfl, _⟩ := h
    rfl
  · obtain ⟨n, rfl, hn, q⟩ := h
    have hu := hu_of hr
    refine ⟨_, pss_cons (ps_set (i := 1) scPl.nd rfl (.inl rfl) pe_dnewT)
      (pss_cons (ps_for PassesOwn.never rfl (pi_enum (by rfl) B.enumerate (pa_cons (pe_fn ev hr (by rfl) (pa_cons (pv 0) pa_nil)) pa_nil)) (pg_tup rfl (pgs_cons (pg_name (i := 2) scPl.nd rfl (.inl rfl)) (pgs_cons (pg_name (i := 3) scPl.nd rfl (.inl rfl)) pgs_nil)))
        (pss_one (ps_dput hu (pv 1) (pv 3) (pv 2) rfl)))
      (pss_one (ps_ret (pv 1)))), ?_⟩
    intro D nD
    have s1 := same_new (o := .dT []) nD
    have hD : upd H D (.dT []) D = some (.dT []) := upd_same
    have nf : ∀ b o, H b = some o → b ≠ D := fun b o hb => ne_of_none hb nD
    generalize upd H D (.dT []) = H1 at s1 hD
    refine ⟨.int n, rfl, n, rfl, hn, fun H2 v s2 hv => ?_⟩
    cases hv with
    | @lst la ks _ hla qk =>
    have hD2 := s2 _ _ hD
    have hal := all_few n (by omega)
    have hkl : ks.length = (allL n).length := by rw [qk.len, List.length_map]
    have nla : la ≠ D := ne_of hla hD2 (by intro z; cases z)
    refine ⟨la, _, rfl, SqL.of hla, for_it walk_enum (fun i σ G => ∃ (v2 v3 : Option V) (es : List (List Key × V)), σ = [some (.int n), some (.ref D), v2, v3] ∧ (∀ b o, b ≠ D → H2 b = some o → G b = some o) ∧ G D = some (.dT es) ∧ es.length ≤ i ∧ ∀ j l, j < i → (allL n)[j]? = some l → valV es (lotK l) = some (.int (j : Nat)))
      ⟨_, _, [], rfl, fun _ _ _ h => h, hD2, Nat.zero_le _, fun j _ h _ => absurd h (Nat.not_lt_zero j)⟩ (fun i σ G _ ⟨_, _, _, _, k, _⟩ => SqL.of (k _ _ nla hla)) ?_ ?_⟩
    · rintro i _ σ G _ hi ⟨v2, v3, es, rfl, k, hG, hlen, hes⟩ ⟨t, x, y, rfl, nt, rfl, e1, e2⟩
      cases Option.some.inj e1
      obtain ⟨l, hl, lb, rfl, hlb⟩ := lots_get qk e2
      have nlb : lb ≠ D := ne_of hlb hD2 (by intro z; cases z)
      have st := same_new (o := .tup [.int (i : Nat), .ref lb]) nt
      refine ⟨t, [.int (i : Nat), .ref lb], rfl, SqT.of upd_same, rfl, .int (i : Nat), [.ref lb], rfl, .ref lb, [], rfl, rfl, ?_⟩
      refine ⟨.int (i : Nat), rfl, .ref D, rfl, .ref lb, rfl, D, _, rfl, DPut.t (st _ _ hG) (by rw [lotK_v]; exact st _ _ (k _ _ nlb hlb)) (szl (by omega)), ?_⟩
      refine ⟨_, _, putK es (lotK l) (.int (i : Nat)), rfl, fun b o hb ho => ?_, upd_same, ?_, fun j l' hj hl' => ?_⟩
      · rw [upd_ne hb]
        exact st _ _ (k _ _ hb ho)
      · have := length_putK es (lotK l) (V.int (i : Nat))
        omega
      · rw [valV_put]
        by_cases ek : lotK l' = lotK l
        · have := lotK_inj ek
          subst this
          have e1 := (all_num_at hn hl).1
          have e2 := (all_num_at hn hl').1
          rw [if_pos ek]
          rw [show j = i by omega]
        · rw [if_neg ek]
          refine hes j l' ?_ hl'
          rcases Nat.lt_or_ge j i with c | c
          · exact c
          · have : j = i := by omega
            subst this
            rw [hl] at hl'
            exact absurd (by rw [Option.some.inj hl']) ek
    · rintro σ G ⟨v2, v3, es, rfl, k, hG, hlen, hes⟩
      refine ⟨.ref D, rfl, q G D es (fun b o hb => k _ _ (nf _ _ hb) (s2 _ _ (s1 _ _ hb))) hG fun l hl => ?_⟩
      obtain ⟨j, hj, ej⟩ := List.getElem_of_mem hl
      have e1 : (allL n)[j]? = some l := by rw [List.getElem?_eq_getElem hj, ej]
      rw [(all_num_at hn e1).1]
      exact hes j l (by omega) e1
theorem o_lKeys (D0 : Df K mg "_law_keys_behind" sLKeysBehind ["n", "entry"]) (B : Bi mg) : Ok P w K mg base 1 "_law_keys_behind" ["n", "entry"] spGoal := by
  have scGo : FnScope ["n", "entry", "y"] ["n", "entry"] (defScope sLKeysBehind) := ⟨rfl, rfl, rfl, by decide +kernel, rfl, by decide +kernel, by decide +kernel⟩
  refine D0.ok fun f fd F => F.ok scGo (fun vs H Q E h => ?_) (fun cdv A outer s H vs Q E hr h => ?_)
  · obtain ⟨n, a, e, rfl, _⟩ := h
    rfl
  · obtain ⟨n, a, e, rfl, hn, ha, q⟩ := h
    refine ⟨_, pss_one (ps_ret (pe_callTy call_tuple_of (by rfl) B.tuple (by decide +kernel) (pa_cons
      (pe_lc (own := [("y", 2)]) (g := gName 2) rfl scGo.nd (pi_range1 (by rfl) B.range (pa_cons (pv 0) pa_nil)) (blkOk_by (own := [("y", 2)]) (N := ["n", "entry", "y"]) (sc := defScope sLKeysBehind) (by decide +kernel))
        (fun _ _ _ _ _ => pg_name (i := 2) scGo.nd rfl (.inl rfl)) (fun _ _ _ _ _ => pts_one (pt_cmpR (r := rIn K true) op_notIn_seq (pv 2) (pv 1) rfl))
        (fun _ _ _ _ _ => pv 2)) pa_nil))), ?_⟩
    refine ⟨.int n, rfl, (n : Int), rfl, by omega, by omega, fun D nD => ?_⟩
    refine lc_it (walk_rg (n := n)) (fun i G => G D = some (.lst (lv ((List.range i).filter fun (x : Nat) => !decide ((x : Int) ∈ e)))) ∧ Same H G) ⟨upd_same, same_new nD⟩ (fun _ _ _ _ => trivial) ?_ ?_
    · rintro i x G G' hi ⟨hD, s1⟩ ⟨rfl, rfl⟩
      refine ⟨rfl, .int i, rfl, .ref a, rfl, a, _, rfl, .inr (SqT.of (s1 _ _ ha)), rfl, int_fl e, _, rfl, ?_⟩
      have er : (List.range (i + 1)).filter (fun (x : Nat) => !decide ((x : Int) ∈ e)) = (List.range i).filter (fun (x : Nat) => !decide ((x : Int) ∈ e)) ++ (if (i : Int) ∈ e then [] else [i]) := by
        rw [List.range_succ, List.filter_append]
        by_cases hm : (i : Int) ∈ e
        · rw [if_pos hm]
          simp [hm]
        · rw [if_neg hm]
          simp [hm]
      rw [inV_int, er]
      by_cases hm : (i : Int) ∈ e
      · rw [decide_eq_true hm, if_pos hm, List.append_nil]
        exact iteF ⟨hD, s1⟩
      · rw [decide_eq_false hm, if_neg hm]
        refine iteT ⟨_, rfl, _, hD, szm ?_, ?_, fun b o hb => ?_⟩
        · rw [lv_len]
          have := List.length_filter_le (fun (x : Nat) => !decide ((x : Int) ∈ e)) (List.range i)
          rw [List.length_range] at this
          omega
        · rw [upd_same]
          simp [lv]
        · rw [upd_ne (ne_of_none hb nD)]
          exact s1 _ _ hb
    · rintro G ⟨hD, s1⟩
      exact ⟨D, _, rfl, .inl ⟨SqL.of hD, fun t nt => q _ t (s1.trans (same_new nt)) upd_same⟩⟩
end
end Kr
namespace Kr
open PySem PySem.Spec PyProof.Rows L2
section
variable {P : Program} {w : World} {K : PySem.W.Frag} {mg : Str → Option Value} {base : Heap}
abbrev nLa : List Str := ["n", "one", "other", "places", "found", "entry", "further", "y"]
theorem o_lAfter (D0 : Df K mg "_law_after" sLAfter ["n", "one", "other"]) (B : Bi mg) (go : Ok P w K mg base 1 "_law_keys_behind" ["n", "entry"] spGoal) (nu : Ok P w K mg base 2 "_law_places" ["n"] spNumbers) : Ok P w K mg base 3 "_law_after" ["n", "one", "other"] spBoth := by
  have scLa : FnScope nLa ["n", "one", "other"] (defScope sLAfter) := ⟨rfl, rfl, rfl, by decide +kernel, rfl, by decide +kernel, by decide +kernel⟩
  refine D0.ok fun f fd F => F.ok scLa (fun vs H Q E h => ?_) (fun cdv A outer s H vs Q E hr h => ?_)
  · obtain ⟨n, v, u, T, U, rfl, _⟩ := h
    rfl
  · obtain ⟨n, v, u, T, U, rfl, hn, hv, hu', hTl, hT, hUl, hU, q⟩ := h
    have hr1 := hr.mono (show 1 ≤ 2 by decide)
    have hu := hu_of hr
    refine ⟨_, pss_cons (ps_par (i := 3) (j := 4) rfl scLa.nd rfl rfl (by decide) rfl rfl (pa_cons (pe_fn nu hr (by rfl) (pa_cons (pv 0) pa_nil)) (pa_cons (pe_lst pa_nil) pa_nil)) (by rfl))
      (pss_cons (ps_for PassesOwn.never rfl (pi_tup (pv 1)) (pg_name (i := 5) scLa.nd rfl (.inl rfl))
        (pss_cons (ps_set (i := 6) scLa.nd rfl (.inr rfl) (pe_ix ix_tup (pv 2) (pe_dget hu (pv 3) (pe_fn go hr1 (by rfl) (pa_cons (pv 0) (pa_cons (pv 5) pa_nil))) (fun _ _ => rfl)) (fun _ _ => rfl)))
        (pss_one (ps_expr (pe_bm PySem.F.plainAttrs_list PySem.F.slot_list_append PySem.F.type_list_append mt_append (pv 4) (pa_cons (pe_callTy call_tuple_of (by rfl) B.tuple (by decide +kernel) (pa_cons
          (pe_lc (own := [("y", 7)]) (g := gName 7) (tt := tYes) rfl scLa.nd (pi_tup (pv 5)) (blkOk_by (own := [("y", 7)]) (N := nLa) (sc := defScope sLAfter) (by decide +kernel)) (fun _ _ _ _ _ => pg_name (i := 7) scLa.nd rfl (.inl rfl)) (fun _ _ _ _ _ => pts_nil)
            (fun _ _ _ _ _ => pe_ifExp (pt_cmpR op_lt (pv 7) pe_int (nomark _)) (pe_un un_neg pe_int) (pe_ix (r := rIxT K) ix_tup (pv 6) (pv 7) (fun _ _ => rfl)))) pa_nil)) pa_nil))))))
      (pss_one (ps_ret (pe_callTy call_tuple_of (by rfl) B.tuple (by decide +kernel) (pa_cons (pv 4) pa_nil))))), ?_⟩
    refine ⟨.int n, rfl, n, rfl, hn, fun H1 nb kvs s1 hnb hkv => ⟨by show 0 ≤ sizeLine; decide, fun en nen => ⟨_, _, rfl, ?_⟩⟩⟩
    have s2 := same_new (o := .lst []) nen
    have hen : upd H1 en (.lst []) en = some (.lst []) := upd_same
    have hnb2 := s2 _ _ hnb
    have s12 := s1.trans s2
    generalize upd H1 en (.lst []) = H2 at hen hnb2 s12
    have hv2 := hv.up s12
    have hu2 := hu'.up s12
    obtain ⟨va, xs, rfl, hva, qx⟩ := Dq.tup_inv hv2
    obtain ⟨ua, us, rfl, hua, qu⟩ := Dq.tup_inv hu2
    have nva : va ≠ en := ne_of hva hen (by intro z; cases z)
    have nua : ua ≠ en := ne_of hua hen (by intro z; cases z)
    have nnb : nb ≠ en := ne_of hnb2 hen (by intro z; cases z)
    have hxl : xs.length = T.length := by rw [qx.len, List.length_map]
    have hul : us.length = 2 ^ n := by rw [qu.len, List.length_map, hUl]
    refine ⟨.ref va, rfl, va, rfl, ⟨xs, SqT.of hva⟩, for_it (walk_tup (K := K) (a := va) (xs := xs)) (fun i σ G => ∃ (v5 v6 : Option V) (acc : List V), σ = [some (.int n), some (.ref va), some (.ref ua), some (.ref nb), some (.ref en), v5, v6, none] ∧
        (∀ b o, b ≠ en → H2 b = some o → G b = some o) ∧ G en = some (.lst acc) ∧ DqA G acc ((T.take i).map fun e => entD (bothE n U e)))
      ⟨_, _, [], rfl, fun _ _ _ h => h, hen, .nil⟩ (fun i σ G _ ⟨_, _, _, _, k, _⟩ => SqT.of (k _ _ nva hva)) ?_ ?_⟩
    · rintro i x σ G G' hi ⟨v5, v6, acc, rfl, k, hG, qac⟩ ⟨rfl, hx⟩
      obtain ⟨e, he, ea, rfl, hea⟩ := ents_get qx hx
      have nea : ea ≠ en := ne_of hea hen (by intro z; cases z)
      have hea' := k _ _ nea hea
      obtain ⟨hgo, hel, hex⟩ := hT e (List.mem_of_getElem? he)
      have hnum := all_num hn hgo
      have acl : acc.length = i := by
        rw [qac.len, List.length_map, List.length_take]
        omega
      refine ⟨.ref ua, rfl, .ref nb, rfl, .int n, rfl, .ref ea, rfl, n, ea, e, rfl, by omega, hea', fun G2 t s3 ht => ?_⟩
      obtain ⟨uv, huv⟩ : ∃ uv, us[num n (goalE n e)]? = some uv := ⟨_, List.getElem?_eq_getElem (by omega)⟩
      obtain ⟨ue, hue, uea, rfl, huea⟩ := ents_get qu huv
      have hue2 : U.getD (num n (goalE n e)) [] = ue := getD_of hue
      have huel := hU ue (List.mem_of_getElem? hue)
      have nuea : uea ≠ en := ne_of huea hen (by intro z; cases z)
      have hDG : DGet G2 nb (.ref t) (some (.int (num n (goalE n e) : Nat))) := by
        rw [← hkv _ hgo]
        exact DGet.t (s3 _ _ (k _ _ nnb hnb2)) (by rw [lotK_v]; exact ht)
      refine ⟨nb, .int (num n (goalE n e) : Nat), rfl, hDG, ?_⟩
      refine ⟨ua, us, num n (goalE n e), .ref uea, rfl, rfl, SqT.of (s3 _ _ (k _ _ nua hua)), atI_nat huv, ?_⟩
      have hG2 := s3 _ _ hG
      have hea2 := s3 _ _ hea'
      have hue3 := s3 _ _ (k _ _ nuea huea)
      dsimp only [tNext]
      refine ⟨.ref en, rfl, .inl ⟨rfl, _, SqL.of hG2⟩, .ref ea, rfl, ea, rfl, ⟨_, SqT.of hea2⟩, fun D nD => ?_⟩
      refine lc_itF (walk_tup (K := K) (a := ea) (xs := e.map V.int)) (fun j => .int (if e.getD j 0 = -1 then -1 else ue.getD (e.getD j 0).toNat 0)) nD (by rw [List.length_map]; omega) (fun _ _ => rfl) (fun G s => SqT.of (s _ _ hea2)) (fun j y G3 G3' C Cn hj s4 hy c => ?_) (fun G4 bs s4 hD qb => ?_)
      · obtain ⟨rfl, hy⟩ := hy
        rw [List.length_map] at hj
        have ey : y = .int (e.getD j 0) := by
          rw [List.getElem?_map, getD_get hj] at hy
          exact (Option.some.inj hy).symm
        subst ey
        have hxe := hex _ (List.mem_of_getElem? (getD_get hj))
        generalize e.getD j 0 = z at c hxe
        refine ⟨rfl, ?_⟩
        dsimp only [tYes]
        rw [if_pos rfl]
        refine ⟨.int z, rfl, _, _, rfl, rfl, _, rfl, ?_⟩
        by_cases hz : z = -1
        · rw [decide_eq_true (show z < 0 by omega)]
          rw [if_pos hz] at c
          exact iteT ⟨1, rfl, c _ _ (Same.refl _) (.int _)⟩
        · rw [decide_eq_false (show ¬ z < 0 by rcases hxe with y | y <;> omega)]
          rw [if_neg hz] at c
          have hz2 := hxe.resolve_left hz
          obtain ⟨m, rfl⟩ : ∃ m : Nat, z = m := ⟨z.toNat, by omega⟩
          rw [Int.toNat_natCast] at c
          exact iteF ⟨.ref uea, rfl, .int m, rfl, uea, _, m, .int (ue.getD m 0), rfl, rfl, SqT.of (s4 _ _ hue3), atI_nat (by rw [List.getElem?_map, getD_get (by omega)]; rfl), c _ _ (Same.refl _) (.int _)⟩
      have em := map_getD (fun (z : Int) => PyData.int (if z = -1 then -1 else ue.getD z.toNat 0)) 0 e
      rw [List.length_map, em] at qb
      have ebs : bs = (bothE n U e).map V.int := dqa_int (by
        unfold bothE
        rw [hue2, List.map_map]
        exact qb)
      subst ebs
      refine ⟨D, _, rfl, .inl ⟨SqL.of hD, fun t2 nt2 => ?_⟩⟩
      have s5 := same_new (o := .tup ((bothE n U e).map V.int)) nt2
      have ht2 : upd G4 t2 (.tup ((bothE n U e).map V.int)) t2 = some (.tup ((bothE n U e).map V.int)) := upd_same
      have hG5 := s5 _ _ (s4 _ _ hG2)
      generalize upd G4 t2 (.tup ((bothE n U e).map V.int)) = G5 at s5 ht2 hG5
      have ts : TS G5 (upd G5 en (.lst (acc ++ [.ref t2]))) := TS.lst hG5
      refine ⟨en, acc, .ref t2, rfl, rfl, hG5, szl (by omega), _, _, _, rfl, fun b o hb ho => ?_, upd_same, ?_⟩
      · rw [upd_ne hb]
        exact s5 _ _ (s4 _ _ (s3 _ _ (k _ _ hb ho)))
      · rw [take_snoc he]
        refine dqa_snoc (DqA.upT ts (flatTA_of fun d hd => ?_) (((qac.up s3).up s4).up s5)) (Dq.upT ts (ent_flat _) (ent_at ht2))
        obtain ⟨l', _, rfl⟩ := List.mem_map.mp hd
        exact ent_flat _
    · rintro σ G ⟨v5, v6, acc, rfl, k, hG, qac⟩
      rw [hxl, List.take_length] at qac
      have nf : ∀ b o, H b = some o → b ≠ en := fun b o hb => ne_of_none (s1 _ _ hb) nen
      refine ⟨.ref en, rfl, en, acc, rfl, .inl ⟨SqL.of hG, fun t nt => q _ _ (fun b' o hb => same_new nt _ _ (k _ _ (nf _ _ hb) (s12 _ _ hb))) (.tup upd_same ?_)⟩⟩
      unfold bothT
      rw [List.map_map]
      exact qac.up (same_new nt)
end
end Kr
namespace Kr
open PySem PySem.Spec PyProof.Rows L2
section
variable {P : Program} {w : World} {K : PySem.W.Frag} {mg : Str → Option Value} {base : Heap}
abbrev nLt : List Str := ["n", "table", "places", "found", "entry", "back", "x", "y"]
theorem scLt : FnScope nLt ["n", "table"] (defScope sLTurned) := ⟨rfl, rfl, rfl, by decide +kernel, rfl, by decide +kernel, by decide +kernel⟩
theorem o_lTurned (D0 : Df K mg "_law_turned" sLTurned ["n", "table"]) (B : Bi mg) (go : Ok P w K mg base 1 "_law_keys_behind" ["n", "entry"] spGoal) (nu : Ok P w K mg base 2 "_law_places" ["n"] spNumbers) : Ok P w K mg base 3 "_law_turned" ["n", "table"] spUndone := by
  refine D0.ok fun f fd F => F.ok scLt (fun vs H Q E h => ?_) (fun cdv A outer s H vs Q E hr h => ?_)
  · obtain ⟨n, v, T, rfl, _⟩ := h
    rfl
  · obtain ⟨n, v, T, rfl, hn, hv, hT, q⟩ := h
    have hr1 := hr.mono (show 1 ≤ 2 by decide)
    have hu := hu_of hr
    refine ⟨_, pss_cons (ps_par (i := 2) (j := 3) rfl scLt.nd rfl rfl (by decide) rfl rfl (pa_cons (pe_fn nu hr (by rfl) (pa_cons (pv 0) pa_nil)) (pa_cons (pe_op op_rep (pe_lst (pa_cons (pe_tup pa_nil) pa_nil)) (pe_callB call_len_seq (by rfl) B.len boot_len (pa_cons (pv 1) pa_nil))) pa_nil)) (by rfl))
      (pss_cons (ps_for PassesOwn.never rfl (pi_tup (pv 1)) (pg_name (i := 4) scLt.nd rfl (.inl rfl))
        (pss_cons (ps_set (i := 5) scLt.nd rfl (.inl rfl) (pe_op op_rep (pe_lst (pa_cons (pe_un un_neg pe_int) pa_nil)) (pv 0)))
        (pss_cons (ps_for PassesOwn.never rfl (pi_enumT (by rfl) B.enumerate (pa_cons (pv 4) pa_nil)) (pg_tup rfl (pgs_cons (pg_name (i := 6) scLt.nd rfl (.inl rfl)) (pgs_cons (pg_name (i := 7) scLt.nd rfl (.inl rfl)) pgs_nil)))
          (pss_one (ps_if (pt_cmpR op_ge (pv 7) pe_int (nomark _)) (pss_one (ps_asg (pv 6) (pg_sub (pv 5) (pv 7) set_list))) pss_nil)))
        (pss_one (ps_asg (pe_callTy call_tuple_of (by rfl) B.tuple (by decide +kernel) (pa_cons (pv 5) pa_nil)) (pg_sub (pv 3) (pe_dget hu (pv 2) (pe_fn go hr1 (by rfl) (pa_cons (pv 0) (pa_cons (pv 4) pa_nil))) (fun _ _ => rfl)) set_list))))))
      (pss_one (ps_ret (pe_callTy call_tuple_of (by rfl) B.tuple (by decide +kernel) (pa_cons (pv 3) pa_nil))))), ?_⟩
    obtain ⟨hTl, hTe, hT2, _⟩ := hT.both_in hn
    have hp64 : 2 ^ n ≤ 64 := by have := all_few n (by omega); rw [all_len n (by omega)] at this; exact this
    refine ⟨.int n, rfl, n, rfl, hn, fun H0 nb kvs s0 hnb hkv => ⟨by show 0 ≤ sizeLine; decide, fun e ne => ⟨by show 1 ≤ sizeLine; decide, fun l1 nl1 => ?_⟩⟩⟩
    have s1 := same_new (o := .tup []) ne
    have he := (same_new (o := .lst [.ref e]) nl1) _ _ (show upd H0 e (.tup []) e = some (.tup []) from upd_same)
    have s2 := s1.trans (same_new (o := .lst [.ref e]) nl1)
    have hl1 : upd (upd H0 e (.tup [])) l1 (.lst [.ref e]) l1 = some (.lst [.ref e]) := upd_same
    have hnb1 := s2 _ _ hnb
    have s02 := s0.trans s2
    generalize upd (upd H0 e (.tup [])) l1 (.lst [.ref e]) = H1 at he s02 hl1 hnb1
    clear s1 s2 nl1 ne
    have hv1 := hv.up s02
    obtain ⟨va, xs, rfl, hva, qx⟩ := Dq.tup_inv hv1
    have hxl : xs.length = 2 ^ n := by rw [qx.len, List.length_map, hT2]
    refine ⟨.ref va, rfl, va, _, rfl, .inr (SqT.of hva), ?_⟩
    rw [hxl]
    refine ⟨l1, ((2 ^ n : Nat) : Int), [.ref e], rfl, rfl, hl1, by omega, by omega, by show 1 * _ ≤ sizeLine; exact sz (by omega), fun en nen => ⟨_, _, rfl, ?_⟩⟩
    rw [Int.toNat_natCast, rep_one]
    have s3 := same_new (o := .lst (List.replicate (2 ^ n) (V.ref e))) nen
    have hen : upd H1 en (.lst (List.replicate (2 ^ n) (V.ref e))) en = some (.lst (List.replicate (2 ^ n) (V.ref e))) := upd_same
    have q0 : DqA (upd H1 en (.lst (List.replicate (2 ^ n) (V.ref e)))) (List.replicate (2 ^ n) (V.ref e)) (List.replicate (2 ^ n) (.tuple [])) := DqA.rep (.tup (s3 _ _ he) .nil) _
    have s13 := s02.trans s3
    have nf : ∀ b o, H b = some o → b ≠ en := fun b o hb => ne_of_none (s02 _ _ hb) nen
    have hva3 := s3 _ _ hva
    have hnb3 := s3 _ _ hnb1
    have qx3 := qx.up s3
    generalize upd H1 en (.lst (List.replicate (2 ^ n) (V.ref e))) = H3 at hen q0 s13 hva3 hnb3 qx3
    have nva : va ≠ en := ne_of hva3 hen (by intro z; cases z)
    have nnb : nb ≠ en := ne_of hnb3 hen (by intro z; cases z)
    refine ⟨.ref va, rfl, va, rfl, ⟨xs, SqT.of hva3⟩, for_it (walk_tup (K := K) (a := va) (xs := xs)) (fun i σ G => ∃ (v4 v5 v6 v7 : Option V) (acc : List V), σ = [some (.int n), some (.ref va), some (.ref nb), some (.ref en), v4, v5, v6, v7] ∧
        (∀ b o, b ≠ en → H3 b = some o → G b = some o) ∧ G en = some (.lst acc) ∧ DqA G acc (putAll ((T.take i).map (backP n)) (List.replicate (2 ^ n) (.tuple []))))
      ⟨_, _, _, _, _, rfl, fun _ _ _ h => h, hen, q0⟩ (fun i σ G _ ⟨_, _, _, _, _, _, k, _⟩ => SqT.of (k _ _ nva hva3)) ?_ ?_⟩
    · rintro i x σ _ G hi ⟨v4, v5, v6, v7, acc, rfl, k, hG, qac⟩ ⟨rfl, hx⟩
      obtain ⟨e0, he0, ea, rfl, hea⟩ := ents_get qx3 hx
      have nea : ea ≠ en := ne_of hea hen (by intro z; cases z)
      have hea' := k _ _ nea hea
      obtain ⟨l, hl, hE⟩ := hT.mem hn (List.mem_of_getElem? he0)
      have hel := hE.len
      have hnum := all_num hn (goal_all hn e0)
      refine ⟨1, rfl, by show 1 ≤ sizeLine; decide, fun l2 nl2 => ⟨.int n, rfl, l2, (n : Int), [.int (-1)], rfl, rfl, upd_same, by omega, by omega, by show 1 * _ ≤ sizeLine; exact sz (by omega), fun ba nba => ?_⟩⟩
      rw [Int.toNat_natCast, rep_one]
      have s4 := (same_new (o := .lst [.int (-1)]) nl2).trans (same_new (o := .lst (List.replicate n (V.int (-1)))) nba)
      have hba : upd (upd G l2 (.lst [.int (-1)])) ba (.lst (List.replicate n (V.int (-1)))) ba = some (.lst ((List.replicate n (-1)).map V.int)) := by rw [upd_same, List.map_replicate]
      have nfb : ∀ b o, G b = some o → b ≠ ba := fun b o hb => ne_of_none ((same_new (o := .lst [.int (-1)]) nl2) _ _ hb) nba
      generalize upd (upd G l2 (.lst [.int (-1)])) ba (.lst (List.replicate n (V.int (-1)))) = G1 at s4 hba
      dsimp only [tNext]
      refine ⟨.ref ea, rfl, ea, _, rfl, SqT.of (s4 _ _ hea'), for_it walk_enumT (fun i σ G2 => ∃ (bk : List Int) (v6 v7 : Option V), σ = [some (.int n), some (.ref va), some (.ref nb), some (.ref en), some (.ref ea), some (.ref ba), v6, v7] ∧ (∀ b o, G b = some o → G2 b = some o) ∧ G2 ba = some (.lst (bk.map V.int)) ∧ bk.length = n ∧ setGo i (e0.drop i) bk = lawE n e0)
        ⟨_, _, _, rfl, s4, hba, List.length_replicate, rfl⟩ (fun i σ G2 _ ⟨_, _, _, _, k, _⟩ => SqT.of (k _ _ hea')) ?_ ?_⟩
      · rintro j _ σ G2 _ hj ⟨bk, v6, v7, rfl, k2, hG2, hbl, eg⟩ ⟨T, x1, x2, rfl, nT, rfl, e1, e2⟩
        cases Option.some.inj e1
        rw [List.length_map] at hj
        have e3 : x2 = .int (e0.getD j 0) := by
          have e4 : (e0.map V.int)[j]? = some x2 := e2
          rw [List.getElem?_map, getD_get hj] at e4
          exact (Option.some.inj e4).symm
        subst e3
        have ed : e0.drop j = e0.getD j 0 :: e0.drop (j + 1) := by
          rw [List.drop_eq_getElem_cons hj, List.getD_eq_getElem?_getD, List.getElem?_eq_getElem hj]
          rfl
        rw [ed] at eg
        have hz : e0.getD j 0 = -1 ∨ (0 ≤ e0.getD j 0 ∧ e0.getD j 0 < n) := by
          by_cases c : j ∈ l
          · exact .inl (hE.key j (by omega) c)
          · exact .inr (hE.rid j (by omega) c)
        generalize e0.getD j 0 = z at eg hz
        have sT := same_new (o := .tup [.int (j : Nat), .int z]) nT
        have hGT := sT _ _ hG2
        simp only [setGo] at eg
        refine ⟨T, [.int (j : Nat), .int z], rfl, SqT.of upd_same, rfl, .int (j : Nat), [.int z], rfl, .int z, [], rfl, rfl, ?_⟩
        refine ⟨.int z, rfl, _, _, rfl, rfl, _, rfl, ite2 (fun hc => ?_) (fun hc => ?_)⟩
        · have hz0 : 0 ≤ z := of_decide_eq_true hc
          rw [if_pos hz0] at eg
          obtain ⟨m, rfl⟩ : ∃ m : Nat, z = m := ⟨z.toNat, by omega⟩
          rw [Int.toNat_natCast] at eg
          refine ⟨.int (j : Nat), rfl, .ref ba, rfl, .int m, rfl, ba, _, m, m, rfl, rfl, hGT, ixN_nat (by rw [List.length_map, hbl]; omega), bk.set m (j : Int), _, _, rfl, fun b o hb => ?_, ?_, by rw [List.length_set]; exact hbl, eg⟩
          · rw [upd_ne (nfb b o hb)]
            exact sT _ _ (k2 _ _ hb)
          · rw [upd_same, List.map_set]
        · have hz0 : ¬ 0 ≤ z := fun y => hc (decide_eq_true y)
          rw [if_neg hz0] at eg
          exact ⟨bk, _, _, rfl, fun b o hb => sT _ _ (k2 _ _ hb), hGT, hbl, eg⟩
      · rintro σ G2 ⟨bk, v6, v7, rfl, k2, hG2, hbl, eg⟩
        rw [List.length_map, List.drop_of_length_le (Nat.le_refl _)] at eg
        have eb : bk = lawE n e0 := eg
        subst eb
        dsimp only
        refine ⟨.ref ba, rfl, ba, _, rfl, .inl ⟨SqL.of hG2, fun t nt => ?_⟩⟩
        have s5 : Same G (upd G2 t (.tup ((lawE n e0).map V.int))) := Same.trans k2 (same_new nt)
        have ht : upd G2 t (.tup ((lawE n e0).map V.int)) t = some (.tup ((lawE n e0).map V.int)) := upd_same
        generalize upd G2 t (.tup ((lawE n e0).map V.int)) = G3 at s5 ht
        refine ⟨.ref en, rfl, .ref nb, rfl, .int n, rfl, .ref ea, rfl, n, ea, e0, rfl, by omega, s5 _ _ hea', fun G4 g s6 hg => ?_⟩
        have hDG : DGet G4 nb (.ref g) (some (.int (num n (goalE n e0) : Nat))) := by
          rw [← hkv _ (goal_all hn e0)]
          exact DGet.t (s6 _ _ (s5 _ _ (k _ _ nnb hnb3))) (by rw [lotK_v]; exact hg)
        have hG4 := s6 _ _ (s5 _ _ hG)
        have acl : acc.length = 2 ^ n := by rw [qac.len, putAll_len, List.length_replicate]
        have ts : TS G4 (upd G4 en (.lst (acc.set (num n (goalE n e0)) (.ref t)))) := TS.lst hG4
        refine ⟨nb, .int (num n (goalE n e0) : Nat), rfl, hDG, en, acc, _, num n (goalE n e0), rfl, rfl, hG4, ixN_nat (by omega), _, _, _, _, _, rfl, fun b o hb ho => ?_, upd_same, ?_⟩
        · rw [upd_ne hb]
          exact s6 _ _ (s5 _ _ (k _ _ hb ho))
        · rw [take_snoc he0, putAll_snoc]
          exact DqA.set (Dq.upT ts (ent_flat _) (ent_at (s6 _ _ ht))) _ (DqA.upT ts (put_flat _ _ _) ((qac.up s5).up s6))
    · rintro σ G ⟨v4, v5, v6, v7, acc, rfl, k, hG, qac⟩
      rw [hxl, ← hT2, List.take_length, hT2, turn_put hn hT] at qac
      exact ⟨.ref en, rfl, en, acc, rfl, .inl ⟨SqL.of hG, fun t nt => q _ _ (fun b' o hb => same_new nt _ _ (k _ _ (nf _ _ hb) (s13 _ _ hb))) (.tup upd_same (qac.up (same_new nt)))⟩⟩
end
end Kr
namespace Kr
open PySem PySem.Spec PyProof.Rows L2
/-! ### the least common multiple of all rounds -/
def stepC (a : Nat) (r : Rw) : Nat := if r.2.2 = 0 then Nat.lcm a r.2.1.length else a
theorem foldRow_tail (C : List Pr) : ∀ (L : List Rw) (a : Nat), (∀ r ∈ L, r.2.2 ≠ 0) → L.foldl stepC a = a
  | [], _, _ => rfl
  | r :: L, a, h => by
    rw [List.foldl_cons]
    have : stepC a r = a := by unfold stepC; rw [if_neg (h r List.mem_cons_self)]
    rw [this]
    exact foldRow_tail C L a fun x hx => h x (List.mem_cons_of_mem _ hx)
theorem foldRow (C : List Pr) (hC : 0 < C.length) (a : Nat) : (rowP C).foldl stepC a = Nat.lcm a C.length := by
  cases e : rowP C with
  | nil =>
    have : (rowP C).length = C.length := by unfold rowP; rw [List.length_map, List.length_zipIdx]
    rw [e] at this
    simp at this
    omega
  | cons r L =>
    have h0 := rowP_get (C := C) (i := 0)
    rw [e, List.getElem?_cons_zero, List.getElem?_eq_getElem hC] at h0
    have er : r = (C[0], C, 0) := Option.some.inj h0
    rw [List.foldl_cons, foldRow_tail C]
    · rw [er]
      rfl
    · intro x hx
      obtain ⟨i, hi⟩ := List.getElem?_of_mem hx
      have h1 := rowP_get (C := C) (i := i + 1)
      rw [e, List.getElem?_cons_succ, hi] at h1
      obtain ⟨p, _, ep⟩ := Option.map_eq_some_iff.mp h1.symm
      rw [← ep]
      exact Nat.succ_ne_zero i
theorem foldRows : ∀ (CL : List (List Pr)) (a : Nat), (∀ C ∈ CL, 0 < C.length) → (rowsOf CL).foldl stepC a = (CL.map List.length).foldl Nat.lcm a
  | [], _, _ => rfl
  | C :: CL, a, h => by
    have : rowsOf (C :: CL) = rowP C ++ rowsOf CL := by unfold rowsOf; rw [List.flatMap_cons]
    rw [this, List.foldl_append, foldRow C (h C List.mem_cons_self), foldRows CL _ fun x hx => h x (List.mem_cons_of_mem _ hx), List.map_cons, List.foldl_cons]
def spLeast : Sp := fun vs H Q _ => ∃ (n : Nat) (v : V) (T : List (List Int)), vs = [.int (n : Int), v] ∧ n ≤ 6 ∧ Dq H v (tabD T) ∧ TabOk n T ∧ ∀ H' (o : Nat), Same H H' → IsOrd n (stp n T) o → o < 2 ^ 110 → Q (.int (o : Int)) H'
theorem fold_at {CL : List (List Pr)} (h0 : ∀ C ∈ CL, 0 < C.length) : ∀ (L : List Rw), (∀ r ∈ L, r.2.1 ∈ CL) → ∀ a, 0 < a ∧ a ∣ bigN → (∀ C ∈ CL, C.length ≤ 192) → 0 < L.foldl stepC a ∧ L.foldl stepC a ∣ bigN
  | [], _, a, h, _ => h
  | r :: L, hL, a, h, hC => by
    rw [List.foldl_cons]
    refine fold_at h0 L (fun x hx => hL x (List.mem_cons_of_mem _ hx)) _ ?_ hC
    unfold stepC
    have hr := hL r List.mem_cons_self
    by_cases e : r.2.2 = 0
    · rw [if_pos e]
      exact ⟨Nat.lcm_pos h.1 (h0 _ hr), Nat.lcm_dvd h.2 (dvd_big (h0 _ hr) (hC _ hr))⟩
    · rw [if_neg e]
      exact h
end Kr
namespace Kr
open PySem PySem.Spec PyProof.Rows L2
/-- a row of behind, done up to a place -/
def rowX (n : Nat) (f : Pr → Nat) (i x : Nat) : List Int := (List.range n).map fun y => if y < x ∧ (i, y) ∈ prs n then (f (i, y) : Int) else -1
theorem rowX_len (n : Nat) (f : Pr → Nat) (i x : Nat) : (rowX n f i x).length = n := by unfold rowX; rw [List.length_map, List.length_range]
theorem rowX_zero (n : Nat) (f : Pr → Nat) (i : Nat) : rowX n f i 0 = List.replicate n (-1) := by
  unfold rowX
  refine List.eq_replicate_iff.mpr ⟨by rw [List.length_map, List.length_range], fun y hy => ?_⟩
  obtain ⟨z, _, rfl⟩ := List.mem_map.mp hy
  rw [if_neg fun h => Nat.not_lt_zero _ h.1]
theorem rowX_end (n : Nat) (f : Pr → Nat) (i : Nat) : rowX n f i n = rowF n f i := by
  unfold rowX rowF
  refine List.map_congr_left fun y hy => ?_
  by_cases c : (i, y) ∈ prs n
  · rw [if_pos ⟨List.mem_range.mp hy, c⟩, if_pos c]
  · rw [if_neg fun h => c h.2, if_neg c]
theorem rowX_out {n : Nat} {f : Pr → Nat} {i x : Nat} (h : (i, x) ∉ prs n) : rowX n f i (x + 1) = rowX n f i x := by
  unfold rowX
  refine List.map_congr_left fun y hy => ?_
  by_cases c : (i, y) ∈ prs n
  · have hne : y ≠ x := fun z => h (z ▸ c)
    by_cases d : y < x
    · rw [if_pos ⟨by omega, c⟩, if_pos ⟨d, c⟩]
    · rw [if_neg fun z => by omega, if_neg fun z => d z.1]
  · rw [if_neg fun z => c z.2, if_neg fun z => c z.2]
theorem rowX_in {n : Nat} {f : Pr → Nat} {i x : Nat} (h : (i, x) ∈ prs n) : (rowX n f i x).set x (f (i, x) : Int) = rowX n f i (x + 1) := by
  refine List.ext_getElem? fun y => ?_
  rw [List.getElem?_set]
  unfold rowX
  rw [List.length_map, List.length_range, List.getElem?_map, List.getElem?_map]
  by_cases hy : y < n
  · rw [List.getElem?_range hy]
    by_cases e : x = y
    · subst e
      rw [if_pos rfl, if_pos hy]
      show _ = some (if _ then _ else _)
      rw [if_pos ⟨Nat.lt_succ_self _, h⟩]
    · rw [if_neg e]
      show some (if _ then _ else _) = some (if _ then _ else _)
      by_cases c : (i, y) ∈ prs n
      · by_cases d : y < x
        · rw [if_pos ⟨d, c⟩, if_pos ⟨by omega, c⟩]
        · rw [if_neg fun z => d z.1, if_neg fun z => by omega]
      · rw [if_neg fun z => c z.2, if_neg fun z => c z.2]
  · rw [List.getElem?_eq_none (by rw [List.length_range]; omega)]
    by_cases e : x = y
    · rw [if_pos e, if_neg (by omega)]
      rfl
    · rw [if_neg e]
      rfl
theorem powT_take {n : Nat} (T : List (List Int)) (k : Int) {i : Nat} (h : i < 2 ^ n) : (powT n T k).take (i + 1) = (powT n T k).take i ++ [rowF n (fun p => (powS (stp n T) k p).2) i] := by
  rw [List.take_add_one]
  have : (powT n T k)[i]? = some (rowF n (fun p => (powS (stp n T) k p).2) i) := by
    unfold powT tabF
    rw [List.getElem?_map, List.getElem?_range h]
    rfl
  rw [this]
  rfl
theorem powT_len {n : Nat} (T : List (List Int)) (k : Int) : (powT n T k).length = 2 ^ n := by unfold powT tabF; rw [List.length_map, List.length_range]
section
variable {P : Program} {w : World} {K : PySem.W.Frag} {mg : Str → Option Value} {base : Heap}
abbrev nLof : List Str := ["n", "table", "many", "found", "told", "number", "keys", "entry", "x", "row", "spot"]
theorem o_lOften (D0 : Df K mg "_law_often" sLOften ["n", "table", "many"]) (B : Bi mg) (ev : Ok P w K mg base 1 "_law_every" ["n"] spEvery) (lr : Ok P w K mg base 3 "_law_rounds" ["n", "table"] spRounds) : Ok P w K mg base 4 "_law_often" ["n", "table", "many"] spPower := by
  have scLo : FnScope nLof ["n", "table", "many"] (defScope sLOften) := ⟨rfl, rfl, rfl, by decide +kernel, rfl, by decide +kernel, by decide +kernel⟩
  refine D0.ok fun f fd F => F.ok scLo (fun vs H Q E h => ?_) (fun cdv A outer s H vs Q E hr h => ?_)
  · obtain ⟨n, v, T, k, rfl, _⟩ := h
    rfl
  · obtain ⟨n, v, T, k, rfl, n1, hv, okT, q⟩ := h
    have hu1 := hu_of hr
    have hr1 := hr.mono (by decide : 1 ≤ 3)
    refine ⟨_, pss_cons (ps_par (i := 3) (j := 4) rfl scLo.nd rfl rfl (by decide) rfl rfl (pa_cons (pe_fn lr hr (by rfl) (pa_cons (pv 0) (pa_cons (pv 1) pa_nil))) (pa_cons (pe_lst pa_nil) pa_nil)) (by rfl))
      (pss_cons (ps_for PassesOwn.never rfl (pi_enum (by rfl) B.enumerate (pa_cons (pe_fn ev hr1 (by rfl) (pa_cons (pv 0) pa_nil)) pa_nil)) (pg_tup rfl (pgs_cons (pg_name (i := 5) scLo.nd rfl (.inl rfl)) (pgs_cons (pg_name (i := 6) scLo.nd rfl (.inl rfl)) pgs_nil)))
        (pss_cons (ps_set (i := 7) scLo.nd rfl (.inl rfl) (pe_op op_rep (pe_lst (pa_cons (pe_un un_neg pe_int) pa_nil)) (pv 0)))
        (pss_cons (ps_for PassesOwn.never rfl (pi_range1 (by rfl) B.range (pa_cons (pv 0) pa_nil)) (pg_name (i := 8) scLo.nd rfl (.inl rfl))
          (pss_one (ps_if (pt_cmpR (r := rIn K true) op_notIn_seq (pv 8) (pv 6) rfl) (pss_cons (ps_asg (pe_dget hu1 (pv 3) (pe_tup (pa_cons (pv 5) (pa_cons (pv 8) pa_nil))) (fun _ _ => rfl)) (pg_tup rfl (pgs_cons (pg_name (i := 9) scLo.nd rfl (.inl rfl)) (pgs_cons (pg_name (i := 10) scLo.nd rfl (.inl rfl)) pgs_nil))))
            (pss_one (ps_asg (pe_ix ix_tup (pe_ix ix_list (pv 9) (pe_op op_mod (pe_callTy call_int1 (by rfl) B.int (by decide +kernel) (pa_cons (pe_op op_add (pv 10) (pv 2)) pa_nil)) (pe_callB call_len_seq (by rfl) B.len boot_len (pa_cons (pv 9) pa_nil))) (fun _ _ => rfl)) pe_int (fun _ _ => rfl)) (pg_sub (pv 7) (pv 8) set_list)))) pss_nil)))
        (pss_one (ps_expr (pe_bm PySem.F.plainAttrs_list PySem.F.slot_list_append PySem.F.type_list_append mt_append (pv 4) (pa_cons (pe_callTy call_tuple_of (by rfl) B.tuple (by decide +kernel) (pa_cons (pv 7) pa_nil)) pa_nil)))))))
      (pss_one (ps_ret (pe_callTy call_tuple_of (by rfl) B.tuple (by decide +kernel) (pa_cons (pv 4) pa_nil))))), ?_⟩
    refine ⟨.int n, rfl, v, rfl, n, v, T, rfl, n1, hv, okT, fun H1 D kvs CL s1 nD hD rn rd nd hfl => ?_⟩
    refine ⟨by show 0 ≤ sizeLine; decide, fun t nt => ⟨_, _, rfl, ?_⟩⟩
    have st := same_new (o := .lst []) nt
    have ht : upd H1 t (.lst []) t = some (.lst []) := upd_same
    have hD1 := st _ _ hD
    have rn1 := rn.up st
    have nf : ∀ b o, H b = some o → b ≠ t := fun b o hb => ne_of_none (s1 _ _ hb) nt
    have s01 := s1.trans st
    generalize upd H1 t (.lst []) = H2 at ht hD1 rn1 s01
    clear st hD rn nt
    try dsimp only [tNext]
    refine ⟨.int n, rfl, n, rfl, n1, fun H3 ve s3 hve => ?_⟩
    cases hve with
    | @lst ea es _ hea qe =>
    have hp64 : 2 ^ n ≤ 64 := by have := all_few n (by omega); rw [all_len n (by omega)] at this; exact this
    have hel : es.length = 2 ^ n := by rw [qe.len, List.length_map, all_len n (by omega)]
    have ht3 := s3 _ _ ht
    have hD3 := s3 _ _ hD1
    have rn3 := rn1.up s3
    have nea : ea ≠ t := fun z => by
      rw [z, ht3] at hea
      cases hea
      rw [List.length_nil] at hel
      have : 0 < 2 ^ n := Nat.pow_pos (by decide)
      omega
    have nDt : D ≠ t := ne_of hD3 ht3 (by intro z; cases z)
    have s03 := s01.trans s3
    refine ⟨ea, es, rfl, SqL.of hea, for_it walk_enum (fun i σ G => ∃ (v5 v6 v7 v8 v9 v10 : Option V) (acc : List V), σ = [some (.int n), some v, some (.int k), some (.ref D), some (.ref t), v5, v6, v7, v8, v9, v10] ∧ (∀ b o, b ≠ t → H3 b = some o → G b = some o) ∧ G t = some (.lst acc) ∧ DqA G acc (((powT n T k).take i).map entD))
      ⟨_, _, _, _, _, _, [], rfl, fun _ _ _ h => h, ht3, .nil⟩ (fun i σ G _ ⟨_, _, _, _, _, _, _, _, k, _⟩ => SqL.of (k _ _ nea hea)) ?_ ?_⟩
    · rintro i _ σ G _ hi ⟨v5, v6, v7, v8, v9, v10, acc, rfl, kG, hG, qac⟩ ⟨tt, x, y, rfl, ntt, rfl, e1, e2⟩
      cases Option.some.inj e1
      have hi2 : i < 2 ^ n := by omega
      obtain ⟨l, hl, lb, rfl, hlb⟩ := lots_get qe e2
      have ell : l = lotI n i := by
        have := lot_get n1 hi2
        rw [hl] at this
        exact Option.some.inj this
      subst ell
      have nlb : lb ≠ t := ne_of hlb ht3 (by intro z; cases z)
      have stt := same_new (o := .tup [.int (i : Nat), .ref lb]) ntt
      refine ⟨tt, [.int (i : Nat), .ref lb], rfl, SqT.of upd_same, rfl, .int (i : Nat), [.ref lb], rfl, .ref lb, [], rfl, rfl, ?_⟩
      have kG1 : ∀ b o, b ≠ t → H3 b = some o → upd G tt (.tup [.int (i : Nat), .ref lb]) b = some o := fun b o h1 h2 => stt _ _ (kG _ _ h1 h2)
      have hG1 := stt _ _ hG
      have qac1 := qac.up stt
      generalize upd G tt (.tup [.int (i : Nat), .ref lb]) = G1 at kG1 hG1 qac1
      clear stt ntt kG hG qac
      refine ⟨1, rfl, by show 1 ≤ sizeLine; decide, fun l1 nl1 => ⟨.int n, rfl, l1, (n : Int), [.int (-1)], rfl, rfl, upd_same, by omega, by omega, by show 1 * _ ≤ sizeLine; exact sz (by omega), fun fo nfo => ?_⟩⟩
      have sl := (same_new (o := .lst [.int (-1)]) nl1).trans (same_new (o := .lst (List.replicate (n : Int).toNat [V.int (-1)]).flatten) nfo)
      have hfo : upd (upd G1 l1 (.lst [.int (-1)])) fo (.lst (List.replicate (n : Int).toNat [V.int (-1)]).flatten) fo = some (.lst ((rowX n (fun p => (powS (stp n T) k p).2) i 0).map V.int)) := by
        rw [upd_same, Int.toNat_natCast, rowX_zero, List.map_replicate]
        exact congrArg _ (congrArg _ (by
          have : ∀ (k : Nat), (List.replicate k [V.int (-1)]).flatten = List.replicate k (V.int (-1)) := fun k => by
            induction k with
            | zero => rfl
            | succ k ih => rw [List.replicate_succ, List.flatten_cons, ih]; rfl
          exact this n))
      have nff : ∀ b o, G1 b = some o → b ≠ fo := fun b o hb => ne_of_none (same_new (o := .lst [.int (-1)]) nl1 _ _ hb) nfo
      have kG2 : ∀ b o, b ≠ t → H3 b = some o → upd (upd G1 l1 (.lst [.int (-1)])) fo (.lst (List.replicate (n : Int).toNat [V.int (-1)]).flatten) b = some o := fun b o h1 h2 => sl _ _ (kG1 _ _ h1 h2)
      have hG2 := sl _ _ hG1
      have qac2 := qac1.up sl
      have nft : fo ≠ t := fun z => nff _ _ hG1 z.symm
      generalize upd (upd G1 l1 (.lst [.int (-1)])) fo (.lst (List.replicate (n : Int).toNat [V.int (-1)]).flatten) = G2 at hfo kG2 hG2 qac2
      clear sl nfo nl1
      try dsimp only [tNext]
      refine ⟨.int n, rfl, (n : Int), rfl, by omega, by omega, ?_⟩
      rw [Int.toNat_natCast]
      refine for_it (walk_rg (n := n)) (fun x σ G3 => ∃ v8 v9 v10 : Option V, σ = [some (.int n), some v, some (.int k), some (.ref D), some (.ref t), some (.int (i : Nat)), some (.ref lb), some (.ref fo), v8, v9, v10] ∧ (∀ b o, b ≠ fo → G2 b = some o → G3 b = some o) ∧ G3 fo = some (.lst ((rowX n (fun p => (powS (stp n T) k p).2) i x).map V.int)))
        ⟨_, _, _, rfl, fun _ _ _ h => h, hfo⟩ (fun _ _ _ _ _ => trivial) ?_ ?_
      · rintro x _ σ _ G3 hx ⟨v8, v9, v10, rfl, k3, hf3⟩ ⟨rfl, rfl⟩
        have kk : ∀ b o, b ≠ t → H3 b = some o → G3 b = some o := fun b o h1 h2 => k3 _ _ (nff _ _ (kG1 _ _ h1 h2)) (kG2 _ _ h1 h2)
        have hlb3 := kk _ _ nlb hlb
        refine ⟨.int x, rfl, .ref lb, rfl, lb, lv (lotI n i), rfl, .inr (SqT.of hlb3), rfl, lv_fl _, _, rfl, ?_⟩
        rw [inV_lot]
        by_cases hm : x ∈ lotI n i
        · rw [decide_eq_true hm]
          refine iteF ⟨_, _, _, rfl, k3, ?_⟩
          rw [rowX_out fun z => (mem_prs.mp z).2.2 hm]
          exact hf3
        · rw [decide_eq_false hm]
          have hpr : (i, x) ∈ prs n := mem_prs.mpr ⟨hi2, hx, hm⟩
          obtain ⟨a, r, xs, C, s, hva, ha, hr0, qx, hC, hCs⟩ := rn3.val (rd.fl hpr)
          have cy := rd.cyc C hC
          have hCl := rd.len n1 hC
          have hxl : xs.length = C.length := by rw [qx.len, List.length_map]
          have nat : a ≠ t := ne_of ha ht3 (by intro z; cases z)
          have nrt : r ≠ t := fun z => by
            rw [z, ht3] at hr0
            cases hr0
            have := cy.ne
            rw [← hxl] at this
            exact Nat.lt_irrefl _ this
          refine iteT ⟨.ref D, rfl, .int (i : Nat), rfl, .int x, rfl, by show 2 ≤ sizeLine; decide, fun c nc => ?_⟩
          have sc := same_new (o := .tup [.int (i : Nat), .int (x : Nat)]) nc
          have hc : upd G3 c (.tup [.int (i : Nat), .int (x : Nat)]) c = some (.tup ((pK (i, x)).map kV)) := upd_same
          have kc : ∀ b o, b ≠ t → H3 b = some o → upd G3 c (.tup [.int (i : Nat), .int (x : Nat)]) b = some o := fun b o h1 h2 => sc _ _ (kk _ _ h1 h2)
          have hf4 := sc _ _ hf3
          have k4 : ∀ b o, b ≠ fo → G2 b = some o → upd G3 c (.tup [.int (i : Nat), .int (x : Nat)]) b = some o := fun b o h1 h2 => sc _ _ (k3 _ _ h1 h2)
          generalize upd G3 c (.tup [.int (i : Nat), .int (x : Nat)]) = G4 at hc kc hf4 k4
          have hpow := cy.pow hCl hCs k
          have hm0 : 0 ≤ ((s : Int) + k) % (C.length : Int) := Int.emod_nonneg _ (by have := cy.ne; omega)
          obtain ⟨m, hm2⟩ : ∃ m : Nat, ((s : Int) + k) % (C.length : Int) = m := ⟨_, (Int.toNat_of_nonneg hm0).symm⟩
          rw [hm2, Int.toNat_natCast] at hpow
          obtain ⟨w1, hw1⟩ : ∃ w1, xs[m]? = some w1 := ⟨_, List.getElem?_eq_getElem (by rw [hxl]; exact (List.getElem?_eq_some_iff.mp hpow).1)⟩
          obtain ⟨p', hp', a1, rfl, ha1⟩ := pD_get qx hw1
          rw [hpow] at hp'
          cases Option.some.inj hp'
          have na1 : a1 ≠ t := ne_of ha1 ht3 (by intro z; cases z)
          refine ⟨D, .ref a, rfl, by rw [← hva]; exact DGet.t (kc _ _ nDt hD3) hc, a, [.ref r, .int (s : Nat)], rfl, SqT.of (kc _ _ nat ha), rfl, .ref r, [.int (s : Nat)], rfl, .int (s : Nat), [], rfl, rfl, ?_⟩
          try dsimp only [tNext]
          refine ⟨.ref r, rfl, .int (s : Nat), rfl, .int k, rfl, _, _, rfl, rfl, .inl ⟨_, rfl, .ref r, rfl, r, xs, rfl, .inl (SqL.of (kc _ _ nrt hr0)), _, _, rfl, rfl, by have := cy.ne; omega, r, xs, m, _, rfl, by rw [hxl]; exact congrArg V.int hm2, SqL.of (kc _ _ nrt hr0), atI_nat hw1, a1, _, ((1 : Nat) : Int), _, rfl, rfl, SqT.of (kc _ _ na1 ha1), atI_nat (j := 1) rfl, ?_⟩⟩
          refine ⟨.ref fo, rfl, .int x, rfl, fo, _, x, x, rfl, rfl, hf4, ixN_nat (by rw [List.length_map, rowX_len]; exact hx), _, _, _, rfl, fun b o h1 h2 => ?_, ?_⟩
          · rw [upd_ne h1]
            exact k4 _ _ h1 h2
          · rw [upd_same, ← rowX_in hpr, List.map_set]
      · rintro σ G3 ⟨v8, v9, v10, rfl, k3, hf3⟩
        rw [rowX_end] at hf3
        have hG3 := k3 _ _ nft.symm hG2
        have ts : TS G2 G3 := fun b ys hb => k3 _ _ (fun z => by
          rw [z, hfo] at hb
          cases hb) hb
        have qac3 := DqA.upT ts (ents_flat _) qac2
        refine ⟨.ref t, rfl, .inl ⟨rfl, _, SqL.of hG3⟩, .ref fo, rfl, fo, _, rfl, .inl ⟨SqL.of hf3, fun r nr => ?_⟩⟩
        have sr := same_new (o := .tup ((rowF n (fun p => (powS (stp n T) k p).2) i).map V.int)) nr
        have hr0 : upd G3 r (.tup ((rowF n (fun p => (powS (stp n T) k p).2) i).map V.int)) r = some (.tup ((rowF n (fun p => (powS (stp n T) k p).2) i).map V.int)) := upd_same
        have hG4 := sr _ _ hG3
        have acl : acc.length ≤ 2 ^ n := by
          rw [qac3.len, List.length_map, List.length_take, powT_len]
          exact Nat.min_le_right _ _
        refine ⟨t, acc, .ref r, rfl, rfl, hG4, szl (by omega), _, _, _, _, _, _, acc ++ [.ref r], rfl, fun b o h1 h2 => ?_, upd_same, ?_⟩
        · rw [upd_ne h1]
          exact sr _ _ (k3 _ _ (nff _ _ (kG1 _ _ h1 h2)) (kG2 _ _ h1 h2))
        · rw [powT_take T k hi2, List.map_append]
          have t5 : TS (upd G3 r (.tup ((rowF n (fun p => (powS (stp n T) k p).2) i).map V.int))) (upd (upd G3 r (.tup ((rowF n (fun p => (powS (stp n T) k p).2) i).map V.int))) t (.lst (acc ++ [.ref r]))) := TS.lst hG4
          exact dqa_snoc (DqA.upT t5 (ents_flat _) (qac3.up sr)) (ent_at (t5 _ _ hr0))
    · rintro σ G ⟨v5, v6, v7, v8, v9, v10, acc, rfl, kG, hG, qac⟩
      rw [hel, List.take_of_length_le (by rw [powT_len]; exact Nat.le_refl _)] at qac
      refine ⟨.ref t, rfl, t, _, rfl, .inl ⟨SqL.of hG, fun r nr => q _ _ (fun b o hb => same_new nr _ _ (kG _ _ (nf _ _ hb) (s03 _ _ hb))) (.tup upd_same (qac.up (same_new nr)))⟩⟩
end
end Kr
namespace Kr
open PySem PySem.Spec PyProof.Rows L2
/-! ### what the head has written -/
theorem df_mk {K : PySem.W.Frag} {h : Heap} {mg : Str → Option Value} {x : Str} {st : Stmt} {f : Addr} {ps : List Str} {oc : Value} {od an : Option Addr} {osl : Array (Option Value)} {kV doc pm cdv ct : Value} (X : K.In h) (G : h.Ns mainGlobals mg)
    (a : PySem.W.nsIn K mainGlobals x = some (some (.ref f))) (l : K.lookup f = some ⟨oc, od, .func (PySem.W.fnOf x x (defArgs st) (defBody st) (defScope st) .none kV doc pm an cdv ct), osl⟩) (c : PySem.W.codeIn K cdv x = true) (k : PySem.W.keepIn K (.ref f) = true)
    (hb : ∀ (kV doc pm : Value) (an : Option Addr) (cdv ct : Value) (us : List Value), us.length = ps.length → bindArgs (PySem.W.fnOf x x (defArgs st) (defBody st) (defScope st) .none kV doc pm an cdv ct) ⟨us, []⟩ = pure (ps.zip us)) : Df K mg x st ps :=
  ⟨_, _, fun_mk l c k, (fun_mk l c k).binds hb, PySem.W.mg_of X G a⟩
theorem all_mk {l : PySem.W.OpenLaw} {w : World} {K : PySem.W.Frag} {h : Heap} {mg : Str → Option Value} {fa : Addr} (X : K.In h) (G : h.Ns mainGlobals mg) (hfa : mg "law" = some (.ref fa))
    {f1 : Addr} {oc1 kV1 dc1 pm1 cd1 ct1 : Value} {od1 an1 : Option Addr} {sl1 : Array (Option Value)}
    {f2 : Addr} {oc2 kV2 dc2 pm2 cd2 ct2 : Value} {od2 an2 : Option Addr} {sl2 : Array (Option Value)}
    {f3 : Addr} {oc3 kV3 dc3 pm3 cd3 ct3 : Value} {od3 an3 : Option Addr} {sl3 : Array (Option Value)}
    {f4 : Addr} {oc4 kV4 dc4 pm4 cd4 ct4 : Value} {od4 an4 : Option Addr} {sl4 : Array (Option Value)}
    {f5 : Addr} {oc5 kV5 dc5 pm5 cd5 ct5 : Value} {od5 an5 : Option Addr} {sl5 : Array (Option Value)}
    {f6 : Addr} {oc6 kV6 dc6 pm6 cd6 ct6 : Value} {od6 an6 : Option Addr} {sl6 : Array (Option Value)}
    {f7 : Addr} {oc7 kV7 dc7 pm7 cd7 ct7 : Value} {od7 an7 : Option Addr} {sl7 : Array (Option Value)}
    {f8 : Addr} {oc8 kV8 dc8 pm8 cd8 ct8 : Value} {od8 an8 : Option Addr} {sl8 : Array (Option Value)}
    {f9 : Addr} {oc9 kV9 dc9 pm9 cd9 ct9 : Value} {od9 an9 : Option Addr} {sl9 : Array (Option Value)}
    {f10 : Addr} {oc10 kV10 dc10 pm10 cd10 ct10 : Value} {od10 an10 : Option Addr} {sl10 : Array (Option Value)}
    {f11 : Addr} {oc11 kV11 dc11 pm11 cd11 ct11 : Value} {od11 an11 : Option Addr} {sl11 : Array (Option Value)}
    {f12 : Addr} {oc12 kV12 dc12 pm12 cd12 ct12 : Value} {od12 an12 : Option Addr} {sl12 : Array (Option Value)}
    {f13 : Addr} {oc13 kV13 dc13 pm13 cd13 ct13 : Value} {od13 an13 : Option Addr} {sl13 : Array (Option Value)}
    {f14 : Addr} {oc14 kV14 dc14 pm14 cd14 ct14 : Value} {od14 an14 : Option Addr} {sl14 : Array (Option Value)}
    {f15 : Addr} {oc15 kV15 dc15 pm15 cd15 ct15 : Value} {od15 an15 : Option Addr} {sl15 : Array (Option Value)}
    {f16 : Addr} {oc16 kV16 dc16 pm16 cd16 ct16 : Value} {od16 an16 : Option Addr} {sl16 : Array (Option Value)}
    {f17 : Addr} {oc17 kV17 dc17 pm17 cd17 ct17 : Value} {od17 an17 : Option Addr} {sl17 : Array (Option Value)}
    {f18 : Addr} {oc18 kV18 dc18 pm18 cd18 ct18 : Value} {od18 an18 : Option Addr} {sl18 : Array (Option Value)}
    {f19 : Addr} {oc19 kV19 dc19 pm19 cd19 ct19 : Value} {od19 an19 : Option Addr} {sl19 : Array (Option Value)}
    {f20 : Addr} {oc20 kV20 dc20 pm20 cd20 ct20 : Value} {od20 an20 : Option Addr} {sl20 : Array (Option Value)}
    {f21 : Addr} {oc21 kV21 dc21 pm21 cd21 ct21 : Value} {od21 an21 : Option Addr} {sl21 : Array (Option Value)}
    {f22 : Addr} {oc22 kV22 dc22 pm22 cd22 ct22 : Value} {od22 an22 : Option Addr} {sl22 : Array (Option Value)}
    {f23 : Addr} {oc23 kV23 dc23 pm23 cd23 ct23 : Value} {od23 an23 : Option Addr} {sl23 : Array (Option Value)}
    {f24 : Addr} {oc24 kV24 dc24 pm24 cd24 ct24 : Value} {od24 an24 : Option Addr} {sl24 : Array (Option Value)}
    {f25 : Addr} {oc25 kV25 dc25 pm25 cd25 ct25 : Value} {od25 an25 : Option Addr} {sl25 : Array (Option Value)}
    {f26 : Addr} {oc26 kV26 dc26 pm26 cd26 ct26 : Value} {od26 an26 : Option Addr} {sl26 : Array (Option Value)}
    {f27 : Addr} {oc27 kV27 dc27 pm27 cd27 ct27 : Value} {od27 an27 : Option Addr} {sl27 : Array (Option Value)}
    {f28 : Addr} {oc28 kV28 dc28 pm28 cd28 ct28 : Value} {od28 an28 : Option Addr} {sl28 : Array (Option Value)}
    {f29 : Addr} {oc29 kV29 dc29 pm29 cd29 ct29 : Value} {od29 an29 : Option Addr} {sl29 : Array (Option Value)}
    {f30 : Addr} {oc30 kV30 dc30 pm30 cd30 ct30 : Value} {od30 an30 : Option Addr} {sl30 : Array (Option Value)}
    {f31 : Addr} {oc31 kV31 dc31 pm31 cd31 ct31 : Value} {od31 an31 : Option Addr} {sl31 : Array (Option Value)}
    {f32 : Addr} {oc32 kV32 dc32 pm32 cd32 ct32 : Value} {od32 an32 : Option Addr} {sl32 : Array (Option Value)}
    {f33 : Addr} {oc33 kV33 dc33 pm33 cd33 ct33 : Value} {od33 an33 : Option Addr} {sl33 : Array (Option Value)}
    {f34 : Addr} {oc34 kV34 dc34 pm34 cd34 ct34 : Value} {od34 an34 : Option Addr} {sl34 : Array (Option Value)}
    {f35 : Addr} {oc35 kV35 dc35 pm35 cd35 ct35 : Value} {od35 an35 : Option Addr} {sl35 : Array (Option Value)}
    {f36 : Addr} {oc36 kV36 dc36 pm36 cd36 ct36 : Value} {od36 an36 : Option Addr} {sl36 : Array (Option Value)}
    {f37 : Addr} {oc37 kV37 dc37 pm37 cd37 ct37 : Value} {od37 an37 : Option Addr} {sl37 : Array (Option Value)}
    {f38 : Addr} {oc38 kV38 dc38 pm38 cd38 ct38 : Value} {od38 an38 : Option Addr} {sl38 : Array (Option Value)}
    {f39 : Addr} {oc39 kV39 dc39 pm39 cd39 ct39 : Value} {od39 an39 : Option Addr} {sl39 : Array (Option Value)}
    {f40 : Addr} {oc40 kV40 dc40 pm40 cd40 ct40 : Value} {od40 an40 : Option Addr} {sl40 : Array (Option Value)}
    {f41 : Addr} {oc41 kV41 dc41 pm41 cd41 ct41 : Value} {od41 an41 : Option Addr} {sl41 : Array (Option Value)}
    {f42 : Addr} {oc42 kV42 dc42 pm42 cd42 ct42 : Value} {od42 an42 : Option Addr} {sl42 : Array (Option Value)}
    {f43 : Addr} {oc43 kV43 dc43 pm43 cd43 ct43 : Value} {od43 an43 : Option Addr} {sl43 : Array (Option Value)}
    {f44 : Addr} {oc44 kV44 dc44 pm44 cd44 ct44 : Value} {od44 an44 : Option Addr} {sl44 : Array (Option Value)}
    {tM tL tT : Tok}
    {R T fI : Addr} {nm q : Str} {N : Addr} {bs bm : List Value} {sn : List Str} {sub : List Value} {ab : Bool} {col : Option Bool} {dd : Option Addr} {m0 m1 m2 m3 m5 : Option Value} {ocI dcI pmI cdI ctI : Value} {odI anI : Option Addr} {slI : Array (Option Value)}
    {C1 : Addr}
    {mf1_1 : Addr} {moc1_1 mkV1_1 mdc1_1 mpm1_1 mcd1_1 mct1_1 : Value} {mod1_1 man1_1 : Option Addr} {msl1_1 : Array (Option Value)}
    {mf1_2 : Addr} {moc1_2 mkV1_2 mdc1_2 mpm1_2 mcd1_2 mct1_2 : Value} {mod1_2 man1_2 : Option Addr} {msl1_2 : Array (Option Value)}
    {mf1_3 : Addr} {moc1_3 mkV1_3 mdc1_3 mpm1_3 mcd1_3 mct1_3 : Value} {mod1_3 man1_3 : Option Addr} {msl1_3 : Array (Option Value)}
    {mf1_4 : Addr} {moc1_4 mkV1_4 mdc1_4 mpm1_4 mcd1_4 mct1_4 : Value} {mod1_4 man1_4 : Option Addr} {msl1_4 : Array (Option Value)}
    {C2 : Addr}
    {mf2_1 : Addr} {moc2_1 mkV2_1 mdc2_1 mpm2_1 mcd2_1 mct2_1 : Value} {mod2_1 man2_1 : Option Addr} {msl2_1 : Array (Option Value)}
    {mf2_2 : Addr} {moc2_2 mkV2_2 mdc2_2 mpm2_2 mcd2_2 mct2_2 : Value} {mod2_2 man2_2 : Option Addr} {msl2_2 : Array (Option Value)}
    {mf2_3 : Addr} {moc2_3 mkV2_3 mdc2_3 mpm2_3 mcd2_3 mct2_3 : Value} {mod2_3 man2_3 : Option Addr} {msl2_3 : Array (Option Value)}
    {mf2_4 : Addr} {moc2_4 mkV2_4 mdc2_4 mpm2_4 mcd2_4 mct2_4 : Value} {mod2_4 man2_4 : Option Addr} {msl2_4 : Array (Option Value)}
    {mf2_5 : Addr} {moc2_5 mkV2_5 mdc2_5 mpm2_5 mcd2_5 mct2_5 : Value} {mod2_5 man2_5 : Option Addr} {msl2_5 : Array (Option Value)}
    (ca1 : PySem.W.nsIn K mainGlobals "LengthMeasure" = some (some (.ref C1))) (cb1 : PySem.W.plainGet K C1 Str.empty = true) (cc1 : PySem.W.hasDictIn K C1 = true) (cd_1 : PySem.W.plainOver K C1 = true) (ce1 : PySem.W.findIn K (.ref C1) "__setattr__" = some (some (.builtin "object.__setattr__"))) (cf1 : PySem.W.makesIn K C1 = true) (cg1 : PySem.W.keepIn K (.ref C1) = true)
    (ch1 : PySem.W.findIn K (.ref C1) "__init__" = some (some (.builtin "object.__init__")))
    (ma1_1 : PySem.W.findIn K (.ref C1) "of_deed" = some (some (.ref mf1_1))) (mi1_1 : PySem.W.isFn K (.ref mf1_1) = true) (ml1_1 : K.lookup mf1_1 = some ⟨moc1_1, mod1_1, .func (PySem.W.fnOf "of_deed" "LengthMeasure.of_deed" (defArgs sLmDeed) (defBody sLmDeed) (defScope sLmDeed) .none mkV1_1 mdc1_1 mpm1_1 man1_1 mcd1_1 mct1_1), msl1_1⟩) (mc1_1 : PySem.W.codeIn K mcd1_1 "LengthMeasure.of_deed" = true) (mk1_1 : PySem.W.keepIn K (.ref mf1_1) = true)
    (ma1_2 : PySem.W.findIn K (.ref C1) "of_row" = some (some (.ref mf1_2))) (mi1_2 : PySem.W.isFn K (.ref mf1_2) = true) (ml1_2 : K.lookup mf1_2 = some ⟨moc1_2, mod1_2, .func (PySem.W.fnOf "of_row" "LengthMeasure.of_row" (defArgs sLmRow) (defBody sLmRow) (defScope sLmRow) .none mkV1_2 mdc1_2 mpm1_2 man1_2 mcd1_2 mct1_2), msl1_2⟩) (mc1_2 : PySem.W.codeIn K mcd1_2 "LengthMeasure.of_row" = true) (mk1_2 : PySem.W.keepIn K (.ref mf1_2) = true)
    (ma1_3 : PySem.W.findIn K (.ref C1) "of_back" = some (some (.ref mf1_3))) (mi1_3 : PySem.W.isFn K (.ref mf1_3) = true) (ml1_3 : K.lookup mf1_3 = some ⟨moc1_3, mod1_3, .func (PySem.W.fnOf "of_back" "LengthMeasure.of_back" (defArgs sLmBack) (defBody sLmBack) (defScope sLmBack) .none mkV1_3 mdc1_3 mpm1_3 man1_3 mcd1_3 mct1_3), msl1_3⟩) (mc1_3 : PySem.W.codeIn K mcd1_3 "LengthMeasure.of_back" = true) (mk1_3 : PySem.W.keepIn K (.ref mf1_3) = true)
    (ma1_4 : PySem.W.findIn K (.ref C1) "of_times" = some (some (.ref mf1_4))) (mi1_4 : PySem.W.isFn K (.ref mf1_4) = true) (ml1_4 : K.lookup mf1_4 = some ⟨moc1_4, mod1_4, .func (PySem.W.fnOf "of_times" "LengthMeasure.of_times" (defArgs sLmTimes) (defBody sLmTimes) (defScope sLmTimes) .none mkV1_4 mdc1_4 mpm1_4 man1_4 mcd1_4 mct1_4), msl1_4⟩) (mc1_4 : PySem.W.codeIn K mcd1_4 "LengthMeasure.of_times" = true) (mk1_4 : PySem.W.keepIn K (.ref mf1_4) = true)
    (ca2 : PySem.W.nsIn K mainGlobals "TableMeasure" = some (some (.ref C2))) (cb2 : PySem.W.plainGet K C2 Str.empty = true) (cc2 : PySem.W.hasDictIn K C2 = true) (cd_2 : PySem.W.plainOver K C2 = true) (ce2 : PySem.W.findIn K (.ref C2) "__setattr__" = some (some (.builtin "object.__setattr__"))) (cf2 : PySem.W.makesIn K C2 = true) (cg2 : PySem.W.keepIn K (.ref C2) = true)
    (ct_2_1 : PySem.W.findIn K (.ref C2) "_n" = some none)
    (ma2_1 : PySem.W.findIn K (.ref C2) "__init__" = some (some (.ref mf2_1))) (mi2_1 : PySem.W.isFn K (.ref mf2_1) = true) (ml2_1 : K.lookup mf2_1 = some ⟨moc2_1, mod2_1, .func (PySem.W.fnOf "__init__" "TableMeasure.__init__" (defArgs sTmInit) (defBody sTmInit) (defScope sTmInit) .none mkV2_1 mdc2_1 mpm2_1 man2_1 mcd2_1 mct2_1), msl2_1⟩) (mc2_1 : PySem.W.codeIn K mcd2_1 "TableMeasure.__init__" = true) (mk2_1 : PySem.W.keepIn K (.ref mf2_1) = true)
    (ma2_2 : PySem.W.findIn K (.ref C2) "of_deed" = some (some (.ref mf2_2))) (mi2_2 : PySem.W.isFn K (.ref mf2_2) = true) (ml2_2 : K.lookup mf2_2 = some ⟨moc2_2, mod2_2, .func (PySem.W.fnOf "of_deed" "TableMeasure.of_deed" (defArgs sTmDeed) (defBody sTmDeed) (defScope sTmDeed) .none mkV2_2 mdc2_2 mpm2_2 man2_2 mcd2_2 mct2_2), msl2_2⟩) (mc2_2 : PySem.W.codeIn K mcd2_2 "TableMeasure.of_deed" = true) (mk2_2 : PySem.W.keepIn K (.ref mf2_2) = true)
    (ma2_3 : PySem.W.findIn K (.ref C2) "of_row" = some (some (.ref mf2_3))) (mi2_3 : PySem.W.isFn K (.ref mf2_3) = true) (ml2_3 : K.lookup mf2_3 = some ⟨moc2_3, mod2_3, .func (PySem.W.fnOf "of_row" "TableMeasure.of_row" (defArgs sTmRow) (defBody sTmRow) (defScope sTmRow) .none mkV2_3 mdc2_3 mpm2_3 man2_3 mcd2_3 mct2_3), msl2_3⟩) (mc2_3 : PySem.W.codeIn K mcd2_3 "TableMeasure.of_row" = true) (mk2_3 : PySem.W.keepIn K (.ref mf2_3) = true)
    (ma2_4 : PySem.W.findIn K (.ref C2) "of_back" = some (some (.ref mf2_4))) (mi2_4 : PySem.W.isFn K (.ref mf2_4) = true) (ml2_4 : K.lookup mf2_4 = some ⟨moc2_4, mod2_4, .func (PySem.W.fnOf "of_back" "TableMeasure.of_back" (defArgs sTmBack) (defBody sTmBack) (defScope sTmBack) .none mkV2_4 mdc2_4 mpm2_4 man2_4 mcd2_4 mct2_4), msl2_4⟩) (mc2_4 : PySem.W.codeIn K mcd2_4 "TableMeasure.of_back" = true) (mk2_4 : PySem.W.keepIn K (.ref mf2_4) = true)
    (ma2_5 : PySem.W.findIn K (.ref C2) "of_times" = some (some (.ref mf2_5))) (mi2_5 : PySem.W.isFn K (.ref mf2_5) = true) (ml2_5 : K.lookup mf2_5 = some ⟨moc2_5, mod2_5, .func (PySem.W.fnOf "of_times" "TableMeasure.of_times" (defArgs sTmTimes) (defBody sTmTimes) (defScope sTmTimes) .none mkV2_5 mdc2_5 mpm2_5 man2_5 mcd2_5 mct2_5), msl2_5⟩) (mc2_5 : PySem.W.codeIn K mcd2_5 "TableMeasure.of_times" = true) (mk2_5 : PySem.W.keepIn K (.ref mf2_5) = true)
    (a1 : PySem.W.nsIn K mainGlobals "lots_of" = some (some (.ref f1))) (l1 : K.lookup f1 = some ⟨oc1, od1, .func (PySem.W.fnOf "lots_of" "lots_of" (defArgs sLotsOf) (defBody sLotsOf) (defScope sLotsOf) .none kV1 dc1 pm1 an1 cd1 ct1), sl1⟩) (c1 : PySem.W.codeIn K cd1 "lots_of" = true) (k1 : PySem.W.keepIn K (.ref f1) = true)
    (a2 : PySem.W.nsIn K mainGlobals "all_lots" = some (some (.ref f2))) (l2 : K.lookup f2 = some ⟨oc2, od2, .func (PySem.W.fnOf "all_lots" "all_lots" (defArgs sAllLots) (defBody sAllLots) (defScope sAllLots) .none kV2 dc2 pm2 an2 cd2 ct2), sl2⟩) (c2 : PySem.W.codeIn K cd2 "all_lots" = true) (k2 : PySem.W.keepIn K (.ref f2) = true)
    (a3 : PySem.W.nsIn K mainGlobals "program_worth" = some (some (.ref f3))) (l3 : K.lookup f3 = some ⟨oc3, od3, .func (PySem.W.fnOf "program_worth" "program_worth" (defArgs sProgramWorth) (defBody sProgramWorth) (defScope sProgramWorth) .none kV3 dc3 pm3 an3 cd3 ct3), sl3⟩) (c3 : PySem.W.codeIn K cd3 "program_worth" = true) (k3 : PySem.W.keepIn K (.ref f3) = true)
    (a4 : PySem.W.nsIn K mainGlobals "term_worth" = some (some (.ref f4))) (l4 : K.lookup f4 = some ⟨oc4, od4, .func (PySem.W.fnOf "term_worth" "term_worth" (defArgs sTermWorth) (defBody sTermWorth) (defScope sTermWorth) .none kV4 dc4 pm4 an4 cd4 ct4), sl4⟩) (c4 : PySem.W.codeIn K cd4 "term_worth" = true) (k4 : PySem.W.keepIn K (.ref f4) = true)
    (a5 : PySem.W.nsIn K mainGlobals "length" = some (some (.ref f5))) (l5 : K.lookup f5 = some ⟨oc5, od5, .func (PySem.W.fnOf "length" "length" (defArgs sLength) (defBody sLength) (defScope sLength) .none kV5 dc5 pm5 an5 cd5 ct5), sl5⟩) (c5 : PySem.W.codeIn K cd5 "length" = true) (k5 : PySem.W.keepIn K (.ref f5) = true)
    (a6 : PySem.W.nsIn K mainGlobals "joined" = some (some (.ref f6))) (l6 : K.lookup f6 = some ⟨oc6, od6, .func (PySem.W.fnOf "joined" "joined" (defArgs sJoined) (defBody sJoined) (defScope sJoined) .none kV6 dc6 pm6 an6 cd6 ct6), sl6⟩) (c6 : PySem.W.codeIn K cd6 "joined" = true) (k6 : PySem.W.keepIn K (.ref f6) = true)
    (a7 : PySem.W.nsIn K mainGlobals "with_parts_at" = some (some (.ref f7))) (l7 : K.lookup f7 = some ⟨oc7, od7, .func (PySem.W.fnOf "with_parts_at" "with_parts_at" (defArgs sWithPartsAt) (defBody sWithPartsAt) (defScope sWithPartsAt) .none kV7 dc7 pm7 an7 cd7 ct7), sl7⟩) (c7 : PySem.W.codeIn K cd7 "with_parts_at" = true) (k7 : PySem.W.keepIn K (.ref f7) = true)
    (a8 : PySem.W.nsIn K mainGlobals "backward" = some (some (.ref f8))) (l8 : K.lookup f8 = some ⟨oc8, od8, .func (PySem.W.fnOf "backward" "backward" (defArgs sBackward) (defBody sBackward) (defScope sBackward) .none kV8 dc8 pm8 an8 cd8 ct8), sl8⟩) (c8 : PySem.W.codeIn K cd8 "backward" = true) (k8 : PySem.W.keepIn K (.ref f8) = true)
    (a9 : PySem.W.nsIn K mainGlobals "goal" = some (some (.ref f9))) (l9 : K.lookup f9 = some ⟨oc9, od9, .func (PySem.W.fnOf "goal" "goal" (defArgs sGoal) (defBody sGoal) (defScope sGoal) .none kV9 dc9 pm9 an9 cd9 ct9), sl9⟩) (c9 : PySem.W.codeIn K cd9 "goal" = true) (k9 : PySem.W.keepIn K (.ref f9) = true)
    (a10 : PySem.W.nsIn K mainGlobals "still" = some (some (.ref f10))) (l10 : K.lookup f10 = some ⟨oc10, od10, .func (PySem.W.fnOf "still" "still" (defArgs sStill) (defBody sStill) (defScope sStill) .none kV10 dc10 pm10 an10 cd10 ct10), sl10⟩) (c10 : PySem.W.codeIn K cd10 "still" = true) (k10 : PySem.W.keepIn K (.ref f10) = true)
    (a11 : PySem.W.nsIn K mainGlobals "ways_table" = some (some (.ref f11))) (l11 : K.lookup f11 = some ⟨oc11, od11, .func (PySem.W.fnOf "ways_table" "ways_table" (defArgs sWays) (defBody sWays) (defScope sWays) .none kV11 dc11 pm11 an11 cd11 ct11), sl11⟩) (c11 : PySem.W.codeIn K cd11 "ways_table" = true) (k11 : PySem.W.keepIn K (.ref f11) = true)
    (a12 : PySem.W.nsIn K mainGlobals "_entry_by" = some (some (.ref f12))) (l12 : K.lookup f12 = some ⟨oc12, od12, .func (PySem.W.fnOf "_entry_by" "_entry_by" (defArgs sEntryBy) (defBody sEntryBy) (defScope sEntryBy) .none kV12 dc12 pm12 an12 cd12 ct12), sl12⟩) (c12 : PySem.W.codeIn K cd12 "_entry_by" = true) (k12 : PySem.W.keepIn K (.ref f12) = true)
    (a13 : PySem.W.nsIn K mainGlobals "deed_table" = some (some (.ref f13))) (l13 : K.lookup f13 = some ⟨oc13, od13, .func (PySem.W.fnOf "deed_table" "deed_table" (defArgs sDeedTable) (defBody sDeedTable) (defScope sDeedTable) .none kV13 dc13 pm13 an13 cd13 ct13), sl13⟩) (c13 : PySem.W.codeIn K cd13 "deed_table" = true) (k13 : PySem.W.keepIn K (.ref f13) = true)
    (a14 : PySem.W.nsIn K mainGlobals "both" = some (some (.ref f14))) (l14 : K.lookup f14 = some ⟨oc14, od14, .func (PySem.W.fnOf "both" "both" (defArgs sBoth) (defBody sBoth) (defScope sBoth) .none kV14 dc14 pm14 an14 cd14 ct14), sl14⟩) (c14 : PySem.W.codeIn K cd14 "both" = true) (k14 : PySem.W.keepIn K (.ref f14) = true)
    (a15 : PySem.W.nsIn K mainGlobals "numbers_of_lots" = some (some (.ref f15))) (l15 : K.lookup f15 = some ⟨oc15, od15, .func (PySem.W.fnOf "numbers_of_lots" "numbers_of_lots" (defArgs sNumbers) (defBody sNumbers) (defScope sNumbers) .none kV15 dc15 pm15 an15 cd15 ct15), sl15⟩) (c15 : PySem.W.codeIn K cd15 "numbers_of_lots" = true) (k15 : PySem.W.keepIn K (.ref f15) = true)
    (a16 : PySem.W.nsIn K mainGlobals "undone" = some (some (.ref f16))) (l16 : K.lookup f16 = some ⟨oc16, od16, .func (PySem.W.fnOf "undone" "undone" (defArgs sUndone) (defBody sUndone) (defScope sUndone) .none kV16 dc16 pm16 an16 cd16 ct16), sl16⟩) (c16 : PySem.W.codeIn K cd16 "undone" = true) (k16 : PySem.W.keepIn K (.ref f16) = true)
    (a17 : PySem.W.nsIn K mainGlobals "aims_of" = some (some (.ref f17))) (l17 : K.lookup f17 = some ⟨oc17, od17, .func (PySem.W.fnOf "aims_of" "aims_of" (defArgs sAims) (defBody sAims) (defScope sAims) .none kV17 dc17 pm17 an17 cd17 ct17), sl17⟩) (c17 : PySem.W.codeIn K cd17 "aims_of" = true) (k17 : PySem.W.keepIn K (.ref f17) = true)
    (a18 : PySem.W.nsIn K mainGlobals "turned_back" = some (some (.ref f18))) (l18 : K.lookup f18 = some ⟨oc18, od18, .func (PySem.W.fnOf "turned_back" "turned_back" (defArgs sTurnedBack) (defBody sTurnedBack) (defScope sTurnedBack) .none kV18 dc18 pm18 an18 cd18 ct18), sl18⟩) (c18 : PySem.W.codeIn K cd18 "turned_back" = true) (k18 : PySem.W.keepIn K (.ref f18) = true)
    (a19 : PySem.W.nsIn K mainGlobals "power" = some (some (.ref f19))) (l19 : K.lookup f19 = some ⟨oc19, od19, .func (PySem.W.fnOf "power" "power" (defArgs sPower) (defBody sPower) (defScope sPower) .none kV19 dc19 pm19 an19 cd19 ct19), sl19⟩) (c19 : PySem.W.codeIn K cd19 "power" = true) (k19 : PySem.W.keepIn K (.ref f19) = true)
    (a20 : PySem.W.nsIn K mainGlobals "_entry_of" = some (some (.ref f20))) (l20 : K.lookup f20 = some ⟨oc20, od20, .func (PySem.W.fnOf "_entry_of" "_entry_of" (defArgs sEntryOf) (defBody sEntryOf) (defScope sEntryOf) .none kV20 dc20 pm20 an20 cd20 ct20), sl20⟩) (c20 : PySem.W.codeIn K cd20 "_entry_of" = true) (k20 : PySem.W.keepIn K (.ref f20) = true)
    (a21 : PySem.W.nsIn K mainGlobals "_circles" = some (some (.ref f21))) (l21 : K.lookup f21 = some ⟨oc21, od21, .func (PySem.W.fnOf "_circles" "_circles" (defArgs sCircles) (defBody sCircles) (defScope sCircles) .none kV21 dc21 pm21 an21 cd21 ct21), sl21⟩) (c21 : PySem.W.codeIn K cd21 "_circles" = true) (k21 : PySem.W.keepIn K (.ref f21) = true)
    (a22 : PySem.W.nsIn K mainGlobals "steps_of" = some (some (.ref f22))) (l22 : K.lookup f22 = some ⟨oc22, od22, .func (PySem.W.fnOf "steps_of" "steps_of" (defArgs sStepsOf) (defBody sStepsOf) (defScope sStepsOf) .none kV22 dc22 pm22 an22 cd22 ct22), sl22⟩) (c22 : PySem.W.codeIn K cd22 "steps_of" = true) (k22 : PySem.W.keepIn K (.ref f22) = true)
    (a23 : PySem.W.nsIn K mainGlobals "table_of" = some (some (.ref f23))) (l23 : K.lookup f23 = some ⟨oc23, od23, .func (PySem.W.fnOf "table_of" "table_of" (defArgs sTableOf) (defBody sTableOf) (defScope sTableOf) .none kV23 dc23 pm23 an23 cd23 ct23), sl23⟩) (c23 : PySem.W.codeIn K cd23 "table_of" = true) (k23 : PySem.W.keepIn K (.ref f23) = true)
    (a24 : PySem.W.nsIn K mainGlobals "_law_box" = some (some (.ref f24))) (l24 : K.lookup f24 = some ⟨oc24, od24, .func (PySem.W.fnOf "_law_box" "_law_box" (defArgs sBox) (defBody sBox) (defScope sBox) .none kV24 dc24 pm24 an24 cd24 ct24), sl24⟩) (c24 : PySem.W.codeIn K cd24 "_law_box" = true) (k24 : PySem.W.keepIn K (.ref f24) = true)
    (a25 : PySem.W.nsIn K mainGlobals "_law_draw" = some (some (.ref f25))) (l25 : K.lookup f25 = some ⟨oc25, od25, .func (PySem.W.fnOf "_law_draw" "_law_draw" (defArgs sDraw) (defBody sDraw) (defScope sDraw) .none kV25 dc25 pm25 an25 cd25 ct25), sl25⟩) (c25 : PySem.W.codeIn K cd25 "_law_draw" = true) (k25 : PySem.W.keepIn K (.ref f25) = true)
    (a26 : PySem.W.nsIn K mainGlobals "_law_pick" = some (some (.ref f26))) (l26 : K.lookup f26 = some ⟨oc26, od26, .func (PySem.W.fnOf "_law_pick" "_law_pick" (defArgs sPick) (defBody sPick) (defScope sPick) .none kV26 dc26 pm26 an26 cd26 ct26), sl26⟩) (c26 : PySem.W.codeIn K cd26 "_law_pick" = true) (k26 : PySem.W.keepIn K (.ref f26) = true)
    (a27 : PySem.W.nsIn K mainGlobals "_law_mixed" = some (some (.ref f27))) (l27 : K.lookup f27 = some ⟨oc27, od27, .func (PySem.W.fnOf "_law_mixed" "_law_mixed" (defArgs sMixed) (defBody sMixed) (defScope sMixed) .none kV27 dc27 pm27 an27 cd27 ct27), sl27⟩) (c27 : PySem.W.codeIn K cd27 "_law_mixed" = true) (k27 : PySem.W.keepIn K (.ref f27) = true)
    (a28 : PySem.W.nsIn K mainGlobals "_law_every" = some (some (.ref f28))) (l28 : K.lookup f28 = some ⟨oc28, od28, .func (PySem.W.fnOf "_law_every" "_law_every" (defArgs sEvery) (defBody sEvery) (defScope sEvery) .none kV28 dc28 pm28 an28 cd28 ct28), sl28⟩) (c28 : PySem.W.codeIn K cd28 "_law_every" = true) (k28 : PySem.W.keepIn K (.ref f28) = true)
    (a29 : PySem.W.nsIn K mainGlobals "_law_deed" = some (some (.ref f29))) (l29 : K.lookup f29 = some ⟨oc29, od29, .func (PySem.W.fnOf "_law_deed" "_law_deed" (defArgs sDeed) (defBody sDeed) (defScope sDeed) .none kV29 dc29 pm29 an29 cd29 ct29), sl29⟩) (c29 : PySem.W.codeIn K cd29 "_law_deed" = true) (k29 : PySem.W.keepIn K (.ref f29) = true)
    (a30 : PySem.W.nsIn K mainGlobals "_law_entry" = some (some (.ref f30))) (l30 : K.lookup f30 = some ⟨oc30, od30, .func (PySem.W.fnOf "_law_entry" "_law_entry" (defArgs sEntry) (defBody sEntry) (defScope sEntry) .none kV30 dc30 pm30 an30 cd30 ct30), sl30⟩) (c30 : PySem.W.codeIn K cd30 "_law_entry" = true) (k30 : PySem.W.keepIn K (.ref f30) = true)
    (a31 : PySem.W.nsIn K mainGlobals "_law_made" = some (some (.ref f31))) (l31 : K.lookup f31 = some ⟨oc31, od31, .func (PySem.W.fnOf "_law_made" "_law_made" (defArgs sMade) (defBody sMade) (defScope sMade) .none kV31 dc31 pm31 an31 cd31 ct31), sl31⟩) (c31 : PySem.W.codeIn K cd31 "_law_made" = true) (k31 : PySem.W.keepIn K (.ref f31) = true)
    (a32 : PySem.W.nsIn K mainGlobals "_law_places" = some (some (.ref f32))) (l32 : K.lookup f32 = some ⟨oc32, od32, .func (PySem.W.fnOf "_law_places" "_law_places" (defArgs sLPlaces) (defBody sLPlaces) (defScope sLPlaces) .none kV32 dc32 pm32 an32 cd32 ct32), sl32⟩) (c32 : PySem.W.codeIn K cd32 "_law_places" = true) (k32 : PySem.W.keepIn K (.ref f32) = true)
    (a33 : PySem.W.nsIn K mainGlobals "_law_keys_behind" = some (some (.ref f33))) (l33 : K.lookup f33 = some ⟨oc33, od33, .func (PySem.W.fnOf "_law_keys_behind" "_law_keys_behind" (defArgs sLKeysBehind) (defBody sLKeysBehind) (defScope sLKeysBehind) .none kV33 dc33 pm33 an33 cd33 ct33), sl33⟩) (c33 : PySem.W.codeIn K cd33 "_law_keys_behind" = true) (k33 : PySem.W.keepIn K (.ref f33) = true)
    (a34 : PySem.W.nsIn K mainGlobals "_law_after" = some (some (.ref f34))) (l34 : K.lookup f34 = some ⟨oc34, od34, .func (PySem.W.fnOf "_law_after" "_law_after" (defArgs sLAfter) (defBody sLAfter) (defScope sLAfter) .none kV34 dc34 pm34 an34 cd34 ct34), sl34⟩) (c34 : PySem.W.codeIn K cd34 "_law_after" = true) (k34 : PySem.W.keepIn K (.ref f34) = true)
    (a35 : PySem.W.nsIn K mainGlobals "_law_turned" = some (some (.ref f35))) (l35 : K.lookup f35 = some ⟨oc35, od35, .func (PySem.W.fnOf "_law_turned" "_law_turned" (defArgs sLTurned) (defBody sLTurned) (defScope sLTurned) .none kV35 dc35 pm35 an35 cd35 ct35), sl35⟩) (c35 : PySem.W.codeIn K cd35 "_law_turned" = true) (k35 : PySem.W.keepIn K (.ref f35) = true)
    (a36 : PySem.W.nsIn K mainGlobals "_law_rounds" = some (some (.ref f36))) (l36 : K.lookup f36 = some ⟨oc36, od36, .func (PySem.W.fnOf "_law_rounds" "_law_rounds" (defArgs sLRounds) (defBody sLRounds) (defScope sLRounds) .none kV36 dc36 pm36 an36 cd36 ct36), sl36⟩) (c36 : PySem.W.codeIn K cd36 "_law_rounds" = true) (k36 : PySem.W.keepIn K (.ref f36) = true)
    (a37 : PySem.W.nsIn K mainGlobals "_law_often" = some (some (.ref f37))) (l37 : K.lookup f37 = some ⟨oc37, od37, .func (PySem.W.fnOf "_law_often" "_law_often" (defArgs sLOften) (defBody sLOften) (defScope sLOften) .none kV37 dc37 pm37 an37 cd37 ct37), sl37⟩) (c37 : PySem.W.codeIn K cd37 "_law_often" = true) (k37 : PySem.W.keepIn K (.ref f37) = true)
    (a38 : PySem.W.nsIn K mainGlobals "_law_far" = some (some (.ref f38))) (l38 : K.lookup f38 = some ⟨oc38, od38, .func (PySem.W.fnOf "_law_far" "_law_far" (defArgs sLFar) (defBody sLFar) (defScope sLFar) .none kV38 dc38 pm38 an38 cd38 ct38), sl38⟩) (c38 : PySem.W.codeIn K cd38 "_law_far" = true) (k38 : PySem.W.keepIn K (.ref f38) = true)
    (a39 : PySem.W.nsIn K mainGlobals "_law_term" = some (some (.ref f39))) (l39 : K.lookup f39 = some ⟨oc39, od39, .func (PySem.W.fnOf "_law_term" "_law_term" (defArgs sLTerm) (defBody sLTerm) (defScope sLTerm) .none kV39 dc39 pm39 an39 cd39 ct39), sl39⟩) (c39 : PySem.W.codeIn K cd39 "_law_term" = true) (k39 : PySem.W.keepIn K (.ref f39) = true)
    (a40 : PySem.W.nsIn K mainGlobals "_law_table_by" = some (some (.ref f40))) (l40 : K.lookup f40 = some ⟨oc40, od40, .func (PySem.W.fnOf "_law_table_by" "_law_table_by" (defArgs sLTableBy) (defBody sLTableBy) (defScope sLTableBy) .none kV40 dc40 pm40 an40 cd40 ct40), sl40⟩) (c40 : PySem.W.codeIn K cd40 "_law_table_by" = true) (k40 : PySem.W.keepIn K (.ref f40) = true)
    (a41 : PySem.W.nsIn K mainGlobals "_law_many" = some (some (.ref f41))) (l41 : K.lookup f41 = some ⟨oc41, od41, .func (PySem.W.fnOf "_law_many" "_law_many" (defArgs sLMany) (defBody sLMany) (defScope sLMany) .none kV41 dc41 pm41 an41 cd41 ct41), sl41⟩) (c41 : PySem.W.codeIn K cd41 "_law_many" = true) (k41 : PySem.W.keepIn K (.ref f41) = true)
    (a42 : PySem.W.nsIn K mainGlobals "_law_is_great" = some (some (.ref f42))) (l42 : K.lookup f42 = some ⟨oc42, od42, .func (PySem.W.fnOf "_law_is_great" "_law_is_great" (defArgs sLIsGreat) (defBody sLIsGreat) (defScope sLIsGreat) .none kV42 dc42 pm42 an42 cd42 ct42), sl42⟩) (c42 : PySem.W.codeIn K cd42 "_law_is_great" = true) (k42 : PySem.W.keepIn K (.ref f42) = true)
    (a43 : PySem.W.nsIn K mainGlobals "_law_is_chained" = some (some (.ref f43))) (l43 : K.lookup f43 = some ⟨oc43, od43, .func (PySem.W.fnOf "_law_is_chained" "_law_is_chained" (defArgs sLIsChained) (defBody sLIsChained) (defScope sLIsChained) .none kV43 dc43 pm43 an43 cd43 ct43), sl43⟩) (c43 : PySem.W.codeIn K cd43 "_law_is_chained" = true) (k43 : PySem.W.keepIn K (.ref f43) = true)
    (a44 : PySem.W.nsIn K mainGlobals "law" = some (some (.ref f44))) (l44 : K.lookup f44 = some ⟨oc44, od44, .func (PySem.W.fnOf "law" "law" (defArgs sLaw) (defBody sLaw) (defScope sLaw) .none kV44 dc44 pm44 an44 cd44 ct44), sl44⟩) (c44 : PySem.W.codeIn K cd44 "law" = true) (k44 : PySem.W.keepIn K (.ref f44) = true)
    (z1 : PySem.W.nsIn K mainGlobals "len" = some none)
    (z2 : PySem.W.nsIn K mainGlobals "abs" = some none)
    (z3 : PySem.W.nsIn K mainGlobals "int" = some none)
    (z4 : PySem.W.nsIn K mainGlobals "bool" = some none)
    (z5 : PySem.W.nsIn K mainGlobals "tuple" = some none)
    (z6 : PySem.W.nsIn K mainGlobals "list" = some none)
    (z7 : PySem.W.nsIn K mainGlobals "range" = some none)
    (z8 : PySem.W.nsIn K mainGlobals "zip" = some none)
    (z9 : PySem.W.nsIn K mainGlobals "repr" = some none)
    (z10 : PySem.W.nsIn K mainGlobals "enumerate" = some none)
    (z11 : PySem.W.nsIn K mainGlobals "isinstance" = some none)
    (z12 : PySem.W.nsIn K mainGlobals "all" = some none)
    (z13 : PySem.W.nsIn K mainGlobals "sorted" = some none)
    (z14 : PySem.W.nsIn K mainGlobals "set" = some none)
    (z15 : PySem.W.nsIn K mainGlobals "sum" = some none)
    (z16 : PySem.W.nsIn K mainGlobals "min" = some none)
    (z17 : PySem.W.nsIn K mainGlobals "max" = some none)
    (z18 : PySem.W.nsIn K mainGlobals "any" = some none)
    (z19 : PySem.W.nsIn K mainGlobals "str" = some none)
    (m : PySem.W.nsIn K mainGlobals "MAX_TABLE" = some (some (.int 6 tM)))
    (ml : PySem.W.nsIn K mainGlobals "MAX_LENGTH" = some (some (.int (lim : Int) tL)))
    (mt : PySem.W.nsIn K mainGlobals "MAX_TERMS" = some (some (.int 400 tT)))
    (e2 : PySem.W.nsIn K mainGlobals "RidersError" = some (some (.ref R)))
    (e3 : PySem.W.nsIn K mainGlobals "TooMany" = some (some (.ref T)))
    (y5 : PySem.W.specialIn K (.builtin "object.__class__") "__get__" = some (some (.builtin "getset_descriptor.__get__")))
    (y6 : PySem.W.takesIn K (.builtin "object.__class__") = some true)
    (tL : K.lookup T = some (excClassObj nm q T N bs bm true sn sub ab col dd m0 m1 m2 m3 m5 "ValueError.__new__"))
    (tb : PySem.HandSPX.refsVE bm = true)
    (t1 : PySem.W.findIn K (.ref T) "__setattr__" = some (some (.builtin "object.__setattr__")))
    (t2 : PySem.W.findIn K (.ref T) "__getattribute__" = some (some (.builtin "BaseException.__getattribute__")))
    (t3 : PySem.W.findIn K (.ref T) "__getattr__" = some none)
    (t4 : PySem.W.findIn K (.ref T) "limit" = some none)
    (t5 : PySem.W.findIn K (.ref T) "__init__" = some (some (.ref fI)))
    (t6 : PySem.W.typeIn K (.ref fI) = some (.type "function"))
    (t7 : K.lookup fI = some ⟨ocI, odI, .func (PySem.W.fnOf "__init__" "TooMany.__init__" (PySem.TooX.iA ⟨9, 17, 9, 21⟩ ⟨9, 23, 9, 28⟩) (PySem.TooX.iB ⟨10, 8, 10, 12⟩ ⟨10, 8, 10, 18⟩ ⟨10, 21, 10, 26⟩ ⟨10, 8, 10, 26⟩) PySem.TooX.iS .none .none dcI pmI anI cdI ctI), slI⟩)
    (t8 : PySem.W.codeIn K cdI "TooMany.__init__" = true)
    (u1 : PySem.W.keepIn K (.ref T) = true)
    (u2 : PySem.W.subIn K (.ref T) (.type "BaseException") = some true)
    (u3 : PySem.W.typeIn K (.ref T) = some (.type "type"))
    (u4 : PySem.W.hasDictIn K T = true)
    (u5 : PySem.W.subIn K (.ref T) (.ref T) = some true)
    (u6 : PySem.W.kitOne K (.ref T) (.ref R) = some true)
    (u7 : PySem.W.findIn K (.ref T) "__class__" = some (some (.builtin "object.__class__")))
    (u8 : PySem.W.mroIn K T (.type "object") = some true)
    : ∃ fd : FuncData, (∀ (s : Shared) (u : Value), BindsTo s fd ⟨[u], []⟩ [("script", u)]) ∧ ∀ base : Heap, K.In base → base.Ns mainGlobals mg → FnG l.prog w K mg base CX0 43 fa fd ["script"] (spLaw K) := by
  have e := hfa.symm.trans (PySem.W.mg_of X G a44)
  cases e
  have D1 : Df K mg "lots_of" sLotsOf ["n", "size"] := df_mk X G a1 l1 c1 k1 fun _ _ _ _ _ _ us hl => match us, hl with | [_, _], _ => rfl
  have D2 : Df K mg "all_lots" sAllLots ["n"] := df_mk X G a2 l2 c2 k2 fun _ _ _ _ _ _ us hl => match us, hl with | [_], _ => rfl
  have D3 : Df K mg "program_worth" sProgramWorth ["program", "measure"] := df_mk X G a3 l3 c3 k3 fun _ _ _ _ _ _ us hl => match us, hl with | [_, _], _ => rfl
  have D4 : Df K mg "term_worth" sTermWorth ["term", "worths", "measure"] := df_mk X G a4 l4 c4 k4 fun _ _ _ _ _ _ us hl => match us, hl with | [_, _, _], _ => rfl
  have D5 : Df K mg "length" sLength ["program"] := df_mk X G a5 l5 c5 k5 fun _ _ _ _ _ _ us hl => match us, hl with | [_], _ => rfl
  have D6 : Df K mg "joined" sJoined ["one", "other"] := df_mk X G a6 l6 c6 k6 fun _ _ _ _ _ _ us hl => match us, hl with | [_, _], _ => rfl
  have D7 : Df K mg "with_parts_at" sWithPartsAt ["term", "spots"] := df_mk X G a7 l7 c7 k7 fun _ _ _ _ _ _ us hl => match us, hl with | [_, _], _ => rfl
  have D8 : Df K mg "backward" sBackward ["program"] := df_mk X G a8 l8 c8 k8 fun _ _ _ _ _ _ us hl => match us, hl with | [_], _ => rfl
  have D9 : Df K mg "goal" sGoal ["n", "entry"] := df_mk X G a9 l9 c9 k9 fun _ _ _ _ _ _ us hl => match us, hl with | [_, _], _ => rfl
  have D10 : Df K mg "still" sStill ["n"] := df_mk X G a10 l10 c10 k10 fun _ _ _ _ _ _ us hl => match us, hl with | [_], _ => rfl
  have D11 : Df K mg "ways_table" sWays ["n", "ways"] := df_mk X G a11 l11 c11 k11 fun _ _ _ _ _ _ us hl => match us, hl with | [_, _], _ => rfl
  have D12 : Df K mg "_entry_by" sEntryBy ["lot", "ways"] := df_mk X G a12 l12 c12 k12 fun _ _ _ _ _ _ us hl => match us, hl with | [_, _], _ => rfl
  have D13 : Df K mg "deed_table" sDeedTable ["n", "deed"] := df_mk X G a13 l13 c13 k13 fun _ _ _ _ _ _ us hl => match us, hl with | [_, _], _ => rfl
  have D14 : Df K mg "both" sBoth ["n", "one", "other"] := df_mk X G a14 l14 c14 k14 fun _ _ _ _ _ _ us hl => match us, hl with | [_, _, _], _ => rfl
  have D15 : Df K mg "numbers_of_lots" sNumbers ["n"] := df_mk X G a15 l15 c15 k15 fun _ _ _ _ _ _ us hl => match us, hl with | [_], _ => rfl
  have D16 : Df K mg "undone" sUndone ["n", "table"] := df_mk X G a16 l16 c16 k16 fun _ _ _ _ _ _ us hl => match us, hl with | [_, _], _ => rfl
  have D17 : Df K mg "aims_of" sAims ["n", "table"] := df_mk X G a17 l17 c17 k17 fun _ _ _ _ _ _ us hl => match us, hl with | [_, _], _ => rfl
  have D18 : Df K mg "turned_back" sTurnedBack ["entry"] := df_mk X G a18 l18 c18 k18 fun _ _ _ _ _ _ us hl => match us, hl with | [_], _ => rfl
  have D19 : Df K mg "power" sPower ["n", "table", "k"] := df_mk X G a19 l19 c19 k19 fun _ _ _ _ _ _ us hl => match us, hl with | [_, _, _], _ => rfl
  have D20 : Df K mg "_entry_of" sEntryOf ["n", "number", "behind"] := df_mk X G a20 l20 c20 k20 fun _ _ _ _ _ _ us hl => match us, hl with | [_, _, _], _ => rfl
  have D21 : Df K mg "_circles" sCircles ["n", "table"] := df_mk X G a21 l21 c21 k21 fun _ _ _ _ _ _ us hl => match us, hl with | [_, _], _ => rfl
  have D22 : Df K mg "steps_of" sStepsOf ["n", "table"] := df_mk X G a22 l22 c22 k22 fun _ _ _ _ _ _ us hl => match us, hl with | [_, _], _ => rfl
  have D23 : DfN K mg "table_of" sTableOf ["n", "program"] ["program", "n"] := ⟨_, _, fun_mk l23 c23 k23, (fun_mk l23 c23 k23).binds (fun _ _ _ _ _ _ us hl => match us, hl with | [_, _], _ => rfl), PySem.W.mg_of X G a23, kbn_of (fun_mk l23 c23 k23) (fun zs => zs.reverse) vals_swap fun _ _ _ _ _ _ ws hl => match ws, hl with | [_, _], _ => rfl⟩
  have D24 : Df K mg "_law_box" sBox ["script"] := df_mk X G a24 l24 c24 k24 fun _ _ _ _ _ _ us hl => match us, hl with | [_], _ => rfl
  have D25 : Df K mg "_law_draw" sDraw ["box", "many"] := df_mk X G a25 l25 c25 k25 fun _ _ _ _ _ _ us hl => match us, hl with | [_, _], _ => rfl
  have D26 : Df K mg "_law_pick" sPick ["box", "items"] := df_mk X G a26 l26 c26 k26 fun _ _ _ _ _ _ us hl => match us, hl with | [_, _], _ => rfl
  have D27 : Df K mg "_law_mixed" sMixed ["box", "items"] := df_mk X G a27 l27 c27 k27 fun _ _ _ _ _ _ us hl => match us, hl with | [_, _], _ => rfl
  have D28 : Df K mg "_law_every" sEvery ["n"] := df_mk X G a28 l28 c28 k28 fun _ _ _ _ _ _ us hl => match us, hl with | [_], _ => rfl
  have D29 : Df K mg "_law_deed" sDeed ["box", "n"] := df_mk X G a29 l29 c29 k29 fun _ _ _ _ _ _ us hl => match us, hl with | [_, _], _ => rfl
  have D30 : Df K mg "_law_entry" sEntry ["n", "lies"] := df_mk X G a30 l30 c30 k30 fun _ _ _ _ _ _ us hl => match us, hl with | [_, _], _ => rfl
  have D31 : Df K mg "_law_made" sMade ["n", "moves"] := df_mk X G a31 l31 c31 k31 fun _ _ _ _ _ _ us hl => match us, hl with | [_, _], _ => rfl
  have D32 : Df K mg "_law_places" sLPlaces ["n"] := df_mk X G a32 l32 c32 k32 fun _ _ _ _ _ _ us hl => match us, hl with | [_], _ => rfl
  have D33 : Df K mg "_law_keys_behind" sLKeysBehind ["n", "entry"] := df_mk X G a33 l33 c33 k33 fun _ _ _ _ _ _ us hl => match us, hl with | [_, _], _ => rfl
  have D34 : Df K mg "_law_after" sLAfter ["n", "one", "other"] := df_mk X G a34 l34 c34 k34 fun _ _ _ _ _ _ us hl => match us, hl with | [_, _, _], _ => rfl
  have D35 : Df K mg "_law_turned" sLTurned ["n", "table"] := df_mk X G a35 l35 c35 k35 fun _ _ _ _ _ _ us hl => match us, hl with | [_, _], _ => rfl
  have D36 : Df K mg "_law_rounds" sLRounds ["n", "table"] := df_mk X G a36 l36 c36 k36 fun _ _ _ _ _ _ us hl => match us, hl with | [_, _], _ => rfl
  have D37 : Df K mg "_law_often" sLOften ["n", "table", "many"] := df_mk X G a37 l37 c37 k37 fun _ _ _ _ _ _ us hl => match us, hl with | [_, _, _], _ => rfl
  have D38 : Df K mg "_law_far" sLFar ["box"] := df_mk X G a38 l38 c38 k38 fun _ _ _ _ _ _ us hl => match us, hl with | [_], _ => rfl
  have D39 : Df K mg "_law_term" sLTerm ["box", "n", "at", "deep", "far"] := df_mk X G a39 l39 c39 k39 fun _ _ _ _ _ _ us hl => match us, hl with | [_, _, _, _, _], _ => rfl
  have D40 : Df K mg "_law_table_by" sLTableBy ["n", "parts", "term"] := df_mk X G a40 l40 c40 k40 fun _ _ _ _ _ _ us hl => match us, hl with | [_, _, _], _ => rfl
  have D41 : Df K mg "_law_many" sLMany ["sizes", "term"] := df_mk X G a41 l41 c41 k41 fun _ _ _ _ _ _ us hl => match us, hl with | [_, _], _ => rfl
  have D42 : Df K mg "_law_is_great" sLIsGreat ["box"] := df_mk X G a42 l42 c42 k42 fun _ _ _ _ _ _ us hl => match us, hl with | [_], _ => rfl
  have D43 : Df K mg "_law_is_chained" sLIsChained ["box"] := df_mk X G a43 l43 c43 k43 fun _ _ _ _ _ _ us hl => match us, hl with | [_], _ => rfl
  have B : Bi mg := ⟨PySem.W.mg_none_of X G z1, PySem.W.mg_none_of X G z2, PySem.W.mg_none_of X G z3, PySem.W.mg_none_of X G z4, PySem.W.mg_none_of X G z5, PySem.W.mg_none_of X G z6, PySem.W.mg_none_of X G z7, PySem.W.mg_none_of X G z8, PySem.W.mg_none_of X G z9, PySem.W.mg_none_of X G z10, PySem.W.mg_none_of X G z11, PySem.W.mg_none_of X G z12, PySem.W.mg_none_of X G z13, PySem.W.mg_none_of X G z14, PySem.W.mg_none_of X G z15, PySem.W.mg_none_of X G z16, PySem.W.mg_none_of X G z17, PySem.W.mg_none_of X G z18, PySem.W.mg_none_of X G z19⟩
  have CL1 : Cls K C1 := ⟨cb1, cc1, cd_1, ce1⟩
  have MP1 : MkP K C1 := ⟨cf1, ch1, cg1⟩
  have GC1 := PySem.W.mg_of X G ca1
  have MF1_1 := fun_mk (st := sLmDeed) ml1_1 mc1_1 mk1_1
  have MB1_1 := MF1_1.binds (ps := ["self", "deed"]) (fun _ _ _ _ _ _ us hl => match us, hl with | [_, _], _ => rfl)
  have MM1_1 : Meth K C1 "of_deed" mf1_1 := ⟨ma1_1, mi1_1, mk1_1⟩
  have MF1_2 := fun_mk (st := sLmRow) ml1_2 mc1_2 mk1_2
  have MB1_2 := MF1_2.binds (ps := ["self", "worths"]) (fun _ _ _ _ _ _ us hl => match us, hl with | [_, _], _ => rfl)
  have MM1_2 : Meth K C1 "of_row" mf1_2 := ⟨ma1_2, mi1_2, mk1_2⟩
  have MF1_3 := fun_mk (st := sLmBack) ml1_3 mc1_3 mk1_3
  have MB1_3 := MF1_3.binds (ps := ["self", "worth"]) (fun _ _ _ _ _ _ us hl => match us, hl with | [_, _], _ => rfl)
  have MM1_3 : Meth K C1 "of_back" mf1_3 := ⟨ma1_3, mi1_3, mk1_3⟩
  have MF1_4 := fun_mk (st := sLmTimes) ml1_4 mc1_4 mk1_4
  have MB1_4 := MF1_4.binds (ps := ["self", "worth", "k"]) (fun _ _ _ _ _ _ us hl => match us, hl with | [_, _, _], _ => rfl)
  have MM1_4 : Meth K C1 "of_times" mf1_4 := ⟨ma1_4, mi1_4, mk1_4⟩
  have CL2 : Cls K C2 := ⟨cb2, cc2, cd_2, ce2⟩
  have MK2 : Mk K C2 mf2_1 := ⟨cf2, ma2_1, mi2_1, cg2⟩
  have GC2 := PySem.W.mg_of X G ca2
  have MF2_1 := fun_mk (st := sTmInit) ml2_1 mc2_1 mk2_1
  have MB2_1 := MF2_1.binds (ps := ["self", "n"]) (fun _ _ _ _ _ _ us hl => match us, hl with | [_, _], _ => rfl)
  have MM2_1 : Meth K C2 "__init__" mf2_1 := ⟨ma2_1, mi2_1, mk2_1⟩
  have MF2_2 := fun_mk (st := sTmDeed) ml2_2 mc2_2 mk2_2
  have MB2_2 := MF2_2.binds (ps := ["self", "deed"]) (fun _ _ _ _ _ _ us hl => match us, hl with | [_, _], _ => rfl)
  have MM2_2 : Meth K C2 "of_deed" mf2_2 := ⟨ma2_2, mi2_2, mk2_2⟩
  have MF2_3 := fun_mk (st := sTmRow) ml2_3 mc2_3 mk2_3
  have MB2_3 := MF2_3.binds (ps := ["self", "worths"]) (fun _ _ _ _ _ _ us hl => match us, hl with | [_, _], _ => rfl)
  have MM2_3 : Meth K C2 "of_row" mf2_3 := ⟨ma2_3, mi2_3, mk2_3⟩
  have MF2_4 := fun_mk (st := sTmBack) ml2_4 mc2_4 mk2_4
  have MB2_4 := MF2_4.binds (ps := ["self", "worth"]) (fun _ _ _ _ _ _ us hl => match us, hl with | [_, _], _ => rfl)
  have MM2_4 : Meth K C2 "of_back" mf2_4 := ⟨ma2_4, mi2_4, mk2_4⟩
  have MF2_5 := fun_mk (st := sTmTimes) ml2_5 mc2_5 mk2_5
  have MB2_5 := MF2_5.binds (ps := ["self", "worth", "k"]) (fun _ _ _ _ _ _ us hl => match us, hl with | [_, _, _], _ => rfl)
  have MM2_5 : Meth K C2 "of_times" mf2_5 := ⟨ma2_5, mi2_5, mk2_5⟩
  have TT : PySem.TooX.TooTxt K mg T fI :=
    { gC := PySem.W.mg_of X G e3, cls := ⟨nm, q, N, bs, bm, sn, sub, ab, col, dd, m0, m1, m2, m3, m5, tL, tb⟩, sa := t1, ga := t2, gg := t3, noN := t4, iC := t5, tC := t6, kC := u1, exC := u2, tyC := u3, hdC := u4, te := PySem.W.exm_ref u2 u4 u3 u5,
      fn := ⟨_, _, _, _, _, _, _, _, _, _, _, _, _, _, t7, t8⟩ }
  have gR := PySem.W.mg_of X G e2
  refine ⟨PySem.W.fnOf "law" "law" (defArgs sLaw) (defBody sLaw) (defScope sLaw) .none kV44 dc44 pm44 an44 cd44 ct44, fun s v => .of_eq rfl, fun base _ _ => ?_⟩
  have hM : ∃ t, mg "MAX_TABLE" = some (.int 6 t) := ⟨_, PySem.W.mg_of X G m⟩
  have hL : ∃ t, mg "MAX_LENGTH" = some (.int (lim : Int) t) := ⟨_, PySem.W.mg_of X G ml⟩
  have hT : ∃ t, mg "MAX_TERMS" = some (.int 400 t) := ⟨_, PySem.W.mg_of X G mt⟩
  have olo : Ok l.prog w K mg base 1 "lots_of" ["n", "size"] spLots := D1.ok fun _ _ F => f_lotsOf F B
  have oal := o_all6 D2 B hM olo
  have ogo := o_goal (P := l.prog) (w := w) (base := base) D9 B
  have oeb := o_entBy (P := l.prog) (w := w) (base := base) D12 B
  have owt := o_ways D11 B oal oeb
  have ost : Ok l.prog w K mg base 4 "still" ["n"] spStill := D10.ok fun _ _ F => f_still F B owt
  have odt : Ok l.prog w K mg base 3 "deed_table" ["n", "deed"] spDeedT := D13.ok fun _ _ F => f_deedTable F B oal oeb
  have onu := o_numbers D15 B oal
  have oai := o_aims D17 B ogo onu
  have obo : Ok l.prog w K mg base 5 "both" ["n", "one", "other"] spBoth := D14.ok fun _ _ F => f_both F B oai
  have otb := o_turnedBack (P := l.prog) (w := w) (base := base) D18 B
  have oun : Ok l.prog w K mg base 5 "undone" ["n", "table"] spUndone := D16.ok fun _ _ F => f_undone F B oai otb
  have osp := o_steps D22 B oai
  have oci := o_circles D21 B osp
  have oeo := o_entOf (P := l.prog) (w := w) (base := base) D20 B
  have opo : Ok l.prog w K mg base 7 "power" ["n", "table", "k"] spPower := D19.ok fun _ _ F => f_power F B oci oeo
  have TL : MeaT l.prog w K mg base lenR C1 1 _ _ _ _ _ _ _ _ _ _ _ _ := ⟨CL1, MM1_1, MM1_2, MM1_3, MM1_4, f_lmDeed MF1_1, f_lmRow MF1_2 B hL, f_lmBack MF1_3, f_lmTimes MF1_4 B hL, MB1_1, MB1_2, MB1_3, MB1_4⟩
  have TM : ∀ m (hm : m ≤ 6), MeaT l.prog w K mg base (tabR m hm) C2 8 _ _ _ _ _ _ _ _ _ _ _ _ := fun m hm => ⟨CL2, MM2_2, MM2_3, MM2_4, MM2_5, f_tmDeed MF2_2 CL2 ct_2_1 odt, f_tmRow MF2_3 CL2 ct_2_1 ost obo, f_tmBack MF2_4 CL2 ct_2_1 oun, f_tmTimes MF2_5 CL2 ct_2_1 opo, MB2_2, MB2_3, MB2_4, MB2_5⟩
  have pwL := o_progWorth D3 B (o_termWorth D4 B TL 5)
  have pwT : ∀ m (hm : m ≤ 6), Ok l.prog w K mg base (8 + 5 + 1) "program_worth" ["program", "measure"] (spPW (tabR m hm) C2 5) := fun m hm => o_progWorth D3 B (o_termWorth D4 B (TM m hm) 5)
  have oto : OkN l.prog w K mg base 15 "table_of" ["n", "program"] ["program", "n"] (spTableOf 5) := D23.okN fun _ _ F => f_tableOf F MK2 GC2 (f_tmInit MF2_1 CL2 ct_2_1) MB2_1 pwT
  have oln : Ok l.prog w K mg base 8 "length" ["program"] (calmSp (spLength T 5)) := D5.ok fun _ _ F => fn_calm (f_length F MP1 GC1 TT hL pwL)
  have owp := o_wpa (P := l.prog) (w := w) (base := base) D7 B 5
  have obw : Ok l.prog w K mg base 2 "backward" ["program"] (calmSp (spBackward T)) := D8.ok fun _ _ F => fn_calm (f_backward F B TT hT)
  have ojo : Ok l.prog w K mg base 7 "joined" ["one", "other"] (calmSp (spJoined T 5)) := D6.ok fun _ _ F => fn_calm (f_joined F B TT hT owp)
  have obx := o_deck (P := l.prog) (w := w) (base := base) D24 B
  have odr := o_draw (P := l.prog) (w := w) (base := base) D25 B
  have opk := o_pick D26 B odr
  have omx := o_mixed D27 B odr
  have oev := o_every (P := l.prog) (w := w) (base := base) D28 B
  have ode := o_deed D29 B odr omx
  have oen := o_lEntry (P := l.prog) (w := w) (base := base) D30 B
  have oma := o_made D31 B oev oen
  have opl := o_lPlaces D32 B oev
  have oke := o_lKeys (P := l.prog) (w := w) (base := base) D33 B
  have oaf := o_lAfter D34 B oke opl
  have otu := o_lTurned D35 B oke opl
  have orn := o_lRounds D36 B oev opl oke
  have oof := o_lOften D37 B oev orn
  have ofa := o_lFar D38 B odr
  have otm := o_lTermT D39 B odr ode opk 4
  have oty := o_lTabBy D40 B oma oaf otu oof 5
  have omy := o_lMany (P := l.prog) (w := w) (base := base) D41 B 5
  have ogr := o_lGreat D42 B odr ode opk ofa oma oof oto
  have och := o_lChainT D43 B odr ode opk oma oof oto oln
  exact ok_law (fun_mk (st := sLaw) l44 c44 k44) B obx odr ogr och opk ofa otm oty omy oto oln otu oaf obw ojo
end Kr
open PySem PySem.W PyProof.Rows
set_option maxHeartbeats 0 in
theorem PySem.Challenge.cw_keyriders_k17_whole_tables_of_far_progra_holds : PySem.Challenge.rw_keyriders_k17_whole_tables_of_far_progra.Holds := by
  w_on; o_law; k_head; (case hw => w_witness2)
  k_fill
  refine Kr.walkG (l := PySem.Challenge.rw_keyriders_k17_whole_tables_of_far_progra) (n := 63) (k := 43) (x := "script") (sp := Kr.spLaw) rfl (by decide) rfl ⟨rfl, by decide, by decide⟩ (fun w h Y => PySem.W.kIn_of Y) ?F (fun _ _ a ns hl _ hS => ⟨a, ns, rfl, hS, hl, fun _ => rfl⟩)
  case F =>
    intro w mg fa h KX G hmg
    refine' Kr.all_mk KX G hmg ?ca1 ?cb1 ?cc1 ?cd_1 ?ce1 ?cf1 ?cg1 ?ch1 ?ma1_1 ?mi1_1 ?ml1_1 ?mc1_1 ?mk1_1 ?ma1_2 ?mi1_2 ?ml1_2 ?mc1_2 ?mk1_2 ?ma1_3 ?mi1_3 ?ml1_3 ?mc1_3 ?mk1_3 ?ma1_4 ?mi1_4 ?ml1_4 ?mc1_4 ?mk1_4 ?ca2 ?cb2 ?cc2 ?cd_2 ?ce2 ?cf2 ?cg2 ?ct_2_1 ?ma2_1 ?mi2_1 ?ml2_1 ?mc2_1 ?mk2_1 ?ma2_2 ?mi2_2 ?ml2_2 ?mc2_2 ?mk2_2 ?ma2_3 ?mi2_3 ?ml2_3 ?mc2_3 ?mk2_3 ?ma2_4 ?mi2_4 ?ml2_4 ?mc2_4 ?mk2_4 ?ma2_5 ?mi2_5 ?ml2_5 ?mc2_5 ?mk2_5 ?a1 ?l1 ?c1 ?k1 ?a2 ?l2 ?c2 ?k2 ?a3 ?l3 ?c3 ?k3 ?a4 ?l4 ?c4 ?k4 ?a5 ?l5 ?c5 ?k5 ?a6 ?l6 ?c6 ?k6 ?a7 ?l7 ?c7 ?k7 ?a8 ?l8 ?c8 ?k8 ?a9 ?l9 ?c9 ?k9 ?a10 ?l10 ?c10 ?k10 ?a11 ?l11 ?c11 ?k11 ?a12 ?l12 ?c12 ?k12 ?a13 ?l13 ?c13 ?k13 ?a14 ?l14 ?c14 ?k14 ?a15 ?l15 ?c15 ?k15 ?a16 ?l16 ?c16 ?k16 ?a17 ?l17 ?c17 ?k17 ?a18 ?l18 ?c18 ?k18 ?a19 ?l19 ?c19 ?k19 ?a20 ?l20 ?c20 ?k20 ?a21 ?l21 ?c21 ?k21 ?a22 ?l22 ?c22 ?k22 ?a23 ?l23 ?c23 ?k23 ?a24 ?l24 ?c24 ?k24 ?a25 ?l25 ?c25 ?k25 ?a26 ?l26 ?c26 ?k26 ?a27 ?l27 ?c27 ?k27 ?a28 ?l28 ?c28 ?k28 ?a29 ?l29 ?c29 ?k29 ?a30 ?l30 ?c30 ?k30 ?a31 ?l31 ?c31 ?k31 ?a32 ?l32 ?c32 ?k32 ?a33 ?l33 ?c33 ?k33 ?a34 ?l34 ?c34 ?k34 ?a35 ?l35 ?c35 ?k35 ?a36 ?l36 ?c36 ?k36 ?a37 ?l37 ?c37 ?k37 ?a38 ?l38 ?c38 ?k38 ?a39 ?l39 ?c39 ?k39 ?a40 ?l40 ?c40 ?k40 ?a41 ?l41 ?c41 ?k41 ?a42 ?l42 ?c42 ?k42 ?a43 ?l43 ?c43 ?k43 ?a44 ?l44 ?c44 ?k44 ?z1 ?z2 ?z3 ?z4 ?z5 ?z6 ?z7 ?z8 ?z9 ?z10 ?z11 ?z12 ?z13 ?z14 ?z15 ?z16 ?z17 ?z18 ?z19 ?m ?ml ?mt ?e2 ?e3 ?y5 ?y6 ?tL ?tb ?t1 ?t2 ?t3 ?t4 ?t5 ?t6 ?t7 ?t8 ?u1 ?u2 ?u3 ?u4 ?u5 ?u6 ?u7 ?u8
    (case ca1 => k_is); (case cb1 => k_is); (case cc1 => k_is); (case cd_1 => k_is); (case ce1 => k_is); (case cf1 => k_is); (case cg1 => k_is); (case ch1 => k_is); (case ma1_1 => k_is); (case mi1_1 => k_is); (case ml1_1 => k_is); (case mc1_1 => k_is); (case mk1_1 => k_is); (case ma1_2 => k_is); (case mi1_2 => k_is); (case ml1_2 => k_is); (case mc1_2 => k_is); (case mk1_2 => k_is); (case ma1_3 => k_is); (case mi1_3 => k_is); (case ml1_3 => k_is); (case mc1_3 => k_is); (case mk1_3 => k_is); (case ma1_4 => k_is); (case mi1_4 => k_is); (case ml1_4 => k_is); (case mc1_4 => k_is); (case mk1_4 => k_is); (case ca2 => k_is); (case cb2 => k_is); (case cc2 => k_is); (case cd_2 => k_is); (case ce2 => k_is); (case cf2 => k_is); (case cg2 => k_is); (case ct_2_1 => k_is); (case ma2_1 => k_is); (case mi2_1 => k_is); (case ml2_1 => k_is); (case mc2_1 => k_is); (case mk2_1 => k_is); (case ma2_2 => k_is); (case mi2_2 => k_is); (case ml2_2 => k_is); (case mc2_2 => k_is); (case mk2_2 => k_is); (case ma2_3 => k_is); (case mi2_3 => k_is); (case ml2_3 => k_is); (case mc2_3 => k_is); (case mk2_3 => k_is); (case ma2_4 => k_is); (case mi2_4 => k_is); (case ml2_4 => k_is); (case mc2_4 => k_is); (case mk2_4 => k_is); (case ma2_5 => k_is); (case mi2_5 => k_is); (case ml2_5 => k_is); (case mc2_5 => k_is); (case mk2_5 => k_is); (case a1 => k_is); (case l1 => k_is); (case c1 => k_is); (case k1 => k_is); (case a2 => k_is); (case l2 => k_is); (case c2 => k_is); (case k2 => k_is); (case a3 => k_is); (case l3 => k_is); (case c3 => k_is); (case k3 => k_is); (case a4 => k_is); (case l4 => k_is); (case c4 => k_is); (case k4 => k_is); (case a5 => k_is); (case l5 => k_is); (case c5 => k_is); (case k5 => k_is); (case a6 => k_is); (case l6 => k_is); (case c6 => k_is); (case k6 => k_is); (case a7 => k_is); (case l7 => k_is); (case c7 => k_is); (case k7 => k_is); (case a8 => k_is); (case l8 => k_is); (case c8 => k_is); (case k8 => k_is); (case a9 => k_is); (case l9 => k_is); (case c9 => k_is); (case k9 => k_is); (case a10 => k_is); (case l10 => k_is); (case c10 => k_is); (case k10 => k_is); (case a11 => k_is); (case l11 => k_is); (case c11 => k_is); (case k11 => k_is); (case a12 => k_is); (case l12 => k_is); (case c12 => k_is); (case k12 => k_is); (case a13 => k_is); (case l13 => k_is); (case c13 => k_is); (case k13 => k_is); (case a14 => k_is); (case l14 => k_is); (case c14 => k_is); (case k14 => k_is); (case a15 => k_is); (case l15 => k_is); (case c15 => k_is); (case k15 => k_is); (case a16 => k_is); (case l16 => k_is); (case c16 => k_is); (case k16 => k_is); (case a17 => k_is); (case l17 => k_is); (case c17 => k_is); (case k17 => k_is); (case a18 => k_is); (case l18 => k_is); (case c18 => k_is); (case k18 => k_is); (case a19 => k_is); (case l19 => k_is); (case c19 => k_is); (case k19 => k_is); (case a20 => k_is); (case l20 => k_is); (case c20 => k_is); (case k20 => k_is); (case a21 => k_is); (case l21 => k_is); (case c21 => k_is); (case k21 => k_is); (case a22 => k_is); (case l22 => k_is); (case c22 => k_is); (case k22 => k_is); (case a23 => k_is); (case l23 => k_is); (case c23 => k_is); (case k23 => k_is); (case a24 => k_is); (case l24 => k_is); (case c24 => k_is); (case k24 => k_is); (case a25 => k_is); (case l25 => k_is); (case c25 => k_is); (case k25 => k_is); (case a26 => k_is); (case l26 => k_is); (case c26 => k_is); (case k26 => k_is); (case a27 => k_is); (case l27 => k_is); (case c27 => k_is); (case k27 => k_is); (case a28 => k_is); (case l28 => k_is); (case c28 => k_is); (case k28 => k_is); (case a29 => k_is); (case l29 => k_is); (case c29 => k_is); (case k29 => k_is); (case a30 => k_is); (case l30 => k_is); (case c30 => k_is); (case k30 => k_is); (case a31 => k_is); (case l31 => k_is); (case c31 => k_is); (case k31 => k_is); (case a32 => k_is); (case l32 => k_is); (case c32 => k_is); (case k32 => k_is); (case a33 => k_is); (case l33 => k_is); (case c33 => k_is); (case k33 => k_is); (case a34 => k_is); (case l34 => k_is); (case c34 => k_is); (case k34 => k_is); (case a35 => k_is); (case l35 => k_is); (case c35 => k_is); (case k35 => k_is); (case a36 => k_is); (case l36 => k_is); (case c36 => k_is); (case k36 => k_is); (case a37 => k_is); (case l37 => k_is); (case c37 => k_is); (case k37 => k_is); (case a38 => k_is); (case l38 => k_is); (case c38 => k_is); (case k38 => k_is); (case a39 => k_is); (case l39 => k_is); (case c39 => k_is); (case k39 => k_is); (case a40 => k_is); (case l40 => k_is); (case c40 => k_is); (case k40 => k_is); (case a41 => k_is); (case l41 => k_is); (case c41 => k_is); (case k41 => k_is); (case a42 => k_is); (case l42 => k_is); (case c42 => k_is); (case k42 => k_is); (case a43 => k_is); (case l43 => k_is); (case c43 => k_is); (case k43 => k_is); (case a44 => k_is); (case l44 => k_is); (case c44 => k_is); (case k44 => k_is); (case z1 => k_is); (case z2 => k_is); (case z3 => k_is); (case z4 => k_is); (case z5 => k_is); (case z6 => k_is); (case z7 => k_is); (case z8 => k_is); (case z9 => k_is); (case z10 => k_is); (case z11 => k_is); (case z12 => k_is); (case z13 => k_is); (case z14 => k_is); (case z15 => k_is); (case z16 => k_is); (case z17 => k_is); (case z18 => k_is); (case z19 => k_is); (case m => k_is); (case ml => k_is); (case mt => k_is); (case e2 => k_is); (case e3 => k_is); (case y5 => k_is); (case y6 => k_is); (case tL => k_is); (case tb => rfl); (case t1 => k_is); (case t2 => k_is); (case t3 => k_is); (case t4 => k_is); (case t5 => k_is); (case t6 => k_is); (case t7 => k_is); (case t8 => k_is); (case u1 => k_is); (case u2 => k_is); (case u3 => k_is); (case u4 => k_is); (case u5 => k_is); (case u6 => kit_is); (case u7 => k_is); (case u8 => k_is)
