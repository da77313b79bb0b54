import PyProof.Rows.All
import Wide.All
import OpenK.AllK
import Wide.FinOn
import HandS.ForMost
import HandS.SortInts
import KE.GoesEnum
import HandS.Walk
import KE.KRevSl
import PyProof.ReprReads
import PyProof.ReprRoads
import HandS.IsInst
import HandS.Defaults
import HandS.TupAny
import HandS.TupMul
import PySem.Challenge.RW_keyriders_k05_whole_deeds_done_and_twice
import PyProof.ReprLen
import HandS.Conv
import HandS.Zip
set_option Elab.async false
set_option linter.all false
set_option maxRecDepth 100000
set_option maxHeartbeats 4000000
namespace Kr
open PySem PySem.Spec PyProof.Rows L2
section
variable {prog : Program} {w : World} {A : Around} {E : Value → Shared → Prop} {s : Shared}
/-- the heap behind a collecting -/
def gathered (h : Heap) (vs : List Value) : Heap := (h.push (seqObj "list" #[] 0)).update h.objs.size (Obj.mapSeq (· ++ vs.toArray))
theorem collect_tup {t : Addr} {vs : List Value} {Q : List Value → Shared → Prop} (hl : IsTup s.heap t vs.toArray) (h : Q vs { s with heap := gathered s.heap vs }) (hsz : vs.length ≤ sizeLine) : wpAny (model prog w) A (collect (.ref t)) Q E s := by
  obtain ⟨ot, gt, ct, nt, dt⟩ := id hl
  unfold collect
  refine wpAny_bind (wpAny_runValue (codeAny_builtin entry_proto_collect' ?_))
  show wpAny (model prog w) _ (do again (.builtin "list.__iadd__" ⟨[← newList [], .ref t], []⟩)) _ _ s
  refine wpAny_bind (wpAny_newList (wpAny_pure ⟨Code.quiet_builtin _ (by decide +kernel), codeAny_builtin entry_list_iadd' (?_ : wpAny (model prog w) _ (Builtin.List.listExtendWith (.ref s.heap.objs.size) (.ref t) (.ref s.heap.objs.size)) _ _ { s with heap := s.heap.push (seqObj "list" #[] 0) })⟩))
  unfold Builtin.List.listExtendWith
  have gt' : (s.heap.push (seqObj "list" #[] 0)).get? t = some ot := Heap.get?_push_of_some _ gt
  refine wpAny_bind (wpAny_typeOf (T := "tuple") ⟨ot, gt', ct⟩ ?_)
  have tt : (Value.type "tuple" == Value.type "tuple") = true := by rfl
  rw [if_pos (by rw [tt]; simp)]
  refine wpAny_bind (listItems_at gt' dt (wpAny_bind (listItems_at (xs := #[]) (n := 0) (Heap.get?_push_size _ rfl) rfl ?_)))
  rw [if_neg (by simp)]
  refine wpAny_bind (listUpdate_at (xs := #[]) (n := 0) (Heap.get?_push_size _ rfl) rfl (wpAny_pure ?_) (Nat.zero_le _) (by show (#[] ++ vs.toArray).size ≤ sizeLine + 1; simp only [Array.size_append, List.size_toArray, List.length_nil]; omega))
  show wpAny (model prog w) A (do let ob ← load s.heap.objs.size; match ob.data with | .seq xs _ => pure xs.toList | _ => unsupported "internal:collect") Q E { s with heap := gathered s.heap vs }
  refine wpAny_bind (wpAny_load (get?_update_seq (Heap.get?_push_size _ rfl) _) ?_)
  show wpAny (model prog w) A (pure ((#[] : Array Value) ++ vs.toArray).toList) Q E _
  have e0 : ((#[] : Array Value) ++ vs.toArray).toList = vs := by simp
  rw [e0]
  exact wpAny_pure h
theorem sorted_tup {t : Addr} {vs : List Value} {ltv : Value → Value → Bool} {Q : Value → Shared → Prop} (O : SrtO.Swo ltv) (hl : IsTup s.heap t vs.toArray) (hz : vs.length ≤ sizeLine)
    (hS : 2 ≤ vs.length → ∀ (h₁ : Heap) (a : Addr), h₁.get? a = some (seqObj "list" vs.toArray 0) → (∀ b o, s.heap.get? b = some o → b ≠ a ∧ h₁.get? b = some o) → SrtO.SortableO prog w A.in1.in1 { s with heap := h₁ } a vs ltv)
    (h : ∀ out : List Value, SrtO.Srtd ltv out → SrtO.Stb ltv out vs → Q (.ref (s.heap.objs.size + 1)) { s with heap := sortedAll s.heap vs out.toArray }) : wpAny (model prog w) A (call (.builtin "sorted") [.ref t]) Q E s := by
  refine Calls.call_function_entry kind_sorted plain_sorted entry_sorted (args_sorted1 _) ?_
  unfold Builtin.«sorted»
  refine wpAny_bind (m := checkCount "sorted" 1 1 _) (wpAny_pure (wpAny_bind (collect_tup hl (wpAny_bind (wpAny_newList ?_ hz)) hz)))
  have z1 : (gathered s.heap vs).objs.size = s.heap.objs.size + 1 := (Heap.size_update _ _ _).trans (size_push' _ _)
  have lst : ((gathered s.heap vs).push (seqObj "list" vs.toArray 0)).get? (s.heap.objs.size + 1) = some (seqObj "list" vs.toArray 0) := by
    rw [← z1]; exact Heap.get?_push_size _ rfl
  have stays : ∀ b o, s.heap.get? b = some o → b ≠ s.heap.objs.size + 1 ∧ ((gathered s.heap vs).push (seqObj "list" vs.toArray 0)).get? b = some o := fun b o q => by
    have lt := Heap.lt_size q
    refine ⟨Nat.ne_of_lt (Nat.lt_succ_of_lt lt), Heap.get?_push_of_some _ ?_⟩
    unfold gathered
    rw [Heap.get?_update_ne _ _ _ _ (Nat.ne_of_lt lt)]
    exact Heap.get?_push_of_some _ q
  show wpAny (model prog w) _ _ _ _ { s with heap := (gathered s.heap vs).push (seqObj "list" vs.toArray 0) }
  rw [z1]
  exact wpAny_bind (wpAny_holding (wpAny_call_entry slot_list_sort ⟨_, lst, rfl⟩ entry_list_sort (SrtO.list_sort_ord O lst hz (fun h2 => hS h2 _ _ lst stays) fun out hs hb => ⟨_, rfl, wpAny_pure ⟨_, rfl, h out hs hb⟩⟩) (args_list_sort _)))
end
section
variable {X : Cx}
/-- sorted(t), t a tuple of whole numbers -/
def rSortT (K : PySem.W.Frag) : List V → Hp → VK → Prop := fun vs H Q => ∃ (a : Addr) (ns : List Int), vs = [V.ref a] ∧ SqT K H a (ns.map V.int) ∧ ∀ (ns' : List Int) (p : Addr), ns'.Perm ns → ns'.Pairwise (· ≤ ·) → H p = none → Q (.ref p) (upd H p (.lst (ns'.map V.int)))
theorem cr_sortT5 : CallR X (.builtin "sorted") (rSortT X.K) := by
  intro pins s σ H vs us Q I r h
  obtain ⟨a, ns, rfl, hs, q⟩ := h
  obtain ⟨its, rv, ht, hz⟩ := I.tuple hs
  rw [Vals.ref1 r]
  have hi := rv.ints
  refine sorted_tup SrtO.swo_int ht (by rw [← rv.length]; exact hz) (fun h2 _ _ _ _ => SrtO.ints_sortable hi h2) fun out h1 h2 => ?_
  obtain ⟨k1, k2, k3⟩ := SrtO.ints_out hi h1 h2
  obtain ⟨ep, he⟩ := PyProof.Rows.sortedAll_at s.heap its out.toArray
  have hl : ((out.map SrtO.iv).map V.int).length ≤ sizeLine := by
    rw [List.length_map] at hz
    rw [List.length_map, k2.length_eq]
    exact hz
  exact ⟨.ref _, upd H (s.heap.objs.size + 1) (.lst ((out.map SrtO.iv).map V.int)), I.laid (t' := s.toks) (fun _ _ => PyProof.Rows.sortedAll_old) (Nat.le_succ _) ⟨hl, out, ep, vals_of_ints k1, he⟩, rfl, q _ _ k2 k3 (I.hok.fresh (Nat.le_succ _))⟩
end
end Kr

namespace Kr
open PySem PySem.Spec PyProof.Rows L2
open AutoSeq1 (wpAny_loadPart')

theorem enum_new_tup (l : Addr) (items : Array Value) :
    Meets (Builtin.«enumerate.__new__» ⟨[.type "enumerate", .ref l], []⟩) (fun _ R s => s.heap.IsTuple l items ∧
      R (.ok (.ret (.ref (s.heap.push { cls := .type "tuple_iterator", data := .fields #[.ref l, .int 0 0] }).objs.size)))
        { s with heap := (s.heap.push { cls := .type "tuple_iterator", data := .fields #[.ref l, .int 0 0] }).push { cls := .type "enumerate", data := .fields #[.none, .bool false, .ref s.heap.objs.size, rawInt 0, .none, .none] } }) :=
  .of_wp fun prog w A R s h => by
    obtain ⟨hp, g, d, tk, os⟩ := s
    obtain ⟨hL, h⟩ := h
    have hsub := sub_enumerate
    wp_walk using wpAny_pyIter_tuple hL
    refine wpAny_stack_any fun st => wpAny_pure ?_
    split
    · rename_i c _ _ _ _ _
      cases (c == Value.type "enumerate")
      all_goals
        wp_walk using wpAny_pyIter_tuple hL
        exact ⟨_, rfl, h⟩
    · wp_walk using wpAny_pyIter_tuple hL
      exact ⟨_, rfl, h⟩

section
variable {prog : Program} {w : World} {A : Around} {E : Value → Shared → Prop} {s : Shared}
theorem enum_call_tup {l : Addr} {items : Array Value} {Q : Value → Shared → Prop} (hL : s.heap.IsTuple l items)
    (h : ∀ h', IsEnum h' (s.heap.objs.size + 1) s.heap.objs.size 0 .none → h'.IsTupleIter s.heap.objs.size l 0 → h'.objs.size = s.heap.objs.size + 2 →
      (∀ b o, s.heap.get? b = some o → h'.get? b = some o) → Q (.ref (s.heap.objs.size + 1)) { s with heap := h' }) :
    wpAny (model prog w) A (call (.type "enumerate") [.ref l]) Q E s := by
  refine callType_new F.called_enumerate (by decide) (F.typeCall_enumerate_1 _) (F.newCall_enumerate_1 _) (fun obj => F.args_object_init_2 obj _) F.entry_enumerate_new
    (enum_new_tup l items) ⟨hL, ?_⟩
  generalize hh1 : s.heap.push { cls := .type "tuple_iterator", data := .fields #[.ref l, .int 0 0] } = h1
  have hz : h1.objs.size = s.heap.objs.size + 1 := by rw [← hh1]; exact Heap.size_push ..
  have g1 : h1.get? s.heap.objs.size = some { cls := .type "tuple_iterator", data := .fields #[.ref l, .int 0 0] } := by rw [← hh1]; exact Heap.get?_push_size _ rfl
  have k1 : ∀ b o, s.heap.get? b = some o → h1.get? b = some o := fun b o e => by rw [← hh1]; exact Heap.get?_push_of_some _ e
  have he : IsEnum (h1.push { cls := .type "enumerate", data := .fields #[.none, .bool false, .ref s.heap.objs.size, rawInt 0, .none, .none] }) (s.heap.objs.size + 1) s.heap.objs.size 0 .none := by
    have q := Heap.get?_push_size h1 (o := { cls := .type "enumerate", data := .fields #[.none, .bool false, .ref s.heap.objs.size, rawInt 0, .none, .none] }) rfl
    rw [hz] at q
    exact q
  show _ ∧ _
  rw [hz]
  exact ⟨⟨_, he, rfl⟩, h _ he ⟨_, Heap.get?_push_of_some _ g1, rfl, rfl⟩ (by rw [Heap.size_push, hz]) fun b o x => Heap.get?_push_of_some _ (k1 b o x)⟩
end

/-- the tuple at a, each item in a new pair -/
def Itet (K : PySem.W.Frag) (a : Addr) : It :=
  ⟨fun i H => ∃ (xs : List V) (x : V), SqT K H a xs ∧ xs[i]? = some x,
    fun i H v H' => ∃ T x, v = .ref T ∧ H T = none ∧ H' = upd H T (.tup [.int (i : Nat), x]) ∧ ∀ xs, SqT K H a xs → xs[i]? = some x,
    fun i H => ∃ xs : List V, SqT K H a xs ∧ xs.length = i⟩
theorem tup_ne {h : Heap} {a it : Addr} {items : Array Value} {o : Obj} (p : IsTup h a items) (ho : h.get? it = some o) (hc : o.cls ≠ .type "tuple") : a ≠ it := fun z => by
  obtain ⟨u, hu, hcu, _⟩ := p
  rw [z, ho] at hu
  cases hu
  exact hc hcu
theorem turn_enumT {P : Program} {w : World} {K : PySem.W.Frag} {elts : List Expr} {kk : Nat} {tpos : Pos} (a e it : Addr) :
    Turn P w K (.Tuple elts kk tpos) (Itet K a) [e, it] e (fun i h => (∃ old, IsEnum h e it ((i : Nat) : Int) old) ∧ h.IsTupleIter it a i ∧ e ≠ it) where
  mem := by simp
  obj := fun i h st b hb => by
    obtain ⟨⟨old, he⟩, ⟨o, ho, hc, hd⟩, _⟩ := st
    rcases (show b = e ∨ b = it by simpa using hb) with z | z
    · rw [z]; exact ⟨_, he, fun v q => nomatch q⟩
    · rw [z]; exact ⟨o, ho, fun v q => by rw [hd] at q; cases q⟩
  keep := fun i h h' st k => let ⟨⟨old, he⟩, hi, hne⟩ := st; ⟨⟨old, k e (by simp) _ he⟩, hi.at fun o q => k it (by simp) o q, hne⟩
  item := by
    intro X hP hw hK hc i pins s σ H E I hf st hg
    subst hP hw hK
    obtain ⟨⟨old, he⟩, hit, hne⟩ := st
    obtain ⟨xs, x, hq, hx⟩ := hg
    obtain ⟨its, rv, p, hz⟩ := I.tuple hq
    obtain ⟨u, hu, ru⟩ := rv.get hx
    have hel : e < s.heap.objs.size := Heap.lt_size he
    have hil : it < s.heap.objs.size := by obtain ⟨_, q, _⟩ := hit; exact Heap.lt_size q
    have nai : a ≠ it := by
      obtain ⟨o, ho, hcl, _⟩ := id hit
      exact tup_ne p ho (by rw [hcl]; decide)
    have hlt : i < its.toArray.size := by
      rw [List.size_toArray]
      exact (List.getElem?_eq_some_iff.mp hu).1
    have nea : e ≠ a := fun z => tup_ne p he (by show Value.type "enumerate" ≠ Value.type "tuple"; decide) z.symm
    refine PySem.wpAny_pyNext_enum_itemC (Draws.tuple (A := X.A.in1) (I.ok.hd hc) it a nai its.toArray) he ⟨hit, p⟩ hlt hne (by simp [hne, nea]) fun y h' tk hy ho hst hT hsz hk => ?_
    have ey : y = u := by
      have : its.toArray[i]? = some y := hy
      rw [List.getElem?_toArray, hu] at this
      exact (Option.some.inj this).symm
    subst ey
    refine ⟨_, rfl, wpAny_letOwnedTupleGo_enum (s := { s with heap := h', toks := tk + 1 }) ho fun h'' he' sb => ?_⟩
    have hT2 : h''.get? s.heap.objs.size = some { cls := .type "tuple", data := .seq #[.int i tk, y] } := (sb.2 _ (Nat.ne_of_gt hel)).trans hT
    have new : ObjOk X.prog X.w (upd H s.heap.objs.size (.tup [.int (i : Nat), x])) h'' s.heap.objs.size (.tup [.int (i : Nat), x]) :=
      ⟨by show 2 ≤ sizeLine; decide, [.int i tk, y], .cons ⟨_, rfl⟩ (.cons ru .nil), ⟨_, hT2, rfl, _, rfl⟩⟩
    have I1 : Inv X pins σ (upd H s.heap.objs.size (.tup [.int (i : Nat), x])) { s with heap := h'', toks := tk + 1 } :=
      I.turnedNew (ch := [e, it]) (fun b ob hb q => (sb.2 b (fun z => hb (by simp [z]))).trans (hk b ob (fun z => hb (by simp [z])) (fun z => hb (by simp [z])) q)) hf (Nat.le_refl _) new
    refine ⟨.ref s.heap.objs.size, _, I1, rfl, ⟨_, x, rfl, I.hok.fresh (Nat.le_refl _), rfl, fun ys hy => by rw [I.tuple_inj hy hq]; exact hx⟩, ⟨⟨y, ?_⟩, hst.1.at fun o q => (sb.2 it (Ne.symm hne)).trans q, hne⟩, fun b hb => ?_⟩
    · rw [show ((i + 1 : Nat) : Int) = (i : Int) + 1 by omega]
      exact he'
    · have hb' : b < s.heap.objs.size := by
        rcases (show b = e ∨ b = it by simpa using hb) with z | z
        · rw [z]; exact hel
        · rw [z]; exact hil
      rw [upd_ne (Nat.ne_of_lt hb')]
      exact (hf b hb).1
  done := by
    intro X hP hw hK hc i pins s σ H E I hf st hg
    subst hP hw hK
    obtain ⟨⟨old, he⟩, hit, hne⟩ := st
    obtain ⟨xs, hq, hx⟩ := hg
    obtain ⟨its, rv, p, hz⟩ := I.tuple hq
    obtain ⟨f0, f1, f2, f3, f4, f5⟩ := hf it (by simp)
    have nai : a ≠ it := by
      obtain ⟨o, ho, hcl, _⟩ := id hit
      exact tup_ne p ho (by rw [hcl]; decide)
    have ez : its.toArray.size = i := by
      rw [List.size_toArray, ← rv.length, hx]
    refine PySem.wpAny_pyNext_enum_endD (Draws.tuple (A := X.A.in1) (I.ok.hd hc) it a nai its.toArray) he ?_ fun h' eb => ⟨rfl, I.turned (t' := s.toks) (fun b o hb q => eb b o hb q) f0 f1 f3 f4 f5⟩
    rw [ez]
    exact ⟨hit, p⟩
  self := fun A i s Q E st h => let ⟨⟨_, he⟩, _⟩ := st; wpAny_pyIter_enum he h
def iEnumT (K : PySem.W.Frag) (ta : TA) : TI := fun σ H R => ta σ H fun vs H1 => ∃ a xs, vs = [.ref a] ∧ SqT K H1 a xs ∧ R (Itet K a) H1
theorem pi_enumT {X : Cx} {e : Expr} {ta : TA} {p pos tpos : Pos} {elts : List Expr} {kk : Nat} (hg : Gl X "enumerate") (hm : X.mg "enumerate" = none) (ha : PA X [e] ta) (hs : starEach [e] X.env = [(false, eval e X.env)] := by rfl) :
    PI X (.Tuple elts kk tpos) (.Call (.Name "enumerate" p) [e] [] pos) (iEnumT X.K ta) := by
  refine ⟨fun pins s σ H R I h => Call_ (ld_blt I hg hm boot_enumerate (PyProof.Rows.callWith_type1 (thn (ha.run pos pins s σ H _ I h) fun us s1 ⟨vs, H1, I1, r1, q1⟩ => ?_) hs rfl))⟩
  obtain ⟨a, xs, rfl, hq, q⟩ := q1
  obtain rfl := Vals.ref1 r1
  obtain ⟨its, rv, p', hz⟩ := I1.tuple hq
  refine enum_call_tup p' fun h' he hit hsz hk => wpAny_pyIter_enum he ?_
  have I2 : Inv X pins σ H1 { s1 with heap := h' } := I1.kept (t' := s1.toks) hk
  refine ⟨s1.heap.objs.size + 1, [s1.heap.objs.size + 1, s1.heap.objs.size], _, _, H1, rfl, I2, turn_enumT a (s1.heap.objs.size + 1) s1.heap.objs.size, ⟨⟨.none, he⟩, hit, Nat.succ_ne_self _⟩, fun b hb => ?_, q⟩
  have hle : s1.heap.objs.size ≤ b := by
    rcases (show b = s1.heap.objs.size + 1 ∨ b = s1.heap.objs.size by simpa using hb) with z | z <;> rw [z]
    · exact Nat.le_succ _
    · exact Nat.le_refl _
  exact I1.fpOk hle (I1.hok.fresh hle)

theorem walk_enumT {K : PySem.W.Frag} {a : Addr} {xs : List V} : Walk (Itet K a) xs.length (fun H => SqT K H a xs) (YPair (fun i => some (.int (i : Nat))) (fun i => xs[i]?)) := by
  refine ⟨fun i _ hi q => ⟨xs, xs[i], q, List.getElem?_eq_getElem hi⟩, fun _ q => ⟨xs, q, rfl⟩, fun i H v H' _ q y => ?_⟩
  obtain ⟨T, x, e1, e2, e3, e4⟩ := y
  exact ⟨T, _, x, e1, e2, e3, rfl, e4 xs q⟩
end Kr

namespace Kr
open PySem PySem.Spec PyProof.Rows L2 HT
theorem adj_rev (n : Nat) : Builtin.Slice.sliceAdjust none none (-1) (n : Int) = ((n : Int) - 1, -1) := by
  unfold Builtin.Slice.sliceAdjust
  simp
theorem pla_rev (n : Nat) : Builtin.Slice.slicePlaces ((n : Int) - 1) (-1) (-1) = n := by
  unfold Builtin.Slice.slicePlaces
  simp
  omega
theorem pick_rev (xs : Array Value) : ((List.range xs.size).filterMap fun (m : Nat) => xs[(((xs.size : Nat) : Int) - 1 + (m : Int) * (-1)).toNat]?).toArray = xs.toList.reverse.toArray := by
  have e : (fun (m : Nat) => xs[(((xs.size : Nat) : Int) - 1 + (m : Int) * (-1)).toNat]?) = (fun k => xs[k]?) ∘ fun (m : Nat) => xs.size - 1 - m := by
    funext m
    show _ = xs[xs.size - 1 - m]?
    rw [show (((xs.size : Nat) : Int) - 1 + (m : Int) * (-1)).toNat = xs.size - 1 - m by omega]
  rw [e, ← List.filterMap_map, PySem.W.krv_range, List.filterMap_reverse, PySem.W.krv_all]
section
variable {prog : Program} {w : World} {A : Around} {E : Value → Shared → Prop} {s : Shared}
theorem applied_rev {sl : Addr} {vk : Value} {n : Nat} {Q : Int × Int × Nat → Shared → Prop} (hs : s.heap.IsSliceOf sl .none .none vk) (pk : IsPart vk (some (-1)))
    (h : Q ((n : Int) - 1, -1, n) s) : wpAny (model prog w) A (Builtin.Slice.sliceApplied (.ref sl) (pure (n : Int))) Q E s := by
  obtain ⟨os, hos, hcs, hds⟩ := id hs
  unfold Builtin.Slice.sliceApplied Builtin.Slice.sliceFields
  refine wpAny_bind (wpAny_bind (wpAny_field hos hds (x := .none) rfl (wpAny_bind (wpAny_field hos hds (x := .none) rfl (wpAny_bind (wpAny_field hos hds (x := vk) rfl (wpAny_pure ?_)))))))
  refine wpAny_bind (slicePart_ pk ?_)
  show wpAny _ _ (if ((-1 : Int) == 0) = true then _ else _) _ _ s
  rw [if_neg (by decide)]
  refine wpAny_bind (slicePart_none (wpAny_bind (slicePart_none (wpAny_bind (wpAny_pure ?_)))))
  show wpAny _ _ (match Builtin.Slice.sliceAdjust none none (-1) (n : Int) with | (lo, hi) => pure (lo, (-1 : Int), Builtin.Slice.slicePlaces lo hi (-1))) _ _ s
  rw [adj_rev n]
  show wpAny _ _ (pure ((n : Int) - 1, (-1 : Int), Builtin.Slice.slicePlaces ((n : Int) - 1) (-1) (-1))) _ _ s
  rw [pla_rev]
  exact wpAny_pure h
theorem tuple_rev {t sl : Addr} {items : Array Value} {vk : Value} {Q : Value → Shared → Prop} (ht : IsTup s.heap t items) (hs : s.heap.IsSliceOf sl .none .none vk) (pk : IsPart vk (some (-1)))
    (h : Q (.ref s.heap.objs.size) { s with heap := s.heap.push { cls := .type "tuple", data := .seq items.toList.reverse.toArray } })
    (hsz : items.size ≤ sizeLine) : wpAny (model prog w) A (getItem (.ref t) (.ref sl)) Q E s := by
  have hok : sizeOk (.seq items.toList.reverse.toArray) := by
    show items.toList.reverse.toArray.size ≤ sizeLine
    rw [List.size_toArray, List.length_reverse, Array.length_toList]
    exact hsz
  obtain ⟨os, hos, hcs, hds⟩ := id hs
  have hTs : s.TypeIs (.ref sl) "slice" := ⟨os, hos, hcs⟩
  unfold getItem
  try with_reducible refine wpAny_holding ?_
  first | refine wpAny_bind (wpAny_pure ?_) | skip
  refine wpAny_bind (wpAny_sequenceKey ht.typeIs (by decide) ?_)
  refine wpAny_bind (wpAny_callSpecial?_slot (name := Str.ofString "__getitem__") ht.typeIs PyProof.Rows.slot_tuple_getitem
    (wpAny_call_entry PyProof.Rows.slot_tuple_getitem ht.typeIs entry_tuple_getitem ?_ (args_tuple_getitem _ _)))
  show wpAny _ _ (Builtin.Tuple.tupleItemsOf (.ref t) >>= _) _ _ s
  refine wpAny_bind (tupleItemsOf_ ht (wpAny_bind (wpAny_typeOf hTs ?_)))
  rw [if_pos (by decide)]
  refine wpAny_bind (applied_rev hs pk ?_)
  have hno : ¬ (((((items.size : Nat) : Int) - 1) == 0 && (-1 : Int) == 1 && items.size == items.size) = true) := by
    rw [show ((-1 : Int) == 1) = false by decide, Bool.and_false, Bool.false_and]
    exact Bool.false_ne_true
  show wpAny _ _ (if ((((items.size : Nat) : Int) - 1) == 0 && (-1 : Int) == 1 && items.size == items.size) = true then _ else _) _ _ s
  rw [if_neg hno, pick_rev]
  first
    | exact wpAny_bind (wpAny_bind (m := Builtin.Tuple.tupleExact _) (wpAny_newObj_type (wpAny_pure ⟨_, rfl, wpAny_pure h⟩) hok))
    | exact wpAny_bind (m := Builtin.Tuple.tupleExact _) (wpAny_newObj_type (wpAny_pure ⟨_, rfl, wpAny_pure h⟩) hok)
    | exact wpAny_bind (m := Builtin.Tuple.tupleExact _) (wpAny_newObj_type (wpAny_bind (wpAny_pure (wpAny_pure ⟨_, rfl, wpAny_pure h⟩))) hok)
    | exact wpAny_bind (wpAny_bind (m := Builtin.Tuple.tupleExact _) (wpAny_newObj_type (wpAny_pure (wpAny_pure ⟨_, rfl, wpAny_pure h⟩)) hok))
end
section
variable {X : Cx}
/-- t[::-1] of a tuple -/
def tRevT (K : PySem.W.Frag) (te : TE) : TE := fun σ H Q => te σ H fun x H1 => ∃ a xs, x = .ref a ∧ SqT K H1 a xs ∧ ∀ p, H1 p = none → Q (.ref p) (upd H1 p (.tup xs.reverse))
theorem pe_revT {e : Expr} {te : TE} {k : Nat} {p1 p2 p3 pos : Pos} (he : PE X e te) : PE X (.Subscript e (.Slice none none (some (.UnaryOp .USub (.Constant (.int 1) k p1) p2)) p3) pos) (tRevT X.K te) := by
  refine ⟨fun pins s σ H Q I h => Subscript_ (thn (he.run pins s σ H _ I h) fun v s1 ⟨x, H1, I1, r1, q1⟩ => ?_)⟩
  obtain ⟨a, xs, rfl, hx, q⟩ := q1
  cases r1
  have hst : PO X (some (.UnaryOp .USub (.Constant (.int 1) k p1) p2)) (tPart (tUn (rU fun i => .int (-i)) (tC (.int 1)))) := po_some (pe_un un_neg pe_int)
  refine wpAny_Slice (thn (po_none.run pins s1 σ H1 (fun o H2 => o = none ∧ H2 = H1) I1 ⟨rfl, rfl⟩) fun vl s2 ⟨l, H2, I2, pl, el, e2⟩ => ?_)
  subst el e2
  refine thn (po_none.run pins s2 σ H2 (fun o H3 => o = none ∧ H3 = H2) I2 ⟨rfl, rfl⟩) fun vu s3 ⟨u, H3, I3, pu, eu, e3⟩ => ?_
  subst eu e3
  refine thn (hst.run pins s3 σ H3 (fun o H4 => o = some (-1) ∧ H4 = H3) I3 ⟨1, rfl, -1, rfl, rfl, rfl⟩) fun vs s4 ⟨o, H4, I4, ps, eo, e4⟩ => ?_
  subst eo e4
  cases pl
  cases pu
  have I5 : Inv X pins σ H4 { s4 with heap := s4.heap.push { cls := .type "slice", data := .fields #[.none, .none, vs] } } := I4.kept (t' := s4.toks) fun b ob q => Heap.get?_push_of_some _ q
  obtain ⟨its, r, ht, hz⟩ := I5.tuple hx
  have hlen := r.length
  show wpAny (model X.prog X.w) X.A (subscriptTail e (.Slice none none (some (.UnaryOp .USub (.Constant (.int 1) k p1) p2)) p3) (.ref a) (.ref s4.heap.objs.size)) (EP X pins σ Q) X.xe { s4 with heap := s4.heap.push { cls := .type "slice", data := .fields #[.none, .none, vs] } }
  refine tail_any (ops := [.ref a, .ref s4.heap.objs.size]) ht.typeIs (PyProof.Rows.slot_tuple_getitem.lookup) ?_ (by with_unfolding_all rfl)
  refine tuple_rev ht (Heap.IsSliceOf.new _ .none .none vs) ps ?_ (by rw [List.size_toArray]; omega)
  refine ⟨.ref _, _, I5.laid (t' := s4.toks) (o := .tup xs.reverse) (fun b ob q => Heap.get?_push_of_some _ q) (Nat.le_refl _) ?_, rfl, q _ (I5.hok.fresh (Nat.le_refl _))⟩
  exact ⟨by rw [List.length_reverse]; exact hz, _, r.reverse, IsTup.new _ _⟩
end
end Kr

namespace Kr
open PySem PySem.Spec PyProof.Rows L2
/-! ### data over the abstract heap: None, bools, ints, texts, lists, tuples, {} -/
mutual
inductive Dq (H : Hp) : V → PyData → Prop
  | non : Dq H .non .none
  | bl (b : Bool) : Dq H (.bl b) (.bool b)
  | int (i : Int) : Dq H (.int i) (.int i)
  | str (x : Str) : Dq H (.str x) (.str x)
  | lst {a : Addr} {xs : List V} {ds : List PyData} (e : H a = some (.lst xs)) (q : DqA H xs ds) : Dq H (.ref a) (.list ds)
  | tup {a : Addr} {xs : List V} {ds : List PyData} (e : H a = some (.tup xs)) (q : DqA H xs ds) : Dq H (.ref a) (.tuple ds)
  | dic {a : Addr} (e : H a = some (.dK [])) : Dq H (.ref a) (.dict [])
inductive DqA (H : Hp) : List V → List PyData → Prop
  | nil : DqA H [] []
  | cons {v : V} {vs : List V} {d : PyData} {ds : List PyData} (h : Dq H v d) (t : DqA H vs ds) : DqA H (v :: vs) (d :: ds)
end
mutual
theorem Dq.up {H H' : Hp} (s : Same H H') : ∀ {v : V} {d : PyData}, Dq H v d → Dq H' v d
  | _, _, .non => .non
  | _, _, .bl b => .bl b
  | _, _, .int i => .int i
  | _, _, .str x => .str x
  | _, _, .lst e q => .lst (s _ _ e) (DqA.up s q)
  | _, _, .tup e q => .tup (s _ _ e) (DqA.up s q)
  | _, _, .dic e => .dic (s _ _ e)
theorem DqA.up {H H' : Hp} (s : Same H H') : ∀ {vs : List V} {ds : List PyData}, DqA H vs ds → DqA H' vs ds
  | _, _, .nil => .nil
  | _, _, .cons h t => .cons (Dq.up s h) (DqA.up s t)
end
theorem DqA.len {H : Hp} : ∀ {vs : List V} {ds : List PyData}, DqA H vs ds → vs.length = ds.length
  | _, _, .nil => rfl
  | _, _, .cons _ t => by rw [List.length_cons, List.length_cons, DqA.len t]
theorem DqA.get {H : Hp} : ∀ {vs : List V} {ds : List PyData} {i : Nat} {v : V}, DqA H vs ds → vs[i]? = some v → ∃ d, ds[i]? = some d ∧ Dq H v d
  | _, _, _, _, .nil, e => by simp at e
  | _, _, 0, _, .cons h _, e => by
    simp at e
    subst e
    exact ⟨_, rfl, h⟩
  | _, _, i + 1, _, .cons _ t, e => by
    obtain ⟨d, h1, h2⟩ := DqA.get (i := i) t (by simpa using e)
    exact ⟨d, by simpa using h1, h2⟩
theorem DqA.app {H : Hp} : ∀ {vs us : List V} {ds es : List PyData}, DqA H vs ds → DqA H us es → DqA H (vs ++ us) (ds ++ es)
  | _, _, _, _, .nil, q => q
  | _, _, _, _, .cons h t, q => .cons h (DqA.app t q)
theorem DqA.take {H : Hp} : ∀ {vs : List V} {ds : List PyData} (n : Nat), DqA H vs ds → DqA H (vs.take n) (ds.take n)
  | _, _, 0, _ => .nil
  | _, _, _ + 1, .nil => .nil
  | _, _, n + 1, .cons h t => .cons h (DqA.take n t)
theorem DqA.drop {H : Hp} : ∀ {vs : List V} {ds : List PyData} (n : Nat), DqA H vs ds → DqA H (vs.drop n) (ds.drop n)
  | _, _, 0, q => q
  | _, _, _ + 1, .nil => .nil
  | _, _, n + 1, .cons _ t => DqA.drop n t
theorem DqA.set {H : Hp} {v : V} {d : PyData} (q : Dq H v d) : ∀ {vs : List V} {ds : List PyData} (i : Nat), DqA H vs ds → DqA H (vs.set i v) (ds.set i d)
  | _, _, _, .nil => .nil
  | _, _, 0, .cons _ t => .cons q t
  | _, _, i + 1, .cons h t => .cons h (DqA.set q i t)
theorem DqA.one {H : Hp} {v : V} {d : PyData} (q : Dq H v d) : DqA H [v] [d] := .cons q .nil
theorem DqA.rev {H : Hp} : ∀ {vs : List V} {ds : List PyData}, DqA H vs ds → DqA H vs.reverse ds.reverse
  | _, _, .nil => .nil
  | _, _, .cons h t => by
    rw [List.reverse_cons, List.reverse_cons]
    exact DqA.app (DqA.rev t) (.one h)
theorem DqA.ints {H : Hp} : ∀ ns : List Int, DqA H (ns.map V.int) (ns.map PyData.int)
  | [] => .nil
  | n :: r => .cons (.int n) (DqA.ints r)
theorem DqA.rep {H : Hp} {v : V} {d : PyData} (q : Dq H v d) : ∀ n : Nat, DqA H (List.replicate n v) (List.replicate n d)
  | 0 => .nil
  | n + 1 => .cons q (DqA.rep q n)
theorem Dq.tup_inv {H : Hp} {v : V} {ds : List PyData} (q : Dq H v (.tuple ds)) : ∃ a xs, v = .ref a ∧ H a = some (.tup xs) ∧ DqA H xs ds := by
  cases q with
  | tup e h => exact ⟨_, _, rfl, e, h⟩

/-! ### how long what is shown is -/
mutual
def big : PyData → Nat
  | .none | .bool _ => 5
  | .int i => (toString i : Str).length
  | .str x => (reprText x).length
  | .list xs | .tuple xs => bigA xs + 3
  | .dict _ => 2
def bigA : List PyData → Nat
  | [] => 0
  | x :: xs => big x + 2 + bigA xs
end

section
variable {X : Cx} {pins : List (Addr × Obj)} {σ : L2.St} {H : Hp} {s : Shared}
mutual
theorem Dq.reprs (I : Inv X pins σ H s) : ∀ (d : PyData) (v : V) (u : Value), Dq H v d → RelV v u → d.showable = true → d.shown.length ≤ sizeLine →
    ∃ as, Reads s.heap u d as ∧ ∃ bs, ReadAtMost s.heap d.depth bs ∧ ReprK X.prog X.w bs s.heap d.depth u d.shown
  | .none, _, _, h, r, _, _ => by
    cases h
    cases r
    exact ⟨_, .none, [], (fun _ h => nomatch h), by simp only [PyData.shown]; exact .of_is ReprIs.none _ _ _⟩
  | .bool b, _, _, h, r, _, _ => by
    cases h
    cases r
    exact ⟨_, .bool b, [], (fun _ h => nomatch h), by simp only [PyData.shown]; exact .of_is (ReprIs.bool b) _ _ _⟩
  | .int i, _, _, h, r, hs, _ => by
    cases h
    obtain ⟨t, rfl⟩ := r
    exact ⟨_, .int i t, [], (fun _ h => nomatch h), by simp only [PyData.shown]; exact .of_is (ReprIs.int t (by simpa [PyData.showable] using hs)) _ _ _⟩
  | .str x, _, _, h, r, _, hz => by
    cases h
    obtain ⟨t, rfl⟩ := r
    exact ⟨_, .str x t, [], (fun _ h => nomatch h), by simp only [PyData.shown]; exact .of_is (ReprIs.str x t (by simpa only [PyData.shown] using hz)) _ _ _⟩
  | .list ds, _, _, h, r, hs, hz => by
    cases h with
    | @lst a xs _ e ha =>
      cases r
      have hz' : (listText (PyData.shownAll ds)).length ≤ sizeLine := by simpa only [PyData.shown] using hz
      obtain ⟨its, rv, ⟨o, n, ho, hc, _, hd⟩, _⟩ := I.list (SqL.of (K := X.K) e)
      obtain ⟨as, hr, bs, hb, hk⟩ := DqA.reprs I ds _ its ha rv (by simpa [PyData.showable] using hs) fun t ht => Nat.le_trans (listText_mem_le ht) hz'
      have rd : Reads s.heap (.ref a) (.list ds) _ := .list ho hc hd hr
      have hna : a ∉ bs := not_mem_of_deeper rd (by simp only [PyData.depth]; omega) hb
      refine ⟨_, rd, a :: bs, ReadAtMost.cons rd (by simp only [PyData.depth]; omega) hb, ?_⟩
      simp only [PyData.depth, PyData.shown]
      cases its with
      | nil =>
        cases hr
        simp only [PyData.shownAll, listText_nil]
        exact ReprK.listEmpty ho hc hd
      | cons y l => exact ReprK.list ho hc hd hna (by simpa using hk.length_eq) (fun i y e => hk.item i y (by simpa using e))
  | .tuple ds, _, _, h, r, hs, hz => by
    cases h with
    | @tup a xs _ e ha =>
      cases r
      have hz' : (tupleText (PyData.shownAll ds)).length ≤ sizeLine := by simpa only [PyData.shown] using hz
      obtain ⟨its, rv, ⟨o, ho, hc, n, hd⟩, _⟩ := I.tuple (SqT.of (K := X.K) e)
      obtain ⟨as, hr, bs, hb, hk⟩ := DqA.reprs I ds _ its ha rv (by simpa [PyData.showable] using hs) fun t ht => Nat.le_trans (tupleText_mem_le ht) hz'
      have rd : Reads s.heap (.ref a) (.tuple ds) _ := .tuple ho hc hd hr
      have hna : a ∉ bs := not_mem_of_deeper rd (by simp only [PyData.depth]; omega) hb
      refine ⟨_, rd, a :: bs, ReadAtMost.cons rd (by simp only [PyData.depth]; omega) hb, ?_⟩
      simp only [PyData.depth, PyData.shown]
      exact ReprK.tuple ho hc hd hna (by simpa using hk)
  | .dict kv, _, _, h, r, _, _ => by
    cases h with
    | @dic a e =>
      cases r
      obtain ⟨_, hsys, vs, rel, o, es, ep, ho, hx, hd, _, hp, _⟩ := I.hok a _ e
      cases rel
      have hes : es = #[] := by
        obtain ⟨l⟩ := es
        have : l = [] := by
          cases l with
          | nil => rfl
          | cons y l => exact nomatch hp
        rw [this]
      subst hes
      have rd : Reads s.heap (.ref a) (.dict []) _ := .dict ho hx.1 hd .nil .nil
      refine ⟨_, rd, [a], ReadAtMost.cons rd (Nat.zero_le _) (fun _ h => nomatch h), ?_⟩
      have := ReprK.dict (prog := X.prog) (w := X.w) (as := []) (d := 0) ho hx.1 hd hsys (fun h => nomatch h) .nil
      simpa only [PyData.depth, PyData.depthKv, PyData.shown, PyData.shownKv] using this
theorem DqA.reprs (I : Inv X pins σ H s) : ∀ (ds : List PyData) (vs : List V) (us : List Value), DqA H vs ds → Vals vs us → PyData.showableAll ds = true → (∀ t ∈ PyData.shownAll ds, t.length ≤ sizeLine) →
    ∃ as, ReadsAll s.heap us ds as ∧ ∃ bs, ReadAtMost s.heap (PyData.depthAll ds) bs ∧ ReprAllK X.prog X.w bs s.heap (PyData.depthAll ds) us (PyData.shownAll ds)
  | [], _, _, h, r, _, _ => by
    cases h
    cases r
    exact ⟨_, .nil, [], (fun _ h => nomatch h), by simp only [PyData.shownAll]; exact .nil⟩
  | d :: ds, _, _, h, r, hs, hz => by
    cases h with
    | cons h1 h2 =>
      cases r with
      | cons r1 r2 =>
        have hs' : d.showable = true ∧ PyData.showableAll ds = true := by simpa [PyData.showableAll] using hs
        obtain ⟨as, q1, b1, hb1, k1⟩ := Dq.reprs I d _ _ h1 r1 hs'.1 (hz _ (by simp only [PyData.shownAll]; exact List.mem_cons_self ..))
        obtain ⟨cs, q2, b2, hb2, k2⟩ := DqA.reprs I ds _ _ h2 r2 hs'.2 (fun t ht => hz t (by simp only [PyData.shownAll]; exact List.mem_cons_of_mem _ ht))
        refine ⟨_, .cons q1 q2, b1 ++ b2, ?_, ?_⟩
        · simp only [PyData.depthAll]
          exact (hb1.mono (Nat.le_max_left _ _)).append (hb2.mono (Nat.le_max_right _ _))
        · simp only [PyData.depthAll, PyData.shownAll]
          exact .cons ((k1.more fun b hb => List.mem_append_left _ hb).level_le (Nat.le_max_left _ _)) (k2.more_le (fun b hb => List.mem_append_right _ hb) (Nat.le_max_right _ _))
end
end

/-- repr(x) of data, where no repr is under way -/
def rRepr : List V → Hp → VK → Prop := fun xs H Q => ∃ v d, xs = [v] ∧ Dq H v d ∧ d.showable = true ∧ d.depth ≤ 40 ∧ d.shown.length ≤ sizeLine ∧ Q (.str d.shown) H
theorem call_repr {X : Cx} (hg : X.A.guards = some []) (hu : X.A.units + 64 < cLine) : CallR X (.builtin "repr") rRepr := by
  intro pins s σ H xs us Q I r h
  obtain ⟨v, d, rfl, hd, hs, hdep, hz, q⟩ := h
  obtain ⟨u, rfl, r1⟩ : ∃ u, us = [u] ∧ RelV v u := by
    cases r with
    | cons a b =>
      cases b
      exact ⟨_, rfl, a⟩
  have fin : ∀ (h' : Heap) (t : Tok) (tk : Nat), (∀ b o, s.heap.get? b = some o → h'.get? b = some o) → EP X pins σ Q (.str d.shown t) { s with heap := h', toks := tk } :=
    fun h' t tk hk => ⟨.str d.shown, H, I.kept (t' := tk) hk, ⟨t, rfl⟩, q⟩
  cases hd with
  | non =>
    simp only [PyData.shown] at fin
    cases r1
    exact PySem.P.repr_of_none (fin s.heap _ _ fun _ _ e => e)
  | bl b =>
    simp only [PyData.shown] at fin
    cases r1
    have := PySem.P.repr_of_bool (prog := X.prog) (w := X.w) (A := X.A) (E := X.xe) (b := b) (s := s) (Q := EP X pins σ Q)
    refine this ?_
    have f := fin s.heap s.toks (s.toks + 1) fun _ _ e => e
    cases b <;> exact f
  | int i =>
    simp only [PyData.shown] at fin
    obtain ⟨t, rfl⟩ := r1
    exact PySem.P.repr_of_int (by simpa [PyData.showable] using hs) (fin s.heap _ _ fun _ _ e => e)
  | str x =>
    simp only [PyData.shown] at fin hz
    obtain ⟨t, rfl⟩ := r1
    exact PySem.P.repr_of_str (fin s.heap _ _ fun _ _ e => e) hz
  | @lst a xs ds e ha =>
    obtain rfl : u = Value.ref a := r1
    simp only [PyData.depth] at hdep
    have hz' : (listText (PyData.shownAll ds)).length ≤ sizeLine := by simpa only [PyData.shown] using hz
    simp only [PyData.shown] at fin
    obtain ⟨its, rv, ⟨o, n, ho, hc, _, hd⟩, _⟩ := I.list (SqL.of (K := X.K) e)
    obtain ⟨as, hr, bs, hb, hk⟩ := DqA.reprs I ds _ its ha rv (by simpa [PyData.showable] using hs) fun t ht => Nat.le_trans (listText_mem_le ht) hz'
    have rd : Reads s.heap (.ref a) (.list ds) _ := .list ho hc hd hr
    have hna : a ∉ bs := not_mem_of_deeper rd (by simp only [PyData.depth]; omega) hb
    refine call_repr_slot (by omega) ⟨o, ho, hc⟩ F.slot_list_repr.toG ?_
    cases its with
    | nil =>
      cases hr
      have e0 : listText (PyData.shownAll []) = ("[]" : Str) := by simp only [PyData.shownAll, listText_nil]
      rw [e0] at fin
      exact call_list_repr_empty ⟨o, ho, hc⟩ ho hd ⟨_, _, rfl, fin s.heap _ _ fun _ _ e => e⟩
    | cons y l =>
      exact call_list_reprK ho hc hd hna (by simpa using hk.length_eq) (fun i y e => hk.item i y (by simpa using e)) hg (fun b _ => Clear.nil b) (by show X.A.units + 1 + _ < cLine; omega) (fun _ _ e => e) (fun h' t tk hk => ⟨_, _, rfl, fin h' t tk hk⟩) hz'
  | @tup a xs ds e ha =>
    obtain rfl : u = Value.ref a := r1
    simp only [PyData.depth] at hdep
    have hz' : (tupleText (PyData.shownAll ds)).length ≤ sizeLine := by simpa only [PyData.shown] using hz
    simp only [PyData.shown] at fin
    obtain ⟨its, rv, ⟨o, ho, hc, n, hd⟩, _⟩ := I.tuple (SqT.of (K := X.K) e)
    obtain ⟨as, hr, bs, hb, hk⟩ := DqA.reprs I ds _ its ha rv (by simpa [PyData.showable] using hs) fun t ht => Nat.le_trans (tupleText_mem_le ht) hz'
    have rd : Reads s.heap (.ref a) (.tuple ds) _ := .tuple ho hc hd hr
    have hna : a ∉ bs := not_mem_of_deeper rd (by simp only [PyData.depth]; omega) hb
    refine call_repr_slot (by omega) ⟨o, ho, hc⟩ F.slot_tuple_repr ?_
    exact call_tuple_reprK ho hc hd hna (by simpa using hk) hg (fun b _ => Clear.nil b) (by show X.A.units + 1 + _ < cLine; omega) (fun _ _ e => e) (fun h' t tk hk => ⟨_, _, rfl, fin h' t tk hk⟩) hz'
  | @dic a e =>
    obtain rfl : u = Value.ref a := r1
    obtain ⟨_, hsys, vs, rel, o, es, ep, ho, hx, hd, _, hp, _⟩ := I.hok a _ e
    cases rel
    have hes : es = #[] := by
      obtain ⟨l⟩ := es
      have : l = [] := by
        cases l with
        | nil => rfl
        | cons y l => exact nomatch hp
      rw [this]
    subst hes
    simp only [PyData.shown, PyData.shownKv] at fin hz
    refine call_repr_slot (by omega) ⟨o, ho, hx.1⟩ F.slot_dict_repr ?_
    exact call_dict_reprK (as := []) (d := 0) ho hx.1 hd hsys (fun h => nomatch h) .nil hg (fun b _ => Clear.nil b) (by show X.A.units + 1 + _ < cLine; omega) (fun _ _ e => e) (fun h' t tk hk => ⟨_, _, rfl, fin h' t tk hk⟩) hz
end Kr

namespace Kr
open PySem PySem.Spec PyProof.Rows L2
/-! ### defs that are called where no repr is under way -/
structure FnG (P : Program) (w : World) (K : PySem.W.Frag) (mg : Str → Option Value) (base : Heap) (CX : CXT) (k : Nat) (f : Addr) (fd : FuncData) (ps : List Str) (sp : Sp) : Prop where
  len : ∀ vs H Q E, sp vs H Q E → vs.length = ps.length
  run : ∀ (A : Around) (outer : List Env) (s : Shared) (H : Hp) (args : Args) (us : List Value) (vs : List V) (Q : VK) (E : XK), A.guards = some [] → Room k A → Env0 P w K mg base A outer s H → BindsTo s fd args (ps.zip us) → Vals vs us → sp vs H Q E →
    codeAny (model P w) A (.call (.ref f) args) (CR CX outer P w H s Q E) s
section
variable {P : Program} {w : World} {K : PySem.W.Frag} {mg : Str → Option Value} {base : Heap} {CX : CXT}
theorem FnG.mono {j k : Nat} {f : Addr} {fd : FuncData} {ps : List Str} {sp : Sp} (F : FnG P w K mg base CX j f fd ps sp) (h : j ≤ k) : FnG P w K mg base CX k f fd ps sp :=
  ⟨F.len, fun A outer s H args us vs Q E hg hr => F.run A outer s H args us vs Q E hg (hr.mono h)⟩
/-- by the body, as Fun.ok; the body is told that no repr is under way -/
theorem okG {x qual : Str} {st : Stmt} {f : Addr} {fd : FuncData} {N ps : List Str} {k : Nat} {sp : Sp} (F : Fun K x qual st f fd) (S : FnScope N ps (defScope st)) (len : ∀ vs H Q E, sp vs H Q E → vs.length = ps.length)
    (hbody : ∀ (cdv : Value) (A : Around) (outer : List Env) (s : Shared) (H : Hp) (vs : List V) (Q : VK) (E : XK), (A.deeper (envOfC qual (defScope st) s.heap.objs.size f cdv)).guards = some [] → Room k (A.deeper (envOfC qual (defScope st) s.heap.objs.size f cdv)) → sp vs H Q E →
      ∃ t, PSs (cxOf CX0 P w K mg base N qual (defScope st) f cdv A outer s H E).nox (defBody st) t ∧ t { nx := fun _ H' => Q .non H', rt := Q } (start N vs) H) : FnG P w K mg base CX0 (k + 1) f fd ps sp := by
  obtain ⟨oc, od, kV, doc, pm, an, cdv, ct, osl, rfl, lk, hcd⟩ := F.ex
  refine ⟨len, fun A outer s H args us vs Q E hg hr e0 hb r hsp => ?_⟩
  have KX : K.In s.heap := e0.mod.kin.keeps fun b o e => (e0.bs b o e).1
  have lim : s.heap.NoLimit := e0.mod.nolimit.keeps fun b o e => (e0.bs b o e).1
  refine codeAny_call_function hr.depth (KX _ _ lk) rfl S.co S.gen rfl (PySem.W.codeRec_of KX hcd) (hb _ _ _ _ ?_)
  have kinds : ∀ y ∈ ps.zip us, (defScope st).names.lookup y.1 = some .local ∨ ((defScope st).names.lookup y.1 = some .cell ∧ ((cellsFrom (s.heap.objs.size + 1) (defScope st).names []).lookup y.1).isSome = true) := by
    rintro ⟨n, v⟩ hy
    rcases S.par n (List.of_mem_zip hy).1 with q | q
    · exact .inl q
    · exact .inr ⟨q, PySem.W.cellsFrom_some _ _ _ (.inl q)⟩
  refine wpAny_newFunctionEnv_cells S.kind kinds fun env he s1 x => ?_
  subst he
  refine ⟨lim.keeps x.toInCall.keep, codeAny_func ?_⟩
  obtain ⟨t, ht, hq⟩ := hbody cdv A outer s H vs Q E (by first | exact hg | simpa [Around.deeper] using hg) (hr.deeper _) hsp
  have I : Inv (cxOf CX0 P w K mg base N qual (defScope st) f cdv A outer s H E) [] (start N vs) H s1 := inv_start S hr.hd e0 (len _ _ _ _ hsp) r x
  refine wpAny_mono (ht.nox.run [] s1 (start N vs) H _ I hq) (fun fl s' hs => ?_) fun e s' hs => hs
  cases fl with
  | ret u =>
    obtain ⟨v, σ', H', J, rv, q⟩ := hs
    exact ⟨v, H', J.os, J.bare, J.base, J.hok, rv, q⟩
  | next =>
    obtain ⟨σ', H', J, q⟩ := hs
    exact ⟨.non, H', J.os, J.bare, J.base, J.hok, rfl, q⟩
  | brk => exact hs.elim fun _ h => h.elim fun _ h => h.2.elim
  | cont => exact hs.elim fun _ h => h.elim fun _ h => h.2.elim
end
section
variable {X : Cx} {CX : CXT} {k : Nat} {f : Addr} {fd : FuncData} {ps : List Str} {sp : Sp} {dvs : List V} {ds : List Value} {E : XK} {x : Str} {p pos : Pos} {e : Expr} {es : List Expr} {t : TA}
/-- such a def's call, from a body of the same kind -/
theorem pe_callG (F : FnG X.prog X.w X.K X.mg X.base CX k f fd ps sp) (gd : X.A.guards = some []) (hr : Room k X.A) (hg : Gl X x) (hm : X.mg x = some (.ref f)) (hk : PySem.W.keepIn X.K (.ref f) = true) (hb : Binds X.K fd ps ds) (hd : Vals dvs ds) (hx : Passes CX X E)
    (ha : PA X (e :: es) t) (hdb : (x == ("__debug__" : Str)) = false := by decide) (he : starEach (e :: es) X.env = (false, eval e X.env) :: starEach es X.env := by rfl) (hpl : (backTo pos (starEach es X.env)).any (·.1) = false := by rfl) :
    PE X (.Call (.Name x p) (e :: es) [] pos) (tCall sp dvs E t) := by
  refine ⟨fun pins s σ H Q I h => wpAny_Call_Name_kw (ld_glob I hg hm ?_ hdb)⟩
  refine PySem.W.callWith_K (h₀ := X.base) I.ok.mod.kin hk (thn (ha.run pos pins s σ H _ I h) fun us s1 ⟨vs, H1, I1, r, q⟩ => ⟨I1.kIn, ?_⟩) he hpl
  have r2 : Vals (vs ++ dvs) (us ++ ds) := r.append hd
  have hl : (us ++ ds).length = ps.length := r2.length.symm.trans (F.len _ _ _ _ q)
  refine wpAny_call (codeAny_mono (F.run X.A X.stack s1 H1 ⟨us, []⟩ (us ++ ds) (vs ++ dvs) Q E gd hr I1.env0 (hb s1 us I1.kIn hl) r2 q) fun r s' hq => ?_)
  cases r with
  | error e => exact hx pins σ H1 s1 e s' I1 hq
  | ok fl =>
    cases fl with
    | ret u => exact I1.after hq
    | next => exact hq.elim
    | brk => exact hq.elim
    | cont => exact hq.elim
end

/-! ### the head: the law is called where nothing is under way -/
theorem law_callG {P : Program} {w : World} {K : PySem.W.Frag} {mg mb : Str → Option Value} {k : Nat} {fa a : Addr} {fd : FuncData} {x : Str} {sp : Sp} {s₁ : Shared} {vs : List Value} {ns : List Int}
    (KX : K.In s₁.heap) (hns : s₁.heap.Ns mainGlobals mg) (hb : s₁.heap.Ns builtinsNs mb) (hbb : ∀ x : Str, x ≠ "__name__" → mb x = bootBuiltins x) (hlim : s₁.heap.NoLimit) (hg : s₁.gens = #[])
    (ha : s₁.heap.get? a = some { cls := .type "list", data := .seq vs.toArray }) (hi : IntsAre vs ns) (hl : ns.length ≤ sizeLine) (hr : Room k callerA)
    (F : ∀ base : Heap, K.In base → base.Ns mainGlobals mg → FnG P w K mg base CX0 k fa fd [x] sp) (hbind : ∀ (s : Shared) (u : Value), BindsTo s fd ⟨[u], []⟩ [(x, u)])
    (hsp : ∀ H : Hp, Only H → SqL K H a (ns.map V.int) → sp [.ref a] H (fun v _ => v = .bl true) fun _ _ _ => False) :
    codeAny (model P w) callerA (.call (.ref fa) ⟨[.ref a], []⟩) (fun r s' => r = .ok (.ret (.bool true)) ∧ OldK s₁.heap s'.heap ∧ s'.os = s₁.os ∧ AllBare s'.gens) s₁ := by
  have rv := vals_ints hi
  have lenV := hi.length
  have step : ∀ H : Hp, Only H → SqL K H a (ns.map V.int) → HOk P w H s₁.heap → (∀ b, H b ≠ none → b = a) → (H a ≠ none → K.lookup a = none) →
      codeAny (model P w) callerA (.call (.ref fa) ⟨[.ref a], []⟩) (fun r s' => r = .ok (.ret (.bool true)) ∧ OldK s₁.heap s'.heap ∧ s'.os = s₁.os ∧ AllBare s'.gens) s₁ := by
    intro H hO hS hok only hK
    have free : ∀ {b : Addr} {o : Obj}, s₁.heap.get? b = some o → (b = a → H b = none) → (hidT s₁.heap H).get? b = some o := fun {b o} e n => hidT_get e (by
      cases q : H b with
      | none => rfl
      | some u => rw [n (only b (by rw [q]; simp))] at q; cases q)
    have ns2 : ∀ {b : Addr} {m : Str → Option Value}, s₁.heap.Ns b m → (hidT s₁.heap H).Ns b m := by
      rintro b m ⟨o, es, ep, e, d, r⟩
      refine ⟨o, es, ep, free e fun z => ?_, d, r⟩
      subst z
      rw [ha] at e
      cases e
      cases (show Data.seq vs.toArray _ = Data.dict es ep from d)
    have kin : K.In (hidT s₁.heap H) := fun b o e => free (KX b o e) fun z => by
      subst z
      cases q : H b with
      | none => rfl
      | some u => rw [hK (by rw [q]; simp)] at e; cases e
    have md : Mod K mg (hidT s₁.heap H) := ⟨kin, ns2 hns, ⟨mb, ns2 hb, hbb⟩, hlim.elim fun mc h => ⟨mc, ns2 h.1, h.2⟩⟩
    have e0 : Env0 P w K mg (hidT s₁.heap H) callerA [] s₁ H :=
      ⟨rfl, md, fun b o e => of_hidT e, Nat.le_of_eq (hidT_size _ _), trivial, fun b hb => absurd (show b ∈ ([] : List Addr) from hb) (by simp), hok, .of_eq hg⟩
    refine codeAny_mono ((F _ kin (ns2 hns)).run callerA [] s₁ H ⟨[.ref a], []⟩ [.ref a] [.ref a] _ _ rfl hr e0 (hbind s₁ (.ref a)) (.cons rfl .nil) (hsp H hO hS)) fun r s' h => ?_
    cases r with
    | error e => exact h.elim
    | ok fl =>
      cases fl with
      | next => exact h.elim
      | brk => exact h.elim
      | cont => exact h.elim
      | ret u =>
        obtain ⟨v, H', os, bare, un, hok', r', q⟩ := h
        obtain rfl : v = .bl true := q
        obtain rfl : u = Value.bool true := r'
        refine ⟨rfl, OldK.of_keep fun b o e => ?_, os, bare⟩
        rcases hO b with z | ⟨ob, xs, z⟩
        · exact un.keep b o e z (fun q => absurd (show b ∈ ([] : List Addr) from q) (by simp)) (by simp)
        · have e1 := (hok b _ z).1
          have e2 := (hok' b _ (un.frzs b ob _ z)).1
          rw [e] at e1
          cases e1
          exact e2
  cases hk : K.lookup a with
  | some o =>
    have e := KX a o hk
    rw [ha] at e
    cases e
    exact step (fun _ => none) (fun _ => .inl rfl) (.inr ⟨_, vs.toArray, _, hk, rfl, rfl, rfl, by rw [List.size_toArray, lenV]; exact hl, by simpa using rv⟩) (fun b u z => nomatch (show (none : Option HO) = some u from z)) (fun b z => absurd rfl z) fun z => absurd rfl z
  | none =>
    refine step (fun b => if b = a then some (.frz { cls := .type "list", data := .seq vs.toArray } (.lst (ns.map V.int))) else none) (fun b => ?_) (.inl (.inr ⟨_, if_pos rfl⟩)) (fun b u z => ?_) (fun b z => ?_) fun _ => hk
    · by_cases q : b = a
      · exact .inr ⟨_, _, if_pos q⟩
      · exact .inl (if_neg q)
    · by_cases q : b = a
      · cases (if_pos q).symm.trans z
        subst q
        exact ⟨ha, by rw [List.length_map]; exact hl, vs, _, rv, ha⟩
      · cases (if_neg q).symm.trans z
    · by_cases q : b = a
      · exact q
      · exact absurd (if_neg q) z
theorem walkG {l : PySem.W.OpenLaw} {n k : Nat} {q : Program} {loose : List Str} {XP : (Str → Option Value) → Heap → Prop} {YP : World → Heap → Prop} {d : DefRec} {K : Params → PySem.W.Frag} {sp : PySem.W.Frag → Sp} {x : Str}
    (hn : l.most = some n) (hn2 : n ≤ sizeLine) (hdf : d.params.defaults = []) (hr : Room k callerA) (hY : ∀ (w : World) (h : Heap), YP w h → (K w.params).In h)
    (F : ∀ (w : World) (mg : Str → Option Value) (fa : Addr) (h : Heap), (K w.params).In h → h.Ns mainGlobals mg → mg d.name = some (.ref fa) →
      ∃ fd : FuncData, (∀ (s : Shared) (u : Value), BindsTo s fd ⟨[u], []⟩ [(x, u)]) ∧ ∀ base : Heap, (K w.params).In base → base.Ns mainGlobals mg → FnG l.prog w (K w.params) mg base CX0 k fa fd [x] (sp (K w.params)))
    (hsp : ∀ (K : PySem.W.Frag) (H : Hp) (a : Addr) (ns : List Int), ns.length ≤ n → Only H → SqL K H a (ns.map V.int) → sp K [.ref a] H (fun v _ => v = .bl true) fun _ _ _ => False) :
    PySem.W.WalkO q loose XP YP l.row.toRowW d [] (fun f vs => PySem.call f vs) := by
  refine Att.attach_call hn hdf fun w s₀ s₁ mg mb fa o pm cd doc a vs ns G Y ho hd hcd hmg hobj hints hlen hg => ?_
  obtain ⟨fd, hb, hF⟩ := F w mg fa _ (hY w _ Y) G.T.g hmg
  exact law_callG (hY w _ Y) G.T.g G.T.b G.T.builtins G.T.nolimit hg hobj hints (Nat.le_trans hlen hn2) hr hF hb fun H hO hS => hsp _ H a ns hlen hO hS
end Kr

namespace Kr
open PySem PySem.Spec PyProof.Rows L2
/-- f(k = v, ..), names alone: how they bind -/
theorem kbn_of {K : PySem.W.Frag} {x qual : Str} {st : Stmt} {f : Addr} {fd : FuncData} {ps ks : List Str} (F : Fun K x qual st f fd) (g : {α : Type} → List α → List α)
    (hrel : ∀ {zs : List V} {ws : List Value}, Vals zs ws → Vals (g zs) (g ws))
    (h : ∀ (kV doc pm : Value) (an : Option Addr) (cdv ct : Value) (ws : List Value), ws.length = ks.length → bindArgs (PySem.W.fnOf x qual (defArgs st) (defBody st) (defScope st) .none kV doc pm an cdv ct) ⟨[], ks.zip ws⟩ = pure (ps.zip (g ws))) :
    KBn K fd ps 0 ks (fun _ ws => g ws) (fun _ zs => g zs) := by
  obtain ⟨oc, od, kV, doc, pm, an, cdv, ct, osl, rfl, lk, hcd⟩ := F.ex
  refine ⟨fun s us ws _ hu hw => ?_, fun _ r => hrel r⟩
  obtain rfl : us = [] := List.length_eq_zero_iff.mp hu
  exact .of_eq (h kV doc pm an cdv ct ws hw)
theorem vals_swap {zs : List V} {ws : List Value} (r : Vals zs ws) : Vals zs.reverse ws.reverse := r.reverse
section
variable {X : Cx} {CX : CXT} {k : Nat} {f : Addr} {fd : FuncData} {ps ks : List Str} {sp : Sp} {E : XK} {x : Str} {p pos : Pos} {kws : List Keyword} {tk : TA} {g : List Value → List Value → List Value} {gV : List V → List V → List V}
def tCallN (m : Nat) (sp : Sp) (gV : List V → List V → List V) (E : XK) (tk : TA) : TE := fun σ H Q => tk σ H fun zs H1 => zs.length = m ∧ sp (gV [] zs) H1 Q E
theorem pe_callN (F : FnOk X.prog X.w X.K X.mg X.base CX k f fd ps sp) (hr : Room k X.A) (hg : Gl X x) (hm : X.mg x = some (.ref f)) (hk : PySem.W.keepIn X.K (.ref f) = true) (hb : KBn X.K fd ps 0 ks g gV) (hx : Passes CX X E) (hkw : PK X kws tk)
    (hall : (backToKw pos (keywordEach kws X.env)).all (·.1.isSome) = true := by rfl) (hks : (backToKw pos (keywordEach kws X.env)).filterMap (·.1) = ks := by rfl) (hdb : (x == ("__debug__" : Str)) = false := by decide)
    (hpl : ((backTo pos (starEach [] X.env)).any (·.1) || (backToKw pos (keywordEach kws X.env)).any (·.1.isNone)) = false := by rfl) :
    PE X (.Call (.Name x p) [] kws pos) (tCallN ks.length sp gV E tk) := by
  refine ⟨fun pins s σ H Q I h => wpAny_Call_Name_kw (ld_glob I hg hm ?_ hdb)⟩
  refine PySem.W.callWith_KW0 (h₀ := X.base) I.ok.mod.kin hk hall ?_ hpl
  refine thn (hkw.run pos pins s σ H _ I h) fun ws s2 ⟨zs, H2, I2, rz, l2, q2⟩ => ⟨I2.kIn, ?_⟩
  rw [hks]
  have r2 := hb.rel .nil rz
  refine wpAny_call (codeAny_mono (F.run X.A X.stack s2 H2 ⟨[], ks.zip ws⟩ (g [] ws) (gV [] zs) _ E hr I2.env0 (hb.to s2 [] ws I2.kIn rfl (rz.length.symm.trans l2)) r2 q2) fun r s' hq => ?_)
  cases r with
  | error e => exact hx pins σ _ _ e s' I2 hq
  | ok fl =>
    cases fl with
    | ret u => exact I2.after hq
    | next => exact hq.elim
    | brk => exact hq.elim
    | cont => exact hq.elim
end
end Kr

namespace Kr
open PySem PySem.Spec PyProof.Rows L2
/-! ### a list that a call doesn't see stays as it is -/
def del (H : Hp) (z : Addr) : Hp := fun b => if b = z then none else H b
theorem del_ne {H : Hp} {z b : Addr} (h : b ≠ z) : del H z b = H b := if_neg h
theorem del_self {H : Hp} {z : Addr} : del H z z = none := if_pos rfl
theorem del_upd {H : Hp} {z : Addr} {o : HO} (h : H z = none) : del (upd H z o) z = H := by
  funext b
  by_cases e : b = z
  · subst e
    rw [del_self, h]
  · rw [del_ne e, upd_ne e]
section
variable {P : Program} {w : World} {K : PySem.W.Frag} {mg : Str → Option Value} {base : Heap}
theorem objOk_to {H G : Hp} {h : Heap} (ho : ∀ b c, H b = some (.own c) → G b = some (.own c)) (ht : ∀ b xs, H b = some (.tup xs) → G b = some (.tup xs)) {a : Addr} {o : HO} (x : ObjOk P w H h a o) : ObjOk P w G h a o :=
  x.stay (fun _ _ _ e => e) (fun b => ho b a) ht
/-- a def's promise, with a list apart -/
def framed (sp : Sp) : Sp := fun vs H Q E => ∃ (z : Addr) (xs : List V), H z = some (.lst xs) ∧ sp vs (del H z) (fun v H' => H' z = none → Q v (upd H' z (.lst xs))) E
theorem FnOk.frame {k : Nat} {f : Addr} {fd : FuncData} {ps : List Str} {sp : Sp} (F : FnOk P w K mg base CX0 k f fd ps sp) : FnOk P w K mg base CX0 k f fd ps (framed sp) := by
  refine ⟨fun vs H Q E ⟨z, xs, _, h⟩ => F.len _ _ _ _ h, fun A outer s H args us vs Q E hr e0 hb hv ⟨z, xs, hz, h⟩ => ?_⟩
  have dn : ∀ {b : Addr}, H b = none → del H z b = none := fun {b} e => by
    by_cases q : b = z
    · rw [q, del_self]
    · rw [del_ne q, e]
  have du : ∀ {b : Addr} {o : HO}, (∀ ys, o ≠ .lst ys) → H b = some o → del H z b = some o := fun {b o} n e => by
    have q : b ≠ z := fun q => by
      rw [q, hz] at e
      exact n _ (Option.some.inj e).symm
    rw [del_ne q, e]
  have d1 : ∀ {b : Addr} {o : HO}, del H z b = some o → b ≠ z ∧ H b = some o := fun {b o} e => by
    by_cases q : b = z
    · rw [q, del_self] at e; cases e
    · rw [del_ne q] at e; exact ⟨q, e⟩
  have e1 : Env0 P w K mg base A outer s (del H z) :=
    ⟨e0.frames, e0.mod, fun b o e => ⟨(e0.bs b o e).1, dn (e0.bs b o e).2⟩, e0.bsz, e0.funs, fun b hb => dn (e0.frf b hb), fun b o e => objOk_to (fun _ _ q => du (by intro _ z; cases z) q) (fun _ _ q => du (by intro _ z; cases z) q) (e0.hok b o (d1 e).2), e0.bare⟩
  have zf : z ∉ frs outer := fun q => by
    have := e0.frf z q
    rw [hz] at this
    cases this
  obtain ⟨hsz, its, n, rv, ez⟩ := e0.hok z _ hz
  refine codeAny_mono (F.run A outer s (del H z) args us vs _ E hr e1 hb hv h) fun r s' hq => ?_
  cases r with
  | error e => exact hq.elim
  | ok fl =>
    cases fl with
    | next => exact hq
    | brk => exact hq
    | cont => exact hq
    | ret u =>
      obtain ⟨v, H', os, bare, un, hok, r', q⟩ := hq
      have nz : H' z = none := un.free z _ ez del_self (by simp)
      have gz : s'.heap.get? z = _ := un.keep z _ ez del_self zf (by simp)
      have up : ∀ {b : Addr} {o : HO}, H' b = some o → upd H' z (.lst xs) b = some o := fun {b o} e => by
        rw [upd_ne (ne_of_none e nz)]
        exact e
      refine ⟨v, upd H' z (.lst xs), os, bare, ⟨fun b o e n => un.keep b o e (dn n), fun b o e n => un.slot b o e (dn n), fun b o e n hx => ?_, un.there, fun b ys e => up (un.tups b ys (du (by intro _ z; cases z) e)), fun b o t e => up (un.frzs b o t (du (by intro _ z; cases z) e)), fun b ps e => ?_⟩, fun b o e => ?_, r', q nz⟩
      · have q : b ≠ z := fun q => by
          rw [q, hz] at n
          cases n
        rw [upd_ne q]
        exact un.free b o e (dn n) hx
      · obtain ⟨more, g⟩ := un.tbls b ps (du (by intro _ z; cases z) e)
        exact ⟨more, up g⟩
      · by_cases q : b = z
        · subst q
          rw [upd_same] at e
          cases e
          exact ⟨hsz, its, n, rv, gz⟩
        · rw [upd_ne q] at e
          exact objOk_to (fun _ _ q => up q) (fun _ _ q => up q) (hok b o e)
end
end Kr

namespace Kr
open PySem L2
def top (i : Nat) : Stmt := PySem.Challenge.pw_keyriders_k05_whole_deeds_done_and_twice.main.body.getD i (.Pass ⟨0, 0, 0, 0⟩)
abbrev sBetween : Stmt := top 1
abbrev sTupleOf : Stmt := top 2
abbrev sLotErr : Stmt := top 4
abbrev sDeedErr : Stmt := top 6
abbrev sDone : Stmt := top 7
abbrev sDeck : Stmt := top 9
abbrev sDraw : Stmt := top 10
abbrev sPick : Stmt := top 11
abbrev sMixed : Stmt := top 12
abbrev sStanding : Stmt := top 13
abbrev sDeed : Stmt := top 14
abbrev sWhole : Stmt := top 15
abbrev sIsLot : Stmt := top 16
abbrev sDue : Stmt := top 17
abbrev sExch : Stmt := top 18
abbrev sSpoilt : Stmt := top 19
abbrev sKeyed : Stmt := top 20
abbrev sLaw : Stmt := top 21
end Kr

namespace Kr
open PySem PySem.Spec PyProof.Rows L2
/-! ### the deck: a dict of a list and a number, apart from all else -/
def hid (p l : Addr) (H : Hp) : Hp := fun b => if b = p ∨ b = l then none else H b
theorem hid_ne {p l b : Addr} {H : Hp} (h1 : b ≠ p) (h2 : b ≠ l) : hid p l H b = H b := by
  unfold hid
  rw [if_neg (fun h => h.elim h1 h2)]
theorem hid_some {p l b : Addr} {H : Hp} {o : HO} (h : hid p l H b = some o) : b ≠ p ∧ b ≠ l ∧ H b = some o := by
  unfold hid at h
  by_cases e : b = p ∨ b = l
  · rw [if_pos e] at h
    cases h
  · rw [if_neg e] at h
    exact ⟨fun z => e (.inl z), fun z => e (.inr z), h⟩
theorem hid_same (p l : Addr) (H : Hp) : Same (hid p l H) H := fun _ _ h => (hid_some h).2.2
abbrev Ext (p l : Addr) (H H' : Hp) : Prop := Same (hid p l H) (hid p l H')
theorem Ext.of {p l : Addr} {H H' : Hp} (s : Same H H') : Ext p l H H' := fun b o h => by
  obtain ⟨h1, h2, h3⟩ := hid_some h
  rw [hid_ne h1 h2]
  exact s _ _ h3
theorem Ext.rfl {p l : Addr} {H : Hp} : Ext p l H H := Same.refl _
abbrev kD : Key := Sum.inr ("deep" : Str)
abbrev kS : Key := Sum.inr ("state" : Str)
theorem kDS : ¬ kD = kS := by
  intro z
  exact absurd (Sum.inr.inj z) (by decide +kernel)
def dkv (x y : V) : List (Key × V) := [(kD, x), (kS, y)]
theorem dkv_d (x y : V) : valV (dkv x y) kD = some x := valV_pos rfl
theorem dkv_s (x y : V) : valV (dkv x y) kS = some y := (valV_neg kDS).trans (valV_pos rfl)
theorem kds : ¬ ("deep" : Str) = "state" := by decide +kernel
theorem ksd : ¬ ("state" : Str) = "deep" := by decide +kernel
theorem dkv_pd (x y z : V) : putK (dkv x y) kD z = dkv z y := by
  simp [putK, dkv, kds, ksd]
theorem dkv_ps (x y z : V) : putK (dkv x y) kS z = dkv x z := by
  simp [putK, dkv, kds, ksd]
theorem dkv_m (x y : V) : mergeK [] [(kD, x), (kS, y)] = dkv x y := by
  simp [mergeK, putK, dkv, kds, ksd]
structure Deck (H : Hp) (p l : Addr) : Prop where
  ex : ∃ (ds : List Int) (st : Int), H p = some (.dK (dkv (.ref l) (.int st))) ∧ H l = some (.lst (ds.map V.int)) ∧ ds.length ≤ 63
theorem Deck.ne {H : Hp} {p l : Addr} (d : Deck H p l) : p ≠ l := by
  obtain ⟨ds, st, h1, h2, _⟩ := d.ex
  exact ne_of h1 h2 (by intro z; cases z)
theorem Deck.up {H H' : Hp} {p l : Addr} (d : Deck H p l) (s : Same H H') : Deck H' p l := by
  obtain ⟨ds, st, h1, h2, h3⟩ := d.ex
  exact ⟨ds, st, s _ _ h1, s _ _ h2, h3⟩
/-- a new object stands apart -/
theorem Deck.new {H : Hp} {p l q : Addr} (d : Deck H p l) (h : H q = none) : q ≠ p ∧ q ≠ l := by
  obtain ⟨ds, st, h1, h2, h3⟩ := d.ex
  exact ⟨(ne_of_none h1 h).symm, (ne_of_none h2 h).symm⟩
theorem same_new {H : Hp} {q : Addr} {o : HO} (h : H q = none) : Same H (upd H q o) := fun b x e => by
  rw [upd_ne (ne_of_none e h)]
  exact e
theorem hid_upd {H : Hp} {p l q : Addr} {o : HO} (h1 : q ≠ p) (h2 : q ≠ l) : hid p l (upd H q o) q = some o := by
  rw [hid_ne h1 h2, upd_same]
/-- the names of the built-ins are theirs -/
structure Bi (mg : Str → Option Value) : Prop where
  len : mg "len" = none
  abs : mg "abs" = none
  int : mg "int" = none
  bool : mg "bool" = none
  tuple : mg "tuple" = none
  list : mg "list" = none
  range : mg "range" = none
  enumerate : mg "enumerate" = none
  isinstance : mg "isinstance" = none
  repr : mg "repr" = none
  sorted : mg "sorted" = none
  min : mg "min" = none
  max : mg "max" = none
  any : mg "any" = none
  zip : mg "zip" = none
theorem sz {n : Nat} (h : n ≤ 100000) : n ≤ sizeLine := Nat.le_trans h (by decide)
theorem szl {n : Nat} (h : n < 100000) : n < sizeLine := Nat.lt_of_lt_of_le h (by decide)
/-- two ways that meet again -/
theorem join2 {c A : Prop} [Decidable c] {G R : Hp → Prop} {H2 : Hp} (tail : ∀ H3, R H3 → G H3) (h2 : ¬ c → R H2) (h1 : c → (∀ H3, R H3 → G H3) → A) : if c then A else G H2 :=
  ite2 (fun h => h1 h tail) fun h => tail _ (h2 h)
def spDeck (K : PySem.W.Frag) : Sp := fun vs H Q _ => ∃ (a : Addr) (ns : List Int), vs = [.ref a] ∧ SqL K H a (ns.map V.int) ∧ ns.length ≤ 63 ∧ ∀ H' p l, Same H H' → H p = none → H l = none → Deck H' p l → Q (.ref p) H'
section
variable {P : Program} {w : World} {K : PySem.W.Frag} {mg : Str → Option Value} {base : Heap}
theorem scDeck : FnScope ["script", "deck", "cell", "whole", "state"] ["script"] (defScope sDeck) := ⟨rfl, rfl, rfl, by decide +kernel, rfl, by decide +kernel, by decide +kernel⟩
theorem ok_deck {f : Addr} {fd : FuncData} {k : Nat} (F : Fun K "_law_deck" "_law_deck" sDeck f fd) (B : Bi mg) : FnOk P w K mg base CX0 (k + 1) f fd ["script"] (spDeck K) := by
  refine F.ok scDeck (fun vs H Q E h => ?_) (fun cdv A outer s H vs Q E hr h => ?_)
  · obtain ⟨a, ns, rfl, _⟩ := h
    rfl
  · obtain ⟨a, ns, rfl, hS, hlen, q⟩ := h
    have hu := hu_of hr
    refine ⟨_, pss_cons (ps_set (i := 1) scDeck.nd rfl (.inl rfl) (pe_disp (pps_cons pe_str (pe_lst pa_nil) (pps_cons pe_str (pe_op op_add pe_int (pe_callB call_len_seq (by rfl) B.len boot_len (pa_cons (pe_slice sl_list (pv 0) po_none (po_some pe_int)) pa_nil))) pps_nil)) (by rfl) (by rfl) (fun z => by cases z) (by decide)))
      (pss_cons (ps_for PassesOwn.never rfl (pi_list (pe_slice sl_list (pv 0) po_none (po_some pe_int))) (pg_name (i := 2) scDeck.nd rfl (.inl rfl))
        (pss_cons (ps_set (i := 3) scDeck.nd rfl (.inl rfl) (pe_callB call_abs (by rfl) B.abs (by decide +kernel) (pa_cons (pv 2) pa_nil)))
        (pss_cons (ps_if (pt_cmpR op_ge (pv 3) (pe_op op_pow pe_int pe_int) (nomark _)) (pss_one (ps_dput hu (pv 1) pe_str (pe_op op_cat (pe_lst (pa_cons (pv 3) pa_nil)) (pe_dget hu (pv 1) pe_str (fun _ _ => rfl))) rfl)) pss_nil)
        (pss_cons (ps_set (i := 4) scDeck.nd rfl (.inl rfl) (pe_op op_add (pe_op op_mul (pe_op op_add (pe_op op_add (pe_op op_add (pe_dget hu (pv 1) pe_str (fun _ _ => rfl)) (pe_op op_mul pe_int (pv 3))) (pe_callTy call_int1 (by rfl) B.int (by decide +kernel) (pa_cons (pe_cmpR op_lt (pv 2) pe_int (nomark _)) pa_nil))) pe_int) pe_int) pe_int))
        (pss_one (ps_dput hu (pv 1) pe_str (pe_op op_mod (pe_callTy call_int1 (by rfl) B.int (by decide +kernel) (pa_cons (pv 4) pa_nil)) pe_int) rfl))))))
      (pss_one (ps_ret (pv 1)))), ?_⟩
    -- deck = {'deep': [], 'state': .. + len(script[:63])}
    intro p np
    refine ⟨Nat.zero_le _, fun l nl => ?_⟩
    have s0 : Same H (upd (upd H p (.dK [])) l (.lst [])) := (same_new np).trans (same_new nl)
    have nlp : l ≠ p := fun z => by rw [z, upd_same] at nl; cases nl
    have nl0 : H l = none := by rw [upd_ne nlp] at nl; exact nl
    refine ⟨.ref a, rfl, 63, rfl, a, _, rfl, s0.seq hS, fun c nc => ?_⟩
    have ncp : c ≠ p := fun z => by rw [z, upd_ne nlp.symm, upd_same] at nc; cases nc
    have ncl : c ≠ l := fun z => by rw [z, upd_same] at nc; cases nc
    refine ⟨c, _, rfl, .inl (SqL.of upd_same), _, _, rfl, rfl, ?_⟩
    refine ⟨by rw [upd_ne ncp.symm, upd_ne nlp.symm, upd_same], [(kD, V.ref l), (kS, V.int _)], rfl, by show 2 ≤ 15; decide, ?_⟩
    rw [dkv_m]
    generalize (1278727 + ((cutV (ns.map V.int) none (some 63)).length : Int)) = st0
    -- the loop
    have s1 : Same (upd (upd H p (.dK [])) l (.lst [])) (upd (upd (upd H p (.dK [])) l (.lst [])) c (.lst (cutV (ns.map V.int) none (some 63)))) := same_new nc
    generalize hH1 : upd (upd (upd H p (.dK [])) l (.lst [])) c (.lst (cutV (ns.map V.int) none (some 63))) = H1 at s1
    have l1 : H1 l = some (.lst []) := s1 _ _ upd_same
    have s2 : Same H (upd H1 p (.dK (dkv (.ref l) (.int st0)))) := fun b o e => by
      rw [upd_ne (ne_of_none e np)]
      exact s1 _ _ (s0 _ _ e)
    refine ⟨.ref a, rfl, 63, rfl, a, _, rfl, s2.seq hS, fun c2 nc2 => ?_⟩
    have e63 : cutV (ns.map V.int) none (some 63) = ns.map V.int := by
      unfold cutV
      rw [HT.sIx_none, show HT.sIx (ns.map V.int).length (ns.map V.int).length (some 63) = min 63 (ns.map V.int).length from HT.sIx_nat _ _ 63, List.drop_zero, Nat.sub_zero, List.length_map]
      exact List.take_of_length_le (by rw [List.length_map]; omega)
    rw [e63]
    have c2p : c2 ≠ p := fun z => by rw [z, upd_same] at nc2; cases nc2
    have c2l : c2 ≠ l := fun z => by rw [z, upd_ne nlp, l1] at nc2; cases nc2
    refine ⟨c2, rfl, ⟨_, SqL.of upd_same⟩, for_list (K := K) (a := c2) (xs := ns.map V.int) (fun i σ H2 => ∃ v2 v3 v4 l ds st, σ = [some (.ref a), some (.ref p), v2, v3, v4] ∧ Same H H2 ∧ H2 c2 = some (.lst (ns.map V.int)) ∧ H2 p = some (.dK (dkv (.ref l) (.int st))) ∧ H2 l = some (.lst (ds.map V.int)) ∧ ds.length ≤ i ∧ H l = none ∧ c2 ≠ l)
      ⟨none, none, none, l, [], st0, rfl, s2.trans (same_new nc2), upd_same, by rw [upd_ne c2p.symm, upd_same], by rw [upd_ne c2l.symm, upd_ne nlp, l1]; rfl, Nat.le_refl _, nl0, c2l⟩ (fun i σ H2 _ ⟨_, _, _, _, _, _, _, _, h, _⟩ => SqL.of h) ?_ ?_⟩
    · rintro i y σ H2 hi ⟨v2, v3, v4, l, ds, st, rfl, sm, hc, hp, hl, hd, nl, ncl⟩
      have hil : i < ns.length := by
        have := (List.getElem?_eq_some_iff.mp hi).1
        rw [List.length_map] at this
        exact this
      obtain ⟨z, rfl⟩ : ∃ z, y = V.int z := by
        rw [List.getElem?_map] at hi
        cases e : ns[i]? with
        | none => rw [e] at hi; cases hi
        | some z => rw [e] at hi; exact ⟨z, (Option.some.inj hi).symm⟩
      have nlp : l ≠ p := ne_of hl hp (by intro z; cases z)
      refine ⟨.int z, rfl, z, rfl, ?_⟩
      generalize (if z < 0 then -z else z) = wz
      refine ⟨.int wz, rfl, _, _, rfl, rfl, ⟨by decide, by decide, by decide⟩, wz, _, rfl, rfl, _, rfl, ?_⟩
      refine join2 (H2 := H2) (R := fun H3 => ∃ (l3 : Addr) (ds3 : List Int), Same H H3 ∧ H3 c2 = some (.lst (ns.map V.int)) ∧ H3 p = some (.dK (dkv (.ref l3) (.int st))) ∧ H3 l3 = some (.lst (ds3.map V.int)) ∧ ds3.length ≤ i + 1 ∧ H l3 = none ∧ c2 ≠ l3 ∧ l3 ≠ p)
        (fun H3 hR => ?_) (fun _ => ⟨l, ds, sm, hc, hp, hl, by omega, nl, ncl, nlp⟩) (fun _ tail => ?_)
      rotate_left
      · refine ⟨.int wz, rfl, by show 1 ≤ sizeLine; decide, fun l1 nl1 => ⟨.ref p, rfl, p, .ref l, rfl, ?_⟩⟩
        have n1p : l1 ≠ p := (ne_of_none hp nl1).symm
        have n1l : l1 ≠ l := (ne_of_none hl nl1).symm
        have n1c : l1 ≠ c2 := (ne_of_none hc nl1).symm
        have hp1 : upd H2 l1 (.lst [.int wz]) p = some (.dK (dkv (.ref l) (.int st))) := by rw [upd_ne n1p.symm]; exact hp
        refine ⟨by rw [← dkv_d (.ref l) (.int st)]; exact DGet.k (k := kD) hp1, l1, l, _, _, rfl, rfl, upd_same, by rw [upd_ne n1l.symm]; exact hl, by rw [List.length_map]; exact sz (by show 1 + ds.length ≤ 100000; omega), fun l2 nl2 => ?_⟩
        have n2p : l2 ≠ p := (ne_of_none hp1 nl2).symm
        have n2c : l2 ≠ c2 := fun z => by rw [z, upd_ne n1c.symm, hc] at nl2; cases nl2
        have sm2 : Same H (upd (upd H2 l1 (.lst [.int wz])) l2 (.lst ([.int wz] ++ ds.map V.int))) := (sm.trans (same_new nl1)).trans (same_new nl2)
        have hp2 : (upd (upd H2 l1 (.lst [.int wz])) l2 (.lst ([.int wz] ++ ds.map V.int))) p = some (.dK (dkv (.ref l) (.int st))) := by rw [upd_ne n2p.symm]; exact hp1
        refine ⟨.ref p, rfl, p, _, rfl, DPut.k (k := kD) hp2 (by show 2 < sizeLine; decide), ?_⟩
        rw [dkv_pd]
        have nl2' : H l2 = none := (sm.trans (same_new nl1)).free nl2
        refine tail (upd (upd (upd H2 l1 (.lst [.int wz])) l2 (.lst ([.int wz] ++ ds.map V.int))) p (.dK (dkv (.ref l2) (.int st)))) ⟨l2, wz :: ds, (fun b o e => by rw [upd_ne (ne_of_none e np)]; exact sm2 _ _ e), ?_, upd_same, ?_, (by rw [List.length_cons]; omega), nl2', n2c.symm, n2p⟩
        · rw [upd_ne c2p, upd_ne n2c.symm, upd_ne n1c.symm]
          exact hc
        · rw [upd_ne n2p, upd_same]
          rfl
      · obtain ⟨l3, ds3, sm3, hc3, hp3, hl3, hd3, nl3, ncl3, nlp3⟩ := hR
        refine ⟨.ref p, rfl, p, .int st, rfl, by rw [← dkv_s (.ref l3) (.int st)]; exact DGet.k (k := kS) hp3, ?_⟩
        refine ⟨.int wz, rfl, 2, wz, rfl, rfl, .inl ⟨by decide, by decide⟩, st, 2 * wz, rfl, rfl, ?_⟩
        refine ⟨.int z, rfl, z, 0, rfl, rfl, .inr ⟨_, rfl, ?_⟩⟩
        refine ⟨_, _, rfl, rfl, _, 1, rfl, rfl, _, 1181783497276652981, rfl, rfl, .inr ⟨by decide, by decide⟩, _, 521288629, rfl, rfl, ?_⟩
        refine ⟨_, rfl, .inl ⟨_, rfl, ?_⟩⟩
        refine ⟨_, 2305843009213693951, rfl, rfl, by show (0 : Int) < 2305843009213693951; decide, .ref p, rfl, p, _, rfl, DPut.k (k := kS) hp3 (by show 2 < sizeLine; decide), ?_⟩
        rw [dkv_ps]
        refine ⟨_, _, _, l3, ds3, _, rfl, fun b o e => ?_, ?_, upd_same, ?_, hd3, nl3, ncl3⟩
        · rw [upd_ne (ne_of_none e np)]
          exact sm3 _ _ e
        · rw [upd_ne c2p]
          exact hc3
        · rw [upd_ne nlp3]
          exact hl3
    · rintro σ H2 ⟨v2, v3, v4, l, ds, st, rfl, sm, hc, hp, hl, hd, nl, ncl⟩
      rw [List.length_map] at hd
      exact ⟨.ref p, rfl, q H2 p l sm np nl ⟨ds, st, hp, hl, by omega⟩⟩
end
end Kr

namespace Kr
open PySem PySem.Spec PyProof.Rows L2
def spDraw : Sp := fun vs H Q _ => ∃ (p l : Addr) (m : Int), vs = [.ref p, .int m] ∧ Deck H p l ∧ m < 1073741824 ∧ ∀ H' r, Deck H' p l → Ext p l H H' → 0 ≤ r → (r < m ∨ r = 0) → Q (.int r) H'
theorem dp_ints {K : PySem.W.Frag} {H : Hp} : ∀ ds : List Int, DpAll K H (ds.map V.int) (ds.map PyData.int)
  | [] => .nil
  | d :: ds => .cons (.int d) (dp_ints ds)
theorem lay_ints : ∀ ds : List Int, PyData.canLayAll0 (ds.map PyData.int) = true
  | [] => by simp [PyData.canLayAll0]
  | d :: ds => by simp [PyData.canLayAll0, PyData.canLay0, lay_ints ds]
theorem dep_ints : ∀ ds : List Int, PyData.depthAll (ds.map PyData.int) ≤ 1
  | [] => by simp [PyData.depthAll]
  | d :: ds => by
    have := dep_ints ds
    simp [PyData.depthAll, PyData.depth]
    omega
theorem shaped_ints (ds : List Int) : SeqAt.shaped (.list (ds.map PyData.int)) = true := by
  unfold SeqAt.shaped
  have := dep_ints ds
  simp [PyData.canLay0, lay_ints ds, PyData.depth]
  omega
theorem eqv_ints_nil (ds : List Int) : PyData.eqv (.list (ds.map PyData.int)) (.list []) = decide (ds = []) := by
  cases ds <;> simp [PyData.eqv, PyData.eqvAll]
theorem Ext.new {p l q : Addr} {H H' : Hp} {o : HO} (e : Ext p l H H') (h : H' q = none) : Ext p l H (upd H' q o) := fun b x hb => by
  have h2 := e b x hb
  obtain ⟨h3, h4, h5⟩ := hid_some h2
  rw [hid_ne h3 h4, upd_ne (ne_of_none h5 h)]
  exact h5
theorem Ext.at {p l q : Addr} {H H' : Hp} {o : HO} (e : Ext p l H H') (h : q = p ∨ q = l) : Ext p l H (upd H' q o) := fun b x hb => by
  have h2 := e b x hb
  obtain ⟨h3, h4, h5⟩ := hid_some h2
  have hq : b ≠ q := fun z => h.elim (fun w => h3 (z.trans w)) fun w => h4 (z.trans w)
  rw [hid_ne h3 h4, upd_ne hq]
  exact h5
section
variable {P : Program} {w : World} {K : PySem.W.Frag} {mg : Str → Option Value} {base : Heap}
theorem scDraw : FnScope ["deck", "many", "whole", "one", "two"] ["deck", "many"] (defScope sDraw) := ⟨rfl, rfl, rfl, by decide +kernel, rfl, by decide +kernel, by decide +kernel⟩
theorem ok_draw {f : Addr} {fd : FuncData} {k : Nat} (F : Fun K "_law_draw" "_law_draw" sDraw f fd) (B : Bi mg) : FnOk P w K mg base CX0 (k + 1) f fd ["deck", "many"] spDraw := by
  refine F.ok scDraw (fun vs H Q E h => ?_) (fun cdv A outer s H vs Q E hr h => ?_)
  · obtain ⟨p, l, m, rfl, _⟩ := h
    rfl
  · obtain ⟨p, l, m, rfl, D, hm, q⟩ := h
    have hu := hu_of hr
    refine ⟨_, pss_cons (ps_if (pt_cmpR op_lt (pv 1) pe_int (nomark _)) (pss_one (ps_ret pe_int)) pss_nil)
      (pss_cons (ps_if (pt_cmpR (op_neD hr.units) (pe_dget hu (pv 0) pe_str (fun _ _ => rfl)) (pe_lst pa_nil) (nomark _))
        (pss_cons (ps_set (i := 2) scDraw.nd rfl (.inl rfl) (pe_bm0 PySem.F.plainAttrs_list PySem.F.slot_list_pop PySem.F.type_list_pop mt_pop (pe_dget hu (pv 0) pe_str (fun _ _ => rfl))))
        (pss_cons (ps_if (pt_cmpR op_ge (pv 2) (pv 1) (nomark _)) (pss_one (ps_expr (pe_bm PySem.F.plainAttrs_list PySem.F.slot_list_append PySem.F.type_list_append mt_append (pe_dget hu (pv 0) pe_str (fun _ _ => rfl)) (pa_cons (pe_op op_fdiv (pv 2) (pv 1)) pa_nil)))) pss_nil)
        (pss_one (ps_ret (pe_op op_mod (pe_callTy call_int1 (by rfl) B.int (by decide +kernel) (pa_cons (pv 2) pa_nil)) (pv 1)))))) pss_nil)
      (pss_cons (ps_set (i := 3) scDraw.nd rfl (.inl rfl) (pe_op op_mod (pe_callTy call_int1 (by rfl) B.int (by decide +kernel) (pa_cons (pe_op op_add (pe_op op_mul (pe_dget hu (pv 0) pe_str (fun _ _ => rfl)) pe_int) pe_int) pa_nil)) pe_int))
      (pss_cons (ps_dput hu (pv 0) pe_str (pv 3) rfl)
      (pss_cons (ps_set (i := 4) scDraw.nd rfl (.inl rfl) (pe_op op_mod (pe_callTy call_int1 (by rfl) B.int (by decide +kernel) (pa_cons (pe_op op_add (pe_op op_add (pe_op op_mul (pv 3) (pv 3)) (pe_op op_mul pe_int (pv 3))) pe_int) pa_nil)) pe_int))
      (pss_one (ps_ret (pe_op op_mod (pe_callTy call_int1 (by rfl) B.int (by decide +kernel) (pa_cons (pe_op op_fdiv (pv 4) pe_int) pa_nil)) (pv 1)))))))), ?_⟩
    refine ⟨.int m, rfl, m, 2, rfl, rfl, _, rfl, ite2 (fun _ => ?_) (fun hm2 => ?_)⟩
    · exact q H 0 D Ext.rfl (Int.le_refl _) (.inr rfl)
    have hm1 : ¬ m < 2 := fun z => hm2 (decide_eq_true z)
    obtain ⟨ds, st, hp, hl, hd⟩ := id D.ex
    have hgd : DGet H p (V.str "deep") (some (.ref l)) := by rw [← dkv_d (.ref l) (.int st)]; exact DGet.k (k := kD) hp
    refine ⟨.ref p, rfl, p, .ref l, rfl, hgd, by show 0 ≤ sizeLine; decide, fun e ne => ?_⟩
    have nep : e ≠ p := (ne_of_none hp ne).symm
    have nel : e ≠ l := (ne_of_none hl ne).symm
    have nlp : l ≠ p := D.ne.symm
    refine ⟨.list (ds.map PyData.int), .list [], .lst (SqL.of (by rw [upd_ne nel.symm]; exact hl)) (dp_ints ds), .lst (SqL.of upd_same) .nil, shaped_ints ds, shaped_ints [], ?_⟩
    rw [eqv_ints_nil]
    have hp1 : upd H e (.lst []) p = some (.dK (dkv (.ref l) (.int st))) := by rw [upd_ne nep.symm]; exact hp
    have hl1 : upd H e (.lst []) l = some (.lst (ds.map V.int)) := by rw [upd_ne nel.symm]; exact hl
    have E1 : Ext p l H (upd H e (.lst [])) := Ext.rfl.new ne
    generalize upd H e (.lst []) = H1 at hp1 hl1 E1
    have hgd1 : DGet H1 p (V.str "deep") (some (.ref l)) := by rw [← dkv_d (.ref l) (.int st)]; exact DGet.k (k := kD) hp1
    have hgs1 : DGet H1 p (V.str "state") (some (.int st)) := by rw [← dkv_s (.ref l) (.int st)]; exact DGet.k (k := kS) hp1
    refine ⟨_, rfl, ?_⟩
    by_cases hds : ds = []
    · -- mixed numbers
      rw [decide_eq_true hds]
      refine iteF ?_
      refine ⟨.ref p, rfl, p, .int st, rfl, hgs1, _, _, rfl, rfl, .inr ⟨by decide, by decide⟩, _, _, rfl, rfl, .inl ⟨_, rfl, _, _, rfl, rfl, (by show (0 : Int) < 2305843009213693951; decide), ?_⟩⟩
      dsimp only
      have o0 : 0 ≤ ((st * 1181783497276652981 + 88172645463325) % 2305843009213693951 : Int) := Int.emod_nonneg _ (by decide)
      have o1 : ((st * 1181783497276652981 + 88172645463325) % 2305843009213693951 : Int) < 2305843009213693951 := Int.emod_lt_of_pos _ (by decide)
      generalize ((st * 1181783497276652981 + 88172645463325) % 2305843009213693951 : Int) = one at o0 o1
      refine ⟨.int one, rfl, .ref p, rfl, p, _, rfl, DPut.k (k := kS) hp1 (by show 2 < sizeLine; decide), ?_⟩
      rw [dkv_ps]
      refine ⟨.int one, rfl, .int one, rfl, _, _, rfl, rfl, .inl ⟨by omega, by omega⟩, .int one, rfl, _, _, rfl, rfl, .inl ⟨by decide, by decide⟩, _, _, rfl, rfl, _, _, rfl, rfl, .inl ⟨_, rfl, _, _, rfl, rfl, (by show (0 : Int) < 2305843009213693921; decide), ?_⟩⟩
      dsimp only
      generalize ((one * one + 374761393 * one + 11) % 2305843009213693921 : Int) = two
      refine ⟨.int two, rfl, _, _, rfl, rfl, ⟨by decide, by decide⟩, .inl ⟨_, rfl, .int m, rfl, _, _, rfl, rfl, (by show 0 < m; omega), ?_⟩⟩
      refine q _ _ ⟨ds, one, upd_same, by rw [upd_ne nlp]; exact hl1, hd⟩ (E1.at (.inl rfl)) (Int.emod_nonneg _ (by omega)) (.inl (Int.emod_lt_of_pos _ (by omega)))
    · -- a digit of a great cell
      rw [decide_eq_false hds]
      refine iteT ?_
      obtain ⟨last, hlast⟩ : ∃ y, ds[ds.length - 1]? = some y := ⟨_, List.getElem?_eq_getElem (by
        have := List.length_pos_iff.mpr hds
        omega)⟩
      refine ⟨.ref p, rfl, p, .ref l, rfl, hgd1, .inl ⟨rfl, _, SqL.of hl1⟩, l, _, .int last, rfl, rfl, hl1, by rw [List.length_map, List.getElem?_map, hlast]; rfl, ?_⟩
      rw [← List.map_dropLast]
      have hdl : ds.dropLast.length ≤ 62 := by rw [List.length_dropLast]; omega
      have hp2 : upd H1 l (.lst (ds.dropLast.map V.int)) p = some (.dK (dkv (.ref l) (.int st))) := by rw [upd_ne nlp.symm]; exact hp1
      have hl2 : upd H1 l (.lst (ds.dropLast.map V.int)) l = some (.lst (ds.dropLast.map V.int)) := upd_same
      have E2 : Ext p l H (upd H1 l (.lst (ds.dropLast.map V.int))) := E1.at (.inr rfl)
      generalize ds.dropLast = ds2 at hdl hp2 hl2 E2
      generalize upd H1 l (.lst (ds2.map V.int)) = H2 at hp2 hl2 E2
      have hgd2 : DGet H2 p (V.str "deep") (some (.ref l)) := by rw [← dkv_d (.ref l) (.int st)]; exact DGet.k (k := kD) hp2
      refine ⟨.int last, rfl, .int m, rfl, _, _, rfl, rfl, _, rfl, ?_⟩
      refine join2 (H2 := H2) (R := fun H3 => ∃ ds3 : List Int, H3 p = some (.dK (dkv (.ref l) (.int st))) ∧ H3 l = some (.lst (ds3.map V.int)) ∧ ds3.length ≤ 63 ∧ Ext p l H H3)
        (fun H3 hR => ?_) (fun _ => ⟨ds2, hp2, hl2, by omega, E2⟩) (fun _ tail => ?_)
      · obtain ⟨ds3, hp3, hl3, hd3, E3⟩ := hR
        refine ⟨.int last, rfl, .inl ⟨_, rfl, .int m, rfl, _, _, rfl, rfl, (by show 0 < m; omega), ?_⟩⟩
        exact q _ _ ⟨ds3, st, hp3, hl3, hd3⟩ E3 (Int.emod_nonneg _ (by omega)) (.inl (Int.emod_lt_of_pos _ (by omega)))
      · refine ⟨.ref p, rfl, p, .ref l, rfl, hgd2, .inl ⟨rfl, _, SqL.of hl2⟩, .int last, rfl, .int m, rfl, _, _, rfl, rfl, ⟨by omega, hm⟩, l, _, _, rfl, rfl, hl2, szl (by rw [List.length_map]; omega), ?_⟩
        refine tail _ ⟨ds2 ++ [last / m], by rw [upd_ne nlp.symm]; exact hp2, ?_, by rw [List.length_append]; show _ + 1 ≤ 63; omega, E2.at (.inr rfl)⟩
        rw [upd_same, List.map_append]
        rfl
end
end Kr

namespace Kr
open PySem PySem.Spec PyProof.Rows L2
/-! ### defs by their names -/
structure Df (K : PySem.W.Frag) (mg : Str → Option Value) (x : Str) (st : Stmt) (ps : List Str) : Prop where
  ex : ∃ f fd, Fun K x x st f fd ∧ Binds K fd ps [] ∧ mg x = some (.ref f)
structure Ok (P : Program) (w : World) (K : PySem.W.Frag) (mg : Str → Option Value) (base : Heap) (k : Nat) (x : Str) (ps : List Str) (sp : Sp) : Prop where
  ex : ∃ f fd, FnOk P w K mg base CX0 k f fd ps sp ∧ PySem.W.keepIn K (.ref f) = true ∧ mg x = some (.ref f) ∧ Binds K fd ps []
section
variable {P : Program} {w : World} {K : PySem.W.Frag} {mg : Str → Option Value} {base : Heap}
theorem Df.ok {x : Str} {st : Stmt} {ps : List Str} {k : Nat} {sp : Sp} (D : Df K mg x st ps) (h : ∀ f fd, Fun K x x st f fd → FnOk P w K mg base CX0 k f fd ps sp) : Ok P w K mg base k x ps sp := by
  obtain ⟨f, fd, F, b, g⟩ := D.ex
  exact ⟨f, fd, h f fd F, F.kp, g, b⟩
theorem Ok.mono {x : Str} {ps : List Str} {j k : Nat} {sp : Sp} (D : Ok P w K mg base j x ps sp) (h : j ≤ k) : Ok P w K mg base k x ps sp := by
  obtain ⟨f, fd, F, r⟩ := D.ex
  exact ⟨f, fd, F.mono h, r⟩
end
theorem pe_fn {X : Cx} {k : Nat} {x : Str} {ps : List Str} {sp : Sp} {p pos : Pos} {e : Expr} {es : List Expr} {t : TA} (D : Ok X.prog X.w X.K X.mg X.base k x ps sp) (hr : Room k X.A) (hg : Gl X x) (ha : PA X (e :: es) t)
    (hdb : (x == ("__debug__" : Str)) = false := by decide) (he : starEach (e :: es) X.env = (false, eval e X.env) :: starEach es X.env := by rfl) (hpl : (backTo pos (starEach es X.env)).any (·.1) = false := by rfl) :
    PE X (.Call (.Name x p) (e :: es) [] pos) (tCall sp [] E0 t) := by
  obtain ⟨f, fd, F, kp, g, b⟩ := D.ex
  exact pe_call F hr hg g kp b .nil pass0 ha hdb he hpl
theorem atI_int {α : Type} {xs : List α} {r : Int} {v : α} (h0 : 0 ≤ r) (h : xs[r.toNat]? = some v) : atI xs r = some v := by
  have e : r = ((r.toNat : Nat) : Int) := by omega
  rw [e]
  exact atI_nat h
/-- one of some items -/
def spPick : Sp := fun vs H Q _ => ∃ (p l a : Addr) (xs : List V), vs = [.ref p, .ref a] ∧ Deck H p l ∧ hid p l H a = some (.lst xs) ∧ xs ≠ [] ∧ xs.length < 1000000 ∧ ∀ H' v, Deck H' p l → Ext p l H H' → v ∈ xs → Q v H'
section
variable {P : Program} {w : World} {K : PySem.W.Frag} {mg : Str → Option Value} {base : Heap}
theorem o_draw (D : Df K mg "_law_draw" sDraw ["deck", "many"]) (B : Bi mg) : Ok P w K mg base 1 "_law_draw" ["deck", "many"] spDraw := D.ok fun _ _ F => ok_draw F B
theorem o_deck (D : Df K mg "_law_deck" sDeck ["script"]) (B : Bi mg) : Ok P w K mg base 1 "_law_deck" ["script"] (spDeck K) := D.ok fun _ _ F => ok_deck F B
theorem scPick : FnScope ["deck", "items"] ["deck", "items"] (defScope sPick) := ⟨rfl, rfl, rfl, by decide +kernel, rfl, by decide +kernel, by decide +kernel⟩
theorem o_pick (D : Df K mg "_law_pick" sPick ["deck", "items"]) (B : Bi mg) (d : Ok P w K mg base 1 "_law_draw" ["deck", "many"] spDraw) : Ok P w K mg base 2 "_law_pick" ["deck", "items"] spPick := by
  refine D.ok fun f fd F => F.ok scPick (fun vs H Q E h => ?_) (fun cdv A outer s H vs Q E hr h => ?_)
  · obtain ⟨p, l, a, xs, rfl, _⟩ := h
    rfl
  · obtain ⟨p, l, a, xs, rfl, Dk, ha, hne, hlen, q⟩ := h
    refine ⟨_, pss_one (ps_ret (pe_ix ix_list (pv 1) (pe_fn d hr (by rfl) (pa_cons (pv 0) (pa_cons (pe_callB call_len_seq (by rfl) B.len boot_len (pa_cons (pv 1) pa_nil)) pa_nil))) (fun _ _ => rfl))), ?_⟩
    have hpos := List.length_pos_iff.mpr hne
    refine ⟨.ref a, rfl, .ref p, rfl, .ref a, rfl, a, xs, rfl, .inl (SqL.of (hid_same p l H _ _ ha)), p, l, _, rfl, Dk, by show (xs.length : Int) < 1073741824; omega, fun H' r Dk' e h0 h1 => ?_⟩
    have hr2 : r.toNat < xs.length := by omega
    refine ⟨a, xs, r, xs[r.toNat], rfl, rfl, SqL.of (hid_same p l H' _ _ (e _ _ ha)), ?_, q H' _ Dk' e (List.getElem_mem hr2)⟩
    exact atI_int h0 (List.getElem?_eq_getElem hr2)
end
end Kr

namespace Kr
open PySem PySem.Spec PyProof.Rows L2
theorem free_of : ∀ (n : Nat) (L : List Int), L.length < n → ∃ v : Int, 1 ≤ v ∧ v ≤ n ∧ v ∉ L
  | 0, L, h => absurd h (Nat.not_lt_zero _)
  | n + 1, L, h => by
    by_cases hm : ((n + 1 : Nat) : Int) ∈ L
    · have hl : (L.erase ((n + 1 : Nat) : Int)).length < n := by
        rw [List.length_erase_of_mem hm]
        have := List.length_pos_of_mem hm
        omega
      obtain ⟨v, h1, h2, h3⟩ := free_of n _ hl
      refine ⟨v, h1, by omega, fun hv => h3 ?_⟩
      exact (List.mem_erase_of_ne (by omega)).mpr hv
    · exact ⟨_, by omega, Int.le_refl _, hm⟩
theorem inV_ints (r : Int) (ns : List Int) : inV (.int r) (ns.map V.int) = decide (r ∈ ns) := by
  unfold inV
  rw [Bool.eq_iff_iff]
  simp [eqV]
theorem flat_ints (ns : List Int) : (ns.map V.int).all flatV = true := by
  simp [flatV]
theorem Ext.mut {p l f : Addr} {H H' : Hp} {o : HO} (e : Ext p l H H') (h : H f = none) : Ext p l H (upd H' f o) := fun b x hb => by
  obtain ⟨_, _, h5⟩ := hid_some hb
  obtain ⟨h1, h2, h3⟩ := hid_some (e b x hb)
  rw [hid_ne h1 h2, upd_ne (ne_of_none h5 h)]
  exact h3
theorem Deck.mut {H : Hp} {p l f : Addr} {o : HO} (d : Deck H p l) (h1 : f ≠ p) (h2 : f ≠ l) : Deck (upd H f o) p l := by
  obtain ⟨ds, st, a, b, c⟩ := d.ex
  exact ⟨ds, st, by rw [upd_ne h1.symm]; exact a, by rw [upd_ne h2.symm]; exact b, c⟩
theorem Ext.free {p l f : Addr} {H H' : Hp} (e : Ext p l H H') (h : H' f = none) (h1 : f ≠ p) (h2 : f ≠ l) : H f = none := by
  cases q : H f with
  | none => rfl
  | some o =>
    have := (hid_some (e f o (by rw [hid_ne h1 h2]; exact q))).2.2
    rw [h] at this
    cases this
/-- a standing: whole numbers from 0 to 99 -/
def spStanding : Sp := fun vs H Q _ => ∃ (p l : Addr) (m : Int), vs = [.ref p, .int m] ∧ Deck H p l ∧ 0 ≤ m ∧ m ≤ 90 ∧
  ∀ (H' : Hp) (t : Addr) (ns : List Int), Deck H' p l → Ext p l H H' → hid p l H' t = some (.tup (ns.map V.int)) → ns.length = m.toNat → (∀ n ∈ ns, 0 ≤ n ∧ n ≤ 99) → Q (.ref t) H'
section
variable {P : Program} {w : World} {K : PySem.W.Frag} {mg : Str → Option Value} {base : Heap}
theorem scStanding : FnScope ["deck", "many", "share", "found", "place", "rider"] ["deck", "many"] (defScope sStanding) := ⟨rfl, rfl, rfl, by decide +kernel, rfl, by decide +kernel, by decide +kernel⟩
theorem o_standing (D : Df K mg "_law_standing" sStanding ["deck", "many"]) (B : Bi mg) (d : Ok P w K mg base 1 "_law_draw" ["deck", "many"] spDraw) (dp : Ok P w K mg base 2 "_law_pick" ["deck", "items"] spPick) :
    Ok P w K mg base 3 "_law_standing" ["deck", "many"] spStanding := by
  refine D.ok fun f fd F => F.ok scStanding (fun vs H Q E h => ?_) (fun cdv A outer s H vs Q E hr h => ?_)
  · obtain ⟨p, l, m, rfl, _⟩ := h
    rfl
  · obtain ⟨p, l, m, rfl, Dk, hm0, hm1, q⟩ := h
    have hr1 := hr.mono (show 1 ≤ 2 by decide)
    refine ⟨_, pss_cons (ps_par (i := 2) (j := 3) rfl scStanding.nd rfl rfl (by decide) rfl rfl (pa_cons (pe_fn dp hr (by rfl) (pa_cons (pv 0) (pa_cons (pe_lst (pa_cons pe_int (pa_cons pe_int (pa_cons pe_int (pa_cons pe_int (pa_cons pe_int (pa_cons pe_int pa_nil))))))) pa_nil))) (pa_cons (pe_lst pa_nil) pa_nil)) (by rfl))
      (pss_cons (ps_for PassesOwn.never rfl (pi_range1 (by rfl) B.range (pa_cons (pv 1) pa_nil)) (pg_name (i := 4) scStanding.nd rfl (.inl rfl))
        (pss_one (ps_if (pt_cmpR op_lt (pe_fn d hr1 (by rfl) (pa_cons (pv 0) (pa_cons pe_int pa_nil))) (pv 2) (nomark _))
          (pss_one (ps_expr (pe_bm PySem.F.plainAttrs_list PySem.F.slot_list_append PySem.F.type_list_append mt_append (pv 3) (pa_cons pe_int pa_nil))))
          (pss_cons (ps_set (i := 5) scStanding.nd rfl (.inl rfl) (pe_op op_add pe_int (pe_fn d hr1 (by rfl) (pa_cons (pv 0) (pa_cons pe_int pa_nil)))))
          (pss_cons (ps_while PassesOwn.never (pt_cmpR op_in_seq (pv 5) (pv 3) rfl) (pss_one (ps_set (i := 5) scStanding.nd rfl (.inl rfl) (pe_op op_add (pe_op op_mod (pe_callTy call_int1 (by rfl) B.int (by decide +kernel) (pa_cons (pv 5) pa_nil)) pe_int) pe_int))))
          (pss_one (ps_expr (pe_bm PySem.F.plainAttrs_list PySem.F.slot_list_append PySem.F.type_list_append mt_append (pv 3) (pa_cons (pv 5) pa_nil)))))))))
      (pss_one (ps_ret (pe_callTy call_tuple_of (by rfl) B.tuple (by decide +kernel) (pa_cons (pv 3) pa_nil))))), ?_⟩
    refine ⟨.ref p, rfl, by show 6 ≤ sizeLine; decide, fun a na => ?_⟩
    have Dk1 := Dk.up (same_new (o := .lst [.int 1, .int 2, .int 3, .int 4, .int 0, .int 5]) na)
    obtain ⟨nap, nal⟩ := Dk.new na
    refine ⟨p, l, a, _, rfl, Dk1, hid_upd nap nal, by simp, by show 6 < 1000000; decide, fun H1 v Dk2 E1 hv => ?_⟩
    obtain ⟨sh, rfl⟩ : ∃ sh : Int, v = .int sh := by
      simp only [List.mem_cons, List.not_mem_nil, or_false] at hv
      rcases hv with rfl | rfl | rfl | rfl | rfl | rfl <;> exact ⟨_, rfl⟩
    refine ⟨by show 0 ≤ sizeLine; decide, fun f nf => ?_⟩
    obtain ⟨nfp, nfl⟩ := Dk2.new nf
    refine ⟨_, _, rfl, ?_⟩
    have E1' : Ext p l H H1 := (Ext.of (same_new na)).trans E1
    have nf0 : H f = none := E1'.free nf nfp nfl
    refine ⟨.int m, rfl, m, rfl, by omega, by omega, for_range (n := m.toNat) (fun i σ H2 => ∃ (v4 v5 : Option V) (ns : List Int), σ = [some (.ref p), some (.int m), some (.int sh), some (.ref f), v4, v5] ∧ Deck H2 p l ∧ Ext p l H H2 ∧ H2 f = some (.lst (ns.map V.int)) ∧ ns.length = i ∧ ∀ n ∈ ns, 0 ≤ n ∧ n ≤ 99)
      ⟨none, none, [], rfl, Dk2.mut nfp nfl, E1'.mut nf0, upd_same, rfl, fun n h => nomatch h⟩ ?_ ?_⟩
    · rintro i σ H2 hi ⟨v4, v5, ns, rfl, Dk3, E3, hf, hn, hb⟩
      refine ⟨.ref p, rfl, p, l, 5, rfl, Dk3, by decide, fun H3 r Dk4 E4 r0 r1 => ?_⟩
      have hf4 : H3 f = some (.lst (ns.map V.int)) := (hid_some (E4 f _ (by rw [hid_ne nfp nfl]; exact hf))).2.2
      have E4' : Ext p l H H3 := E3.trans E4
      refine ⟨.int sh, rfl, _, _, rfl, rfl, _, rfl, ite2 (fun _ => ?_) (fun _ => ?_)⟩
      · refine ⟨.ref f, rfl, .inl ⟨rfl, _, SqL.of hf4⟩, f, _, .int 0, rfl, rfl, hf4, szl (by rw [List.length_map]; omega), ?_⟩
        refine ⟨_, _, ns ++ [0], rfl, Dk4.mut nfp nfl, E4'.mut nf0, by rw [upd_same, List.map_append]; rfl, by rw [List.length_append, hn]; rfl, fun n h => ?_⟩
        rcases List.mem_append.mp h with h | h
        · exact hb n h
        · rw [List.mem_singleton.mp h]; omega
      · refine ⟨.ref p, rfl, p, l, 99, rfl, Dk4, by decide, fun H5 r' Dk5 E5 r0' r1' => ⟨_, _, rfl, rfl, ?_⟩⟩
        have hf5 : H5 f = some (.lst (ns.map V.int)) := (hid_some (E5 f _ (by rw [hid_ne nfp nfl]; exact hf4))).2.2
        have E5' : Ext p l H H5 := E4'.trans E5
        obtain ⟨v, w1, w2, w3⟩ := free_of 99 ns (by omega)
        refine while_by (fun σ H6 => ∃ (v4 : Option V) (rd : Int), σ = [some (.ref p), some (.int m), some (.int sh), some (.ref f), v4, some (.int rd)] ∧ H6 = H5 ∧ 1 ≤ rd ∧ rd ≤ 99)
          (fun σ H6 => match σ with | [_, _, _, _, _, some (.int rd)] => ((v - rd) % 99).toNat | _ => 0) ⟨_, _, rfl, rfl, by omega, by omega⟩ ?_ ?_
        · rintro σ H6 ⟨v4, rd, rfl, rfl, d0, d1⟩
          refine ⟨.int rd, rfl, .ref f, rfl, f, _, rfl, .inl (SqL.of hf5), rfl, flat_ints ns, _, rfl, ?_⟩
          rw [show (if false = true then !inV (V.int rd) (ns.map V.int) else inV (V.int rd) (ns.map V.int)) = decide (rd ∈ ns) from inV_ints rd ns]
          refine ite2 (fun hin => ?_) (fun hnin => ?_)
          · refine ⟨.int rd, rfl, .inl ⟨_, rfl, _, _, rfl, rfl, (by show (0 : Int) < 99; decide), _, _, rfl, rfl, ?_⟩⟩
            have hne : rd ≠ v := fun z => w3 (z ▸ of_decide_eq_true hin)
            refine ⟨⟨_, _, rfl, rfl, by omega, by omega⟩, ?_⟩
            show ((v - (rd % 99 + 1)) % 99).toNat < ((v - rd) % 99).toNat
            omega
          · refine ⟨.ref f, rfl, .inl ⟨rfl, _, SqL.of hf5⟩, .int rd, rfl, f, _, .int rd, rfl, rfl, hf5, szl (by rw [List.length_map]; omega), ?_⟩
            refine ⟨_, _, ns ++ [rd], rfl, Dk5.mut nfp nfl, E5'.mut nf0, by rw [upd_same, List.map_append]; rfl, by rw [List.length_append, hn]; rfl, fun n h => ?_⟩
            rcases List.mem_append.mp h with h | h
            · exact hb n h
            · rw [List.mem_singleton.mp h]; omega
        · rintro σ H6 Q1 Q2 hq ⟨x, hx, y, hy, pp, xs, e1, e2, e3, e4, kk, e5, e6⟩
          exact ⟨x, hx, y, hy, pp, xs, e1, e2, e3, e4, kk, e5, hq _ _ e6⟩
    · rintro σ H2 ⟨v4, v5, ns, rfl, Dk3, E3, hf, hn, hb⟩
      refine ⟨.ref f, rfl, f, _, rfl, .inl ⟨SqL.of hf, fun t nt => ?_⟩⟩
      obtain ⟨ntp, ntl⟩ := Dk3.new nt
      exact q _ t ns (Dk3.mut ntp ntl) (E3.new nt) (hid_upd ntp ntl) hn hb
end
end Kr

namespace Kr
open PySem PySem.Spec PyProof.Rows L2
/-! ### the program's tests of single values, over data -/
def tyN : PyData → String
  | .none => "NoneType"
  | .bool _ => "bool"
  | .int _ => "int"
  | .str _ => "str"
  | .list _ => "list"
  | .tuple _ => "tuple"
  | .dict _ => "dict"
theorem Dq.ty {K : PySem.W.Frag} {H : Hp} {v : V} {d : PyData} (h : Dq H v d) : TyX K H v (.type (tyN d)) := by
  cases h with
  | non => exact .base .non
  | bl b => exact .base (.bl b)
  | int i => exact .base (.int i)
  | str x => exact .base (.str x)
  | lst e q => exact .base (.lst e)
  | tup e q => exact .base (.tup e)
  | dic e => exact .base (.dK e)
def isI : PyData → Bool
  | .int _ => true
  | .bool _ => true
  | _ => false
def isBo : PyData → Bool
  | .bool _ => true
  | _ => false
def isTu : PyData → Bool
  | .tuple _ => true
  | _ => false
theorem kit_int {K : PySem.W.Frag} : ∀ d : PyData, PySem.W.kitOne K (.type (tyN d)) (.type "int") = some (isI d)
  | .none => kit_ty (show kitB "NoneType" "int" = some false by decide +kernel)
  | .bool _ => kit_ty (show kitB "bool" "int" = some true by decide +kernel)
  | .int _ => kit_ty (show kitB "int" "int" = some true by decide +kernel)
  | .str _ => kit_ty (show kitB "str" "int" = some false by decide +kernel)
  | .list _ => kit_ty (show kitB "list" "int" = some false by decide +kernel)
  | .tuple _ => kit_ty (show kitB "tuple" "int" = some false by decide +kernel)
  | .dict _ => kit_ty (show kitB "dict" "int" = some false by decide +kernel)
theorem kit_bool {K : PySem.W.Frag} : ∀ d : PyData, PySem.W.kitOne K (.type (tyN d)) (.type "bool") = some (isBo d)
  | .none => kit_ty (show kitB "NoneType" "bool" = some false by decide +kernel)
  | .bool _ => kit_ty (show kitB "bool" "bool" = some true by decide +kernel)
  | .int _ => kit_ty (show kitB "int" "bool" = some false by decide +kernel)
  | .str _ => kit_ty (show kitB "str" "bool" = some false by decide +kernel)
  | .list _ => kit_ty (show kitB "list" "bool" = some false by decide +kernel)
  | .tuple _ => kit_ty (show kitB "tuple" "bool" = some false by decide +kernel)
  | .dict _ => kit_ty (show kitB "dict" "bool" = some false by decide +kernel)
theorem kit_tuple {K : PySem.W.Frag} : ∀ d : PyData, PySem.W.kitOne K (.type (tyN d)) (.type "tuple") = some (isTu d)
  | .none => kit_ty (show kitB "NoneType" "tuple" = some false by decide +kernel)
  | .bool _ => kit_ty (show kitB "bool" "tuple" = some false by decide +kernel)
  | .int _ => kit_ty (show kitB "int" "tuple" = some false by decide +kernel)
  | .str _ => kit_ty (show kitB "str" "tuple" = some false by decide +kernel)
  | .list _ => kit_ty (show kitB "list" "tuple" = some false by decide +kernel)
  | .tuple _ => kit_ty (show kitB "tuple" "tuple" = some true by decide +kernel)
  | .dict _ => kit_ty (show kitB "dict" "tuple" = some false by decide +kernel)
/-- an integer, no bool, within bounds -/
def isB (d : PyData) (lo hi : Int) : Bool := match d with
  | .int i => decide (lo ≤ i) && decide (i ≤ hi)
  | _ => false
/-- a tuple of so many items -/
def isT (d : PyData) (n : Int) : Bool := match d with
  | .tuple xs => decide ((xs.length : Int) = n)
  | _ => false
def spB : Sp := fun vs H Q _ => ∃ (v : V) (d : PyData) (lo hi : Int), vs = [v, .int lo, .int hi] ∧ Dq H v d ∧ Q (.bl (isB d lo hi)) H
def spT : Sp := fun vs H Q _ => ∃ (v : V) (d : PyData) (n : Int), vs = [v, .int n] ∧ Dq H v d ∧ Q (.bl (isT d n)) H
section
variable {P : Program} {w : World} {K : PySem.W.Frag} {mg : Str → Option Value} {base : Heap}
theorem scB : FnScope ["value", "least", "most"] ["value", "least", "most"] (defScope sBetween) := ⟨rfl, rfl, rfl, by decide +kernel, rfl, by decide +kernel, by decide +kernel⟩
theorem o_between (D : Df K mg "is_between" sBetween ["value", "least", "most"]) (B : Bi mg) : Ok P w K mg base 1 "is_between" ["value", "least", "most"] spB := by
  refine D.ok fun f fd F => F.ok scB (fun vs H Q E h => ?_) (fun cdv A outer s H vs Q E hr h => ?_)
  · obtain ⟨v, d, lo, hi, rfl, _⟩ := h
    rfl
  · obtain ⟨v, d, lo, hi, rfl, hd, q⟩ := h
    refine ⟨_, pss_one (ps_ret (pe_and (pe_callB call_isi (by rfl) B.isinstance (by decide +kernel) (pa_cons (pv 0) (pa_cons (pe_bltn (v := .ty "int") (by rfl) B.int boot_int rfl) pa_nil)))
      (pe_and (pe_not (pe_callB call_isi (by rfl) B.isinstance (by decide +kernel) (pa_cons (pv 0) (pa_cons (pe_bltn (v := .ty "bool") (by rfl) B.bool (by decide +kernel) rfl) pa_nil))))
      (pe_one (pe_chain op_le op_le (pv 1) (pv 0) (pv 2)))))), ?_⟩
    refine ⟨v, rfl, v, .ty "int", _, _, isI d, rfl, .ty "int", hd.ty, kit_int d, isI d, rfl, ?_⟩
    by_cases hi1 : isI d = true
    · rw [hi1]
      refine iteT ?_
      refine ⟨v, rfl, v, .ty "bool", _, _, isBo d, rfl, .ty "bool", hd.ty, kit_bool d, isBo d, rfl, !isBo d, rfl, ?_⟩
      cases hd with
      | bl b => exact q
      | int i =>
        refine ⟨.int lo, rfl, .int i, rfl, _, _, rfl, rfl, decide (lo ≤ i), rfl, ?_⟩
        by_cases h1 : lo ≤ i
        · rw [decide_eq_true h1]
          refine iteT ⟨.int hi, rfl, _, _, rfl, rfl, ?_⟩
          have e : isB (.int i) lo hi = decide (i ≤ hi) := by simp [isB, h1]
          rw [e] at q
          exact q
        · rw [decide_eq_false h1]
          have e : isB (.int i) lo hi = false := by simp [isB, h1]
          rw [e] at q
          exact iteF q
      | _ => simp [isI] at hi1
    · rw [Bool.eq_false_iff.mpr hi1]
      have e : isB d lo hi = false := by cases d <;> first | rfl | exact absurd rfl hi1
      rw [e] at q
      exact iteF q
theorem scT : FnScope ["value", "size"] ["value", "size"] (defScope sTupleOf) := ⟨rfl, rfl, rfl, by decide +kernel, rfl, by decide +kernel, by decide +kernel⟩
theorem o_tupleOf (D : Df K mg "is_tuple_of" sTupleOf ["value", "size"]) (B : Bi mg) : Ok P w K mg base 1 "is_tuple_of" ["value", "size"] spT := by
  refine D.ok fun f fd F => F.ok scT (fun vs H Q E h => ?_) (fun cdv A outer s H vs Q E hr h => ?_)
  · obtain ⟨v, d, n, rfl, _⟩ := h
    rfl
  · obtain ⟨v, d, n, rfl, hd, q⟩ := h
    refine ⟨_, pss_one (ps_ret (pe_and (pe_callB call_isi (by rfl) B.isinstance (by decide +kernel) (pa_cons (pv 0) (pa_cons (pe_bltn (v := .ty "tuple") (by rfl) B.tuple (by decide +kernel) rfl) pa_nil)))
      (pe_one (pe_cmpR op_eq (pe_callB call_len_seq (by rfl) B.len boot_len (pa_cons (pv 0) pa_nil)) (pv 1) (nomark _))))), ?_⟩
    refine ⟨v, rfl, v, .ty "tuple", _, _, isTu d, rfl, .ty "tuple", hd.ty, kit_tuple d, isTu d, rfl, ?_⟩
    by_cases hi1 : isTu d = true
    · rw [hi1]
      refine iteT ?_
      cases hd with
      | @tup a xs ds e qa =>
        refine ⟨.ref a, rfl, a, xs, rfl, .inr (SqT.of e), .int n, rfl, rfl, ?_⟩
        have e1 : isT (.tuple ds) n = decide (V.int (xs.length : Int) = V.int n) := by
          rw [qa.len]
          simp [isT]
        rw [e1] at q
        exact q
      | _ => simp [isTu] at hi1
    · rw [Bool.eq_false_iff.mpr hi1]
      have e : isT d n = false := by cases d <;> first | rfl | exact absurd rfl hi1
      rw [e] at q
      exact iteF q
end
end Kr

namespace Kr
open PySem PySem.Spec PyProof.Rows L2
/-! ### what is wrong with lots and standings, over data -/
def iv : PyData → Int
  | .int i => i
  | _ => 0
def eForm : PyData := .str "form"
def eItem (i : Nat) : PyData := .tuple [.str "item", .int (i : Nat)]
def eTwice (i : Nat) : PyData := .tuple [.str "twice", .int (i : Nat)]
def lotGo (n : Int) : Int → Nat → List PyData → PyData
  | _, _, [] => .none
  | least, i, x :: r => if isB x least (n - 1) = true then lotGo n (iv x + 1) (i + 1) r else eItem i
def lotErr (n : Int) : PyData → PyData
  | .tuple ds => lotGo n 0 0 ds
  | _ => eForm
theorem isB_int {x : PyData} {lo hi : Int} (h : isB x lo hi = true) : ∃ i, x = .int i ∧ lo ≤ i ∧ i ≤ hi := by
  cases x with
  | int i =>
    simp [isB] at h
    exact ⟨i, rfl, h.1, h.2⟩
  | _ => simp [isB] at h
/-- a new data result -/
def spErr (F : Int → PyData → PyData) : Sp := fun vs H Q _ => ∃ (n : Int) (v : V) (d : PyData), vs = [.int n, v] ∧ Dq H v d ∧ ∀ H' r, Same H H' → Dq H' r (F n d) → Q r H'
theorem dq_pair {H : Hp} {t : Addr} {x : Str} {i : Nat} (h : H t = some (.tup [.str x, .int (i : Nat)])) : Dq H (.ref t) (.tuple [.str x, .int (i : Nat)]) :=
  .tup h (.cons (.str x) (.cons (.int _) .nil))
section
variable {P : Program} {w : World} {K : PySem.W.Frag} {mg : Str → Option Value} {base : Heap}
theorem scW : FnScope ["value", "low", "high"] ["value", "low", "high"] (defScope sWhole) := ⟨rfl, rfl, rfl, by decide +kernel, rfl, by decide +kernel, by decide +kernel⟩
theorem o_whole (D : Df K mg "_law_is_whole" sWhole ["value", "low", "high"]) (B : Bi mg) : Ok P w K mg base 1 "_law_is_whole" ["value", "low", "high"] spB := by
  refine D.ok fun f fd F => F.ok scW (fun vs H Q E h => ?_) (fun cdv A outer s H vs Q E hr h => ?_)
  · obtain ⟨v, d, lo, hi, rfl, _⟩ := h
    rfl
  · obtain ⟨v, d, lo, hi, rfl, hd, q⟩ := h
    refine ⟨_, pss_one (ps_ret (pe_and (pe_callB call_isi (by rfl) B.isinstance (by decide +kernel) (pa_cons (pv 0) (pa_cons (pe_bltn (v := .ty "int") (by rfl) B.int boot_int rfl) pa_nil)))
      (pe_and (pe_not (pe_callB call_isi (by rfl) B.isinstance (by decide +kernel) (pa_cons (pv 0) (pa_cons (pe_bltn (v := .ty "bool") (by rfl) B.bool (by decide +kernel) rfl) pa_nil))))
      (pe_one (pe_chain op_le op_le (pv 1) (pv 0) (pv 2)))))), ?_⟩
    refine ⟨v, rfl, v, .ty "int", _, _, isI d, rfl, .ty "int", hd.ty, kit_int d, isI d, rfl, ?_⟩
    by_cases hi1 : isI d = true
    · rw [hi1]
      refine iteT ?_
      refine ⟨v, rfl, v, .ty "bool", _, _, isBo d, rfl, .ty "bool", hd.ty, kit_bool d, isBo d, rfl, !isBo d, rfl, ?_⟩
      cases hd with
      | bl b => exact q
      | int i =>
        refine ⟨.int lo, rfl, .int i, rfl, _, _, rfl, rfl, decide (lo ≤ i), rfl, ?_⟩
        by_cases h1 : lo ≤ i
        · rw [decide_eq_true h1]
          refine iteT ⟨.int hi, rfl, _, _, rfl, rfl, ?_⟩
          have e : isB (.int i) lo hi = decide (i ≤ hi) := by simp [isB, h1]
          rw [e] at q
          exact q
        · rw [decide_eq_false h1]
          have e : isB (.int i) lo hi = false := by simp [isB, h1]
          rw [e] at q
          exact iteF q
      | _ => simp [isI] at hi1
    · rw [Bool.eq_false_iff.mpr hi1]
      have e : isB d lo hi = false := by cases d <;> first | rfl | exact absurd rfl hi1
      rw [e] at q
      exact iteF q
theorem scLE : FnScope ["n", "value", "least", "spot", "item"] ["n", "value"] (defScope sLotErr) := ⟨rfl, rfl, rfl, by decide +kernel, rfl, by decide +kernel, by decide +kernel⟩
theorem f_lotErr {f : Addr} {fd : FuncData} (F : Fun K "lot_error" "lot_error" sLotErr f fd) (B : Bi mg) (b : Ok P w K mg base 1 "is_between" ["value", "least", "most"] spB) : FnOk P w K mg base CX0 2 f fd ["n", "value"] (spErr lotErr) := by
  refine F.ok scLE (fun vs H Q E h => ?_) (fun cdv A outer s H vs Q E hr h => ?_)
  · obtain ⟨n, v, d, rfl, _⟩ := h
    rfl
  · obtain ⟨n, v, d, rfl, hd, q⟩ := h
    refine ⟨_, pss_cons (ps_if (pt_not (pt_val (pe_callB call_isi (by rfl) B.isinstance (by decide +kernel) (pa_cons (pv 1) (pa_cons (pe_bltn (v := .ty "tuple") (by rfl) B.tuple (by decide +kernel) rfl) pa_nil))))) (pss_one (ps_ret pe_str)) pss_nil)
      (pss_cons (ps_set (i := 2) scLE.nd rfl (.inl rfl) pe_int)
      (pss_cons (ps_for PassesOwn.never rfl (pi_enumT (by rfl) B.enumerate (pa_cons (pv 1) pa_nil)) (pg_tup rfl (pgs_cons (pg_name (i := 3) scLE.nd rfl (.inl rfl)) (pgs_cons (pg_name (i := 4) scLE.nd rfl (.inl rfl)) pgs_nil)))
        (pss_cons (ps_if (pt_not (pt_val (pe_fn b hr (by rfl) (pa_cons (pv 4) (pa_cons (pv 2) (pa_cons (pe_op op_sub (pv 0) pe_int) pa_nil)))))) (pss_one (ps_ret (pe_tup (pa_cons pe_str (pa_cons (pv 3) pa_nil))))) pss_nil)
        (pss_one (ps_set (i := 2) scLE.nd rfl (.inl rfl) (pe_op op_add (pv 4) pe_int)))))
      (pss_one (ps_ret pe_non)))), ?_⟩
    refine ⟨v, rfl, v, .ty "tuple", _, _, isTu d, rfl, .ty "tuple", hd.ty, kit_tuple d, isTu d, rfl, ?_⟩
    by_cases ht : isTu d = true
    · rw [ht]
      refine iteF ?_
      cases hd with
      | @tup a xs ds e qa =>
        refine ⟨.ref a, rfl, a, xs, rfl, SqT.of e, for_it walk_enumT (fun i σ H2 => ∃ (least : Int) (y3 y4 : Option V), σ = [some (.int n), some (.ref a), some (.int least), y3, y4] ∧ Same H H2 ∧ lotErr n (.tuple ds) = lotGo n least i (ds.drop i))
          ⟨0, none, none, rfl, Same.refl _, rfl⟩ (fun i σ H2 _ ⟨_, _, _, _, sm, _⟩ => SqT.of (sm _ _ e)) ?_ ?_⟩
        · rintro i _ σ H2 _ hi ⟨least, y3, y4, rfl, sm, el⟩ ⟨T, x, y, rfl, nT, rfl, e1, e2⟩
          cases Option.some.inj e1
          obtain ⟨dy, hdy, hq⟩ := (DqA.up sm qa).get e2
          have sT : Same H2 (upd H2 T (.tup [.int (i : Nat), y])) := same_new nT
          have ed : ds.drop i = dy :: ds.drop (i + 1) := by
            have := List.getElem?_eq_some_iff.mp hdy
            rw [List.drop_eq_getElem_cons this.1, this.2]
          refine ⟨T, [.int (i : Nat), y], rfl, SqT.of upd_same, rfl, .int (i : Nat), [y], rfl, y, [], rfl, rfl, ?_⟩
          refine ⟨y, rfl, .int least, rfl, .int n, rfl, n, 1, rfl, rfl, y, dy, least, n - 1, rfl, hq.up sT, isB dy least (n - 1), rfl, ?_⟩
          by_cases hb : isB dy least (n - 1) = true
          · rw [hb]
            refine iteF ?_
            obtain ⟨z, rfl, z0, z1⟩ := isB_int hb
            cases hq
            refine ⟨.int z, rfl, z, 1, rfl, rfl, ?_⟩
            refine ⟨z + 1, _, _, rfl, sm.trans sT, ?_⟩
            rw [el, ed]
            show (if _ then _ else _) = _
            rw [if_pos hb]
            rfl
          · rw [Bool.eq_false_iff.mpr hb]
            refine iteT ⟨.int (i : Nat), rfl, by show 2 ≤ sizeLine; decide, fun t nt => ?_⟩
            refine q _ _ ((sm.trans sT).trans (same_new nt)) ?_
            rw [el, ed]
            show Dq _ _ (if _ then _ else _)
            rw [if_neg hb]
            exact dq_pair upd_same
        · rintro σ H2 ⟨least, y3, y4, rfl, sm, el⟩
          refine q _ _ sm ?_
          rw [el, List.drop_of_length_le (by rw [← qa.len]; exact Nat.le_refl _)]
          exact .non
      | _ => simp [isTu] at ht
    · rw [Bool.eq_false_iff.mpr ht]
      refine iteT (q _ _ (Same.refl _) ?_)
      have e : lotErr n d = eForm := by cases d <;> first | rfl | exact absurd rfl ht
      rw [e]
      exact .str _
end
end Kr

namespace Kr
open PySem PySem.Spec PyProof.Rows L2
/-- a list beside one without items -/
def rNeN : R2 := fun x y H Q => ∃ l b xs, x = .ref l ∧ y = .ref b ∧ H l = some (.lst xs) ∧ H b = some (.lst []) ∧ Q (.bl (!xs.isEmpty)) H
theorem op_neN {X : Cx} (hu : X.A.units + 64 < cLine) : OpR X (compareOp .NotEq) rNeN := by
  intro pins s σ H x y v u Q I rx ry h
  obtain ⟨l, b, xs, rfl, rfl, hl, hb, q⟩ := h
  obtain rfl : v = Value.ref l := rx
  obtain rfl : u = Value.ref b := ry
  obtain ⟨its, r1, p1, _⟩ := I.list (SqL.of (K := X.K) hl)
  obtain ⟨it2, r2, p2, _⟩ := I.list (SqL.of (K := X.K) hb)
  cases r2
  have hn : its.length = xs.length := r1.length.symm
  by_cases he : xs = []
  · subst he
    have : its = [] := List.length_eq_zero_iff.mp hn
    subst this
    exact SeqAt.RcNeAt.lists (e := fun _ => true) p1.isList p2.isList rfl (by omega) (fun j h1 _ => absurd h1 (by simp)) X.prog X.w X.xe _ ⟨.bl false, H, I, by rfl, q⟩
  · have hne : (its.toArray.size != ([] : List Value).toArray.size) = true := by
      have := List.length_pos_iff.mpr he
      simp
      intro z
      subst z
      simp at hn
      exact he (List.length_eq_zero_iff.mp hn.symm)
    have e1 : (!xs.isEmpty) = true := by
      cases xs with
      | nil => exact absurd rfl he
      | cons _ _ => rfl
    rw [e1] at q
    exact SeqAt.RcNeAt.lists_lengths p1.isList p2.isList hne (by omega) X.prog X.w X.xe _ ⟨.bl true, H, I, rfl, q⟩
/-! ### small data: what repr can show -/
structure Sm (k w : Nat) (d : PyData) : Prop where
  sh : d.showable = true
  ls : d.leavesShort 41 = true
  dp : d.depth ≤ k
  wt : d.weight ≤ w
theorem Sm.mono {k w k' w' : Nat} {d : PyData} (h : Sm k w d) (hk : k ≤ k') (hw : w ≤ w') : Sm k' w' d := ⟨h.sh, h.ls, Nat.le_trans h.dp hk, Nat.le_trans h.wt hw⟩
theorem sm_all {k w : Nat} : ∀ {ds : List PyData}, (∀ d ∈ ds, Sm k w d) → PyData.showableAll ds = true ∧ PyData.leavesShortAll 41 ds = true ∧ PyData.depthAll ds ≤ k ∧ PyData.weightAll ds ≤ (w + 1) * ds.length
  | [], _ => ⟨by simp [PyData.showableAll], by simp [PyData.leavesShortAll], by simp [PyData.depthAll], by simp [PyData.weightAll]⟩
  | d :: ds, h => by
    obtain ⟨h1, h2, h3, h4⟩ := sm_all fun x hx => h x (List.mem_cons_of_mem _ hx)
    have hd := h d List.mem_cons_self
    refine ⟨by simp [PyData.showableAll, hd.sh, h1], by simp [PyData.leavesShortAll, hd.ls, h2], ?_, ?_⟩
    · simp only [PyData.depthAll]
      have := hd.dp
      omega
    · simp only [PyData.weightAll, List.length_cons, Nat.mul_add]
      have := hd.wt
      omega
theorem Sm.lst {k w m : Nat} {ds : List PyData} (h : ∀ d ∈ ds, Sm k w d) (hm : ds.length ≤ m) : Sm (k + 1) ((w + 1) * m) (.list ds) := by
  obtain ⟨h1, h2, h3, h4⟩ := sm_all h
  refine ⟨by simpa [PyData.showable] using h1, by simpa [PyData.leavesShort] using h2, by simp only [PyData.depth]; omega, ?_⟩
  simp only [PyData.weight]
  exact Nat.le_trans h4 (Nat.mul_le_mul_left _ hm)
theorem Sm.tup {k w m : Nat} {ds : List PyData} (h : ∀ d ∈ ds, Sm k w d) (hm : ds.length ≤ m) : Sm (k + 1) ((w + 1) * m) (.tuple ds) := by
  obtain ⟨h1, h2, h3, h4⟩ := sm_all h
  refine ⟨by simpa [PyData.showable] using h1, by simpa [PyData.leavesShort] using h2, by simp only [PyData.depth]; omega, ?_⟩
  simp only [PyData.weight]
  exact Nat.le_trans h4 (Nat.mul_le_mul_left _ hm)
theorem Sm.int {i : Int} (h : i.natAbs < 10 ^ 40) : Sm 1 140 (.int i) := by
  have hl : (PyData.shown (.int i)).length ≤ 41 := by
    have e := int_text_length_le10 (k := 40) (by decide) h
    show (Str.ofString (toString i)).length ≤ 41
    rw [PySem.ofString_length]
    exact e
  have hg : i.natAbs.log2 < 134 := by
    by_cases h0 : i.natAbs = 0
    · rw [h0]
      decide
    · rw [Nat.log2_lt h0]
      exact Nat.lt_of_lt_of_le h (by decide)
  refine ⟨?_, by simpa [PyData.leavesShort] using hl, by simp [PyData.depth], ?_⟩
  · simp only [PyData.showable, decide_eq_true_eq]
    omega
  · simp only [PyData.weight]
    split <;> omega
theorem Sm.non : Sm 1 140 .none := ⟨rfl, rfl, by simp [PyData.depth], by simp [PyData.weight]⟩
theorem Sm.bl (b : Bool) : Sm 1 140 (.bool b) := ⟨rfl, rfl, by simp [PyData.depth], by simp [PyData.weight]⟩
theorem Sm.dic : Sm 1 140 (.dict []) := ⟨by simp [PyData.showable, PyData.showableKv], by simp [PyData.leavesShort, PyData.leavesShortKv], by simp [PyData.depth, PyData.depthKv], by simp [PyData.weight, PyData.weightKv]⟩
theorem Sm.str {x : Str} (h : (x.cps.toList.all fun c => decide (c < 16 ^ 8)) = true) (hs : x.length ≤ 4) : Sm 1 140 (.str x) :=
  ⟨by simp [PyData.showable], by simpa [PyData.leavesShort] using h, by simp [PyData.depth], Nat.le_trans (show x.cps.size ≤ 4 from hs) (by decide)⟩
/-- the text is short enough -/
theorem Sm.fits {k w : Nat} {d : PyData} (h : Sm k w d) (hw : w ≤ 380000) : d.shown.length ≤ sizeLine := by
  have h1 := PyData.shown_le 41 (by decide) d h.ls
  have h2 := h.wt
  rw [sizeLine_eq]
  omega
/-- repr of small data -/
theorem repr_sm {v : V} {d : PyData} {H : Hp} {Q : VK} {k w : Nat} (hd : Dq H v d) (h : Sm k w d) (hk : k ≤ 40) (hw : w ≤ 380000) (q : Q (.str d.shown) H) : rRepr [v] H Q :=
  ⟨v, d, rfl, hd, h.sh, Nat.le_trans h.dp hk, h.fits hw, q⟩
end Kr

namespace Kr
open PySem PySem.Spec PyProof.Rows L2
/-! ### expressions that give data, beside the deck at p and l -/
def EvP (p l : Addr) (te : TE) (σ : L2.St) (H : Hp) (R : PyData → Prop) : Prop :=
  ∀ H1, Ext p l H H1 → Deck H1 p l → ∀ Q : VK, (∀ v H2 d, Ext p l H1 H2 → Deck H2 p l → Dq (hid p l H2) v d → R d → Q v H2) → te σ H1 Q
def EvA (p l : Addr) (ta : TA) (σ : L2.St) (H : Hp) (R : PyData → Prop) (n : Nat) : Prop :=
  ∀ H1, Ext p l H H1 → Deck H1 p l → ∀ Q : List V → Hp → Prop, (∀ vs H2 ds, Ext p l H1 H2 → Deck H2 p l → DqA (hid p l H2) vs ds → ds.length = n → (∀ d ∈ ds, R d) → Q vs H2) → ta σ H1 Q
/-- a list, a tuple of so many at most, each so -/
def AllL (S : PyData → Prop) (n : Nat) (d : PyData) : Prop := ∃ ds, d = .list ds ∧ (0 < ds.length ∧ ds.length ≤ n) ∧ ∀ x ∈ ds, S x
def AllT (S : PyData → Prop) (n : Nat) (d : PyData) : Prop := ∃ ds, d = .tuple ds ∧ ds.length ≤ n ∧ ∀ x ∈ ds, S x
section
variable {p l : Addr} {σ : L2.St} {H : Hp} {te ta' tb : TE} {ta : TA} {R S R' : PyData → Prop} {n m : Nat} {K : PySem.W.Frag}
theorem EvP.imp (h : EvP p l te σ H R) (f : ∀ d, R d → R' d) : EvP p l te σ H R' := fun H1 e D Q q => h H1 e D Q fun v H2 d e2 D2 hd r => q v H2 d e2 D2 hd (f d r)
theorem ev_non (r : R .none) : EvP p l (tC .non) σ H R := fun H1 e D Q q => q _ H1 _ Ext.rfl D .non r
theorem ev_bl {b : Bool} (r : R (.bool b)) : EvP p l (tC (.bl b)) σ H R := fun H1 e D Q q => q _ H1 _ Ext.rfl D (.bl b) r
theorem ev_int {i : Int} (r : R (.int i)) : EvP p l (tC (.int i)) σ H R := fun H1 e D Q q => q _ H1 _ Ext.rfl D (.int i) r
theorem ev_str {x : Str} (r : R (.str x)) : EvP p l (tC (.str x)) σ H R := fun H1 e D Q q => q _ H1 _ Ext.rfl D (.str x) r
theorem ev_var {i : Nat} {v : V} {d : PyData} (h : σ[i]? = some (some v)) (hd : Dq (hid p l H) v d) (r : R d) : EvP p l (tVar i) σ H R := fun H1 e D Q q => ⟨v, h, q _ H1 _ Ext.rfl D (hd.up e) r⟩
/-- a whole number that is reckoned -/
def EvI (te : TE) (σ : L2.St) (i : Int) : Prop := ∀ (H : Hp) (Q : VK), Q (.int i) H → te σ H Q
theorem EvI.data {i : Int} (h : EvI te σ i) (r : R (.int i)) : EvP p l te σ H R := fun H1 e D Q q => h H1 Q (q _ H1 _ Ext.rfl D (.int i) r)
theorem ei_c {i : Int} : EvI (tC (.int i)) σ i := fun _ _ q => q
theorem ei_v {j : Nat} {i : Int} (h : σ[j]? = some (some (.int i))) : EvI (tVar j) σ i := fun _ _ q => ⟨_, h, q⟩
theorem ei_add {i j : Int} (ha : EvI ta' σ i) (hb : EvI tb σ j) : EvI (tOp (rI0 fun i j => .int (i + j)) ta' tb) σ (i + j) := fun H Q q => ha H _ (hb H _ ⟨i, j, rfl, rfl, q⟩)
theorem ei_sub {i j : Int} (ha : EvI ta' σ i) (hb : EvI tb σ j) : EvI (tOp (rI0 fun i j => .int (i - j)) ta' tb) σ (i - j) := fun H Q q => ha H _ (hb H _ ⟨i, j, rfl, rfl, q⟩)
theorem ei_pow {i j : Int} (ha : EvI ta' σ i) (hb : EvI tb σ j) (hc : CPow i j) : EvI (tOp (rI CPow fun i j => .int (i ^ j.toNat)) ta' tb) σ (i ^ j.toNat) := fun H Q q => ha H _ (hb H _ ⟨i, j, rfl, rfl, hc, q⟩)
theorem ea_nil : EvA p l tNil σ H R 0 := fun H1 e D Q q => q [] H1 [] Ext.rfl D .nil rfl fun _ h => nomatch h
theorem ea_cons (h : EvP p l te σ H R) (t : EvA p l ta σ H R n) : EvA p l (tCons te ta) σ H R (n + 1) := fun H1 e D Q q =>
  h H1 e D _ fun v H2 d e2 D2 hd r => t H2 (e.trans e2) D2 _ fun vs H3 ds e3 D3 hds hn hr => q (v :: vs) H3 (d :: ds) (e2.trans e3) D3 (.cons (hd.up e3) hds) (by rw [List.length_cons, hn]) fun x hx => by
    rcases List.mem_cons.mp hx with hx | hx
    · rw [hx]; exact r
    · exact hr x hx
theorem new_dq {H : Hp} {q : Addr} {o : HO} (D : Deck H p l) (h : H q = none) : Ext p l H (upd H q o) ∧ Deck (upd H q o) p l ∧ hid p l (upd H q o) q = some o := by
  obtain ⟨h1, h2⟩ := D.new h
  exact ⟨Ext.rfl.new h, D.mut h1 h2, hid_upd h1 h2⟩
theorem ev_lst (h : EvA p l ta σ H S n) (hn : n ≤ 100000) (r : ∀ ds : List PyData, ds.length = n → (∀ d ∈ ds, S d) → R (.list ds)) : EvP p l (tLst ta) σ H R := fun H1 e D Q q =>
  h H1 e D _ fun vs H2 ds e2 D2 hds hl hr => ⟨sz (by rw [hds.len, hl]; exact hn), fun a na => by
    obtain ⟨e3, D3, ha⟩ := new_dq (o := .lst vs) D2 na
    exact q _ _ _ (e2.trans e3) D3 (.lst ha (hds.up e3)) (r ds hl hr)⟩
theorem ev_tup (h : EvA p l ta σ H S n) (hn : n ≤ 100000) (r : ∀ ds : List PyData, ds.length = n → (∀ d ∈ ds, S d) → R (.tuple ds)) : EvP p l (tTup ta) σ H R := fun H1 e D Q q =>
  h H1 e D _ fun vs H2 ds e2 D2 hds hl hr => ⟨sz (by rw [hds.len, hl]; exact hn), fun a na => by
    obtain ⟨e3, D3, ha⟩ := new_dq (o := .tup vs) D2 na
    exact q _ _ _ (e2.trans e3) D3 (.tup ha (hds.up e3)) (r ds hl hr)⟩
theorem ev_dic (r : R (.dict [])) : EvP p l tDNewK σ H R := fun H1 e D Q q a na => by
  obtain ⟨e3, D3, ha⟩ := new_dq (o := .dK []) D na
  exact q _ _ _ e3 D3 (.dic ha) r
theorem flat_rep (x : V) : ∀ k : Nat, (List.replicate k [x]).flatten = List.replicate k x
  | 0 => rfl
  | k + 1 => by rw [List.replicate_succ, List.flatten_cons, flat_rep x k]; rfl
/-- (x,) * k -/
theorem ev_rep {k : Int} (h : EvA p l ta σ H S 1) (hk : EvI tb σ k) (h1 : 2 ≤ k) (h2 : k ≤ 1000) (r : ∀ d, S d → R (.tuple (List.replicate k.toNat d))) : EvP p l (tOp (rRepT K) (tTup ta) tb) σ H R := fun H1 e D Q q =>
  h H1 e D _ fun vs H2 ds e2 D2 hds hl hr => ⟨sz (by rw [hds.len, hl]; decide), fun a na => by
    obtain ⟨e3, D3, ha⟩ := new_dq (o := .tup vs) D2 na
    refine hk _ _ ?_
    obtain ⟨d, rfl⟩ : ∃ d, ds = [d] := List.length_eq_one_iff.mp hl
    cases hds with
    | cons hd ht =>
      cases ht
      refine ⟨a, k, _, rfl, rfl, SqT.of (hid_same p l _ _ _ ha), by simp, h1, h2, by simp, fun b nb => ?_⟩
      rw [flat_rep]
      obtain ⟨e4, D4, hb⟩ := new_dq (o := .tup (List.replicate k.toNat _)) D3 nb
      exact q _ _ _ (e2.trans (e3.trans e4)) D4 (.tup hb (DqA.rep (hd.up (e3.trans e4)) _)) (r d (hr d List.mem_cons_self))⟩
/-- xs + ys, lists -/
theorem ev_cat (ha : EvP p l ta' σ H (AllL S n)) (hb : EvP p l tb σ H (AllL S m)) (hnm : n + m ≤ 100000) (r : ∀ d, AllL S (n + m) d → R d) : EvP p l (tOp rCat ta' tb) σ H R := fun H1 e D Q q =>
  ha H1 e D _ fun v H2 d e2 D2 hd hr => hb H2 (e.trans e2) D2 _ fun v' H3 d' e3 D3 hd' hr' => by
    obtain ⟨ds, rfl, ⟨l0, l1⟩, r1⟩ := hr
    obtain ⟨ds', rfl, ⟨l0', l2⟩, r2⟩ := hr'
    have hd3 := hd.up e3
    cases hd3 with
    | @lst a xs _ ea qa =>
      cases hd' with
      | @lst b ys _ eb qb =>
        refine ⟨a, b, xs, ys, rfl, rfl, hid_same p l _ _ _ ea, hid_same p l _ _ _ eb, sz (by rw [qa.len, qb.len]; omega), fun c nc => ?_⟩
        obtain ⟨e4, D4, hc⟩ := new_dq (o := .lst (xs ++ ys)) D3 nc
        refine q _ _ _ (e2.trans (e3.trans e4)) D4 (.lst hc ((qa.up e4).app (qb.up e4))) (r _ ⟨_, rfl, by rw [List.length_append]; omega, fun x hx => ?_⟩)
        rcases List.mem_append.mp hx with hx | hx
        · exact r1 x hx
        · exact r2 x hx
theorem ev_listRg {k : Int} (hk : EvI te σ k) (h0 : 0 ≤ k) (h1 : k ≤ 1000) (r : R (.list ((List.range k.toNat).map fun i => .int (i : Nat)))) : EvP p l (tLstRg (tRg1 te)) σ H R := fun H1 e D Q q =>
  hk _ _ ⟨k, rfl, RgOk.of_le (Int.le_refl _) (by omega) (by decide) h0, fun a na => by
    obtain ⟨e4, D4, hc⟩ := new_dq (o := .lst (rgV 0 k)) D na
    refine q _ _ _ e4 D4 (.lst hc ?_) r
    have e1 : rgV 0 k = ((List.range k.toNat).map fun i => ((i : Nat) : Int)).map V.int := by
      unfold rgV
      rw [List.map_map, show (k - 0) = k by omega]
      exact List.map_congr_left fun i _ => by simp
    have e2 : ((List.range k.toNat).map fun i => PyData.int (i : Nat)) = ((List.range k.toNat).map fun i => ((i : Nat) : Int)).map PyData.int := by
      rw [List.map_map]
      rfl
    rw [e1, e2]
    exact DqA.ints _⟩
theorem ev_tupRg {k : Int} (hk : EvI te σ k) (h0 : 0 ≤ k) (h1 : k ≤ 1000) (r : R (.tuple ((List.range k.toNat).map fun i => .int (i : Nat)))) : EvP p l (tTupRg (tRg1 te)) σ H R := fun H1 e D Q q =>
  hk _ _ ⟨k, rfl, RgOk.of_le (Int.le_refl _) (by omega) (by decide) h0, fun a na => by
    obtain ⟨e4, D4, hc⟩ := new_dq (o := .tup (rgV 0 k)) D na
    refine q _ _ _ e4 D4 (.tup hc ?_) r
    have e1 : rgV 0 k = ((List.range k.toNat).map fun i => ((i : Nat) : Int)).map V.int := by
      unfold rgV
      rw [List.map_map, show (k - 0) = k by omega]
      exact List.map_congr_left fun i _ => by simp
    have e2 : ((List.range k.toNat).map fun i => PyData.int (i : Nat)) = ((List.range k.toNat).map fun i => ((i : Nat) : Int)).map PyData.int := by
      rw [List.map_map]
      rfl
    rw [e1, e2]
    exact DqA.ints _⟩
/-- _law_pick(deck, e) -/
theorem ev_pick {j : Nat} (hj : σ[j]? = some (some (.ref p))) (h : EvP p l te σ H (AllL R n)) (hn : n ≤ 100000) : EvP p l (tCall spPick [] E0 (tCons (tVar j) (tCons te tNil))) σ H R := fun H1 e D Q q =>
  ⟨_, hj, h H1 e D _ fun v H2 d e2 D2 hd hr => by
    obtain ⟨ds, rfl, ⟨hl0, hl⟩, hR⟩ := hr
    cases hd with
    | @lst a xs _ ea qa =>
      have hlen := qa.len
      refine ⟨p, l, a, xs, rfl, D2, ea, fun z => by subst z; rw [← hlen] at hl0; exact absurd hl0 (by decide), by omega, fun H3 v D3 e3 hv => ?_⟩
      obtain ⟨i, hi, hx⟩ := List.mem_iff_getElem.mp hv
      obtain ⟨d, h1, h2⟩ := (qa.up e3).get (List.getElem?_eq_getElem hi)
      rw [hx] at h2
      exact q v H3 d (e2.trans e3) D3 h2 (hR d (List.mem_of_getElem? h1))⟩
/-- x = e; rest -/
theorem seq_asg {g : TG} {u : TS} {D : Ends} (h : EvP p l te σ H R) (Dk : Deck H p l) (k : ∀ v H2 d, Ext p l H H2 → Deck H2 p l → Dq (hid p l H2) v d → R d → g v σ H2 (u D)) : tSeq (tAsg te g) u D σ H := h H Ext.rfl Dk _ k
/-- return e -/
theorem ret_ev {D : Ends} (h : EvP p l te σ H R) (Dk : Deck H p l) (k : ∀ v H2 d, Ext p l H H2 → Deck H2 p l → Dq (hid p l H2) v d → R d → D.rt v H2) : tRet te D σ H := h H Ext.rfl Dk _ k
end
end Kr

namespace Kr
open PySem PySem.Spec PyProof.Rows L2
/-! ### beside an empty list, an empty tuple -/
def rEqN : R2 := fun x y H Q => ∃ l b xs, x = .ref l ∧ y = .ref b ∧ H l = some (.lst xs) ∧ H b = some (.lst []) ∧ Q (.bl xs.isEmpty) H
theorem op_eqN {X : Cx} (hu : X.A.units + 64 < cLine) : OpR X (compareOp .Eq) rEqN := by
  intro pins s σ H x y v u Q I rx ry h
  obtain ⟨l, b, xs, rfl, rfl, hl, hb, q⟩ := h
  obtain rfl : v = Value.ref l := rx
  obtain rfl : u = Value.ref b := ry
  obtain ⟨its, r1, p1, _⟩ := I.list (SqL.of (K := X.K) hl)
  obtain ⟨it2, r2, p2, _⟩ := I.list (SqL.of (K := X.K) hb)
  cases r2
  cases r1 with
  | nil => exact SeqAt.RcAt.lists (e := fun _ => true) p1.isList p2.isList rfl (by omega) (fun j h1 _ => absurd h1 (by simp)) X.prog X.w X.xe _ ⟨.bl true, H, I, by rfl, q⟩
  | cons _ _ => exact SeqAt.RcAt.lists_lengths p1.isList p2.isList (by simp) (by omega) X.prog X.w X.xe _ ⟨.bl false, H, I, rfl, q⟩
def rEqT0 (K : PySem.W.Frag) : R2 := fun x y H Q => ∃ l b xs, x = .ref l ∧ y = .ref b ∧ SqT K H l xs ∧ SqT K H b [] ∧ Q (.bl xs.isEmpty) H
def rNeT0 (K : PySem.W.Frag) : R2 := fun x y H Q => ∃ l b xs, x = .ref l ∧ y = .ref b ∧ SqT K H l xs ∧ SqT K H b [] ∧ Q (.bl (!xs.isEmpty)) H
theorem all0 (n : Nat) (e : Nat → Bool) : ((List.range (min n 0)).all e && n == 0) = decide (n = 0) := by
  rw [Nat.min_zero]
  cases n <;> rfl
theorem isE {xs : List V} {its : List Value} (r : Vals xs its) : decide (its.toArray.size = 0) = xs.isEmpty := by
  cases r with
  | nil => rfl
  | cons _ _ => rfl
theorem op_eqT0 {X : Cx} (hu : X.A.units + 64 < cLine) : OpR X (compareOp .Eq) (rEqT0 X.K) := by
  intro pins s σ H x y v u Q I rx ry h
  obtain ⟨l, b, xs, rfl, rfl, hl, hb, q⟩ := h
  obtain rfl : v = Value.ref l := rx
  obtain rfl : u = Value.ref b := ry
  obtain ⟨its, r1, p1, _⟩ := I.tuple hl
  obtain ⟨it2, r2, p2, _⟩ := I.tuple hb
  cases r2
  refine SeqAt.RcAt.tuples (e := fun _ => true) p1 p2 (by omega) (fun j _ h2 => absurd h2 (by simp)) X.prog X.w X.xe _ ⟨.bl xs.isEmpty, H, I, ?_, q⟩
  show Value.bool _ = Value.bool _
  rw [← isE r1]
  exact congrArg Value.bool (all0 _ _)
theorem op_neT0 {X : Cx} (hu : X.A.units + 64 < cLine) : OpR X (compareOp .NotEq) (rNeT0 X.K) := by
  intro pins s σ H x y v u Q I rx ry h
  obtain ⟨l, b, xs, rfl, rfl, hl, hb, q⟩ := h
  obtain rfl : v = Value.ref l := rx
  obtain rfl : u = Value.ref b := ry
  obtain ⟨its, r1, p1, _⟩ := I.tuple hl
  obtain ⟨it2, r2, p2, _⟩ := I.tuple hb
  cases r2
  refine SeqAt.RcNeAt.tuples (e := fun _ => true) p1 p2 (by omega) (fun j _ h2 => absurd h2 (by simp)) X.prog X.w X.xe _ ⟨.bl (!xs.isEmpty), H, I, ?_, q⟩
  show Value.bool _ = Value.bool _
  rw [← isE r1]
  exact congrArg (fun z => Value.bool (!z)) (all0 _ _)
/-- zip of two tuples, of any lengths -/
theorem walk_zipT {K : PySem.W.Frag} {a b : Addr} {xs ys : List V} {n : Nat} (hn : n = min xs.length ys.length) : Walk (RZ.ItzT K a b) n (fun H => SqT K H a xs ∧ SqT K H b ys) (YPair (fun i => xs[i]?) (fun i => ys[i]?)) := by
  subst hn
  refine ⟨fun i _ hi q => ?_, fun _ ⟨q1, q2⟩ => ⟨xs, ys, q1, q2, (by omega)⟩, fun i H v H' _ ⟨q1, q2⟩ y => ?_⟩
  · obtain ⟨g1, g2⟩ := Nat.lt_min.mp hi
    exact ⟨xs, ys, xs[i], ys[i], q.1, q.2, List.getElem?_eq_getElem g1, List.getElem?_eq_getElem g2⟩
  · obtain ⟨T, x, z, t1, t2, t3, t4, t5⟩ := y
    exact ⟨T, x, z, t1, t2, t3, t4 _ q1, t5 _ q2⟩
end Kr

namespace Kr
open PySem PySem.Spec PyProof.Rows L2
def spMixed : Sp := fun vs H Q _ => ∃ (p l a : Addr) (ns : List Int), vs = [.ref p, .ref a] ∧ Deck H p l ∧ hid p l H a = some (.lst (ns.map V.int)) ∧ ns.length ≤ 1000 ∧
  ∀ (H' : Hp) (f : Addr) (ys : List Int), Deck H' p l → Ext p l H H' → hid p l H' f = some (.lst (ys.map V.int)) → ys.Perm ns → Q (.ref f) H'
theorem seqIx {r : Int} {n : Nat} (h0 : 0 ≤ r) (h1 : r < n) : seqIndex? r n = some r.toNat := (ixN_seq (by unfold ixN; rw [if_pos h0, if_pos h1])).1
theorem erase_perm (zs : List Int) {k : Nat} (h : k < zs.length) : (zs[k] :: zs.eraseIdx k).Perm zs := by
  rw [List.eraseIdx_eq_take_drop_succ]
  have e : zs = zs.take k ++ zs[k] :: zs.drop (k + 1) := by
    rw [← List.drop_eq_getElem_cons h, List.take_append_drop]
  exact List.perm_middle.symm.trans (.of_eq e.symm)
section
variable {P : Program} {w : World} {K : PySem.W.Frag} {mg : Str → Option Value} {base : Heap}
theorem scMixed : FnScope ["deck", "items", "left", "found"] ["deck", "items"] (defScope sMixed) := ⟨rfl, rfl, rfl, by decide +kernel, rfl, by decide +kernel, by decide +kernel⟩
theorem o_mixed (D : Df K mg "_law_mixed" sMixed ["deck", "items"]) (B : Bi mg) (d : Ok P w K mg base 1 "_law_draw" ["deck", "many"] spDraw) : Ok P w K mg base 2 "_law_mixed" ["deck", "items"] spMixed := by
  refine D.ok fun fa fd F => F.ok scMixed (fun vs H Q E h => ?_) (fun cdv A outer s H vs Q E hr h => ?_)
  · obtain ⟨p, l, a, ns, rfl, _⟩ := h
    rfl
  · obtain ⟨p, l, a, ns, rfl, Dk, ha, hlen, q⟩ := h
    have hu : (cxOf CX0 P w K mg base ["deck", "items", "left", "found"] "_law_mixed" (defScope sMixed) fa cdv A outer s H E).A.units + 64 < cLine := hr.units
    refine ⟨_, pss_cons (ps_par (i := 2) (j := 3) rfl scMixed.nd rfl rfl (by decide) rfl rfl (pa_cons (pe_callTy call_list_of (by rfl) B.list (by decide +kernel) (pa_cons (pv 1) pa_nil)) (pa_cons (pe_lst pa_nil) pa_nil)) (by rfl))
      (pss_cons (ps_while PassesOwn.never (pt_cmpR (op_neN hu) (pv 2) (pe_lst pa_nil) (nomark _))
        (pss_one (ps_expr (pe_bm PySem.F.plainAttrs_list PySem.F.slot_list_append PySem.F.type_list_append mt_append (pv 3) (pa_cons
          (pe_bm PySem.F.plainAttrs_list PySem.F.slot_list_pop PySem.F.type_list_pop mt_popAt (pv 2) (pa_cons (pe_fn d hr (by rfl) (pa_cons (pv 0) (pa_cons (pe_callB call_len_seq (by rfl) B.len boot_len (pa_cons (pv 2) pa_nil)) pa_nil))) pa_nil)) pa_nil)))))
      (pss_one (ps_ret (pv 3)))), ?_⟩
    refine ⟨.ref a, rfl, a, _, rfl, .inl (SqL.of (hid_same p l H _ _ ha)), fun lf nlf => ?_⟩
    obtain ⟨nlp, nll⟩ := Dk.new nlf
    obtain ⟨e1, D1, _⟩ := new_dq (o := .lst (ns.map V.int)) Dk nlf
    refine ⟨by show 0 ≤ sizeLine; decide, fun f nf => ?_⟩
    obtain ⟨nfp, nfl⟩ := D1.new nf
    have nff : f ≠ lf := fun z => by rw [z, upd_same] at nf; cases nf
    have nf0 : H f = none := by rw [upd_ne nff] at nf; exact nf
    obtain ⟨e2, D2, _⟩ := new_dq (o := .lst []) D1 nf
    refine ⟨_, _, rfl, ?_⟩
    refine while_by (fun σ H6 => ∃ (zs ys : List Int), σ = [some (.ref p), some (.ref a), some (.ref lf), some (.ref f)] ∧ Deck H6 p l ∧ Ext p l H H6 ∧ H6 lf = some (.lst (zs.map V.int)) ∧ H6 f = some (.lst (ys.map V.int)) ∧ (ys ++ zs).Perm ns)
      (fun σ H6 => match H6 lf with | some (.lst zs) => zs.length | _ => 0) ⟨ns, [], rfl, D2, e1.trans e2, by rw [upd_ne nff.symm, upd_same], upd_same, .refl _⟩ ?_ ?_
    · rintro σ H6 ⟨zs, ys, rfl, D6, E6, hz, hy, hp⟩
      have hll := hp.length_eq
      rw [List.length_append] at hll
      refine ⟨.ref lf, rfl, by show 0 ≤ sizeLine; decide, fun c nc => ?_⟩
      have ncl : c ≠ lf := (ne_of_none hz nc).symm
      have ncf : c ≠ f := (ne_of_none hy nc).symm
      obtain ⟨e7, D7, _⟩ := new_dq (o := .lst []) D6 nc
      have hz7 : upd H6 c (.lst []) lf = some (.lst (zs.map V.int)) := by rw [upd_ne ncl.symm]; exact hz
      have hy7 : upd H6 c (.lst []) f = some (.lst (ys.map V.int)) := by rw [upd_ne ncf.symm]; exact hy
      have E7 := E6.trans e7
      refine ⟨lf, c, zs.map V.int, rfl, rfl, hz7, upd_same, _, rfl, ?_⟩
      generalize upd H6 c (.lst []) = H7 at D7 E7 hz7 hy7
      cases zs with
      | nil => exact iteF ⟨.ref f, rfl, q H7 f ys D7 E7 (by rw [hid_ne nfp nfl]; exact hy7) (by rw [List.append_nil] at hp; exact hp)⟩
      | cons z0 zr =>
        refine iteT ?_
        generalize hzz : z0 :: zr = zs at hz7 hp hll hz
        have hpos : 0 < zs.length := by rw [← hzz]; simp
        refine ⟨.ref f, rfl, .inl ⟨rfl, _, SqL.of hy7⟩, .ref lf, rfl, .inl ⟨rfl, _, SqL.of hz7⟩, .ref p, rfl, .ref lf, rfl, lf, _, rfl, .inl (SqL.of hz7), p, l, _, rfl, D7, by rw [List.length_map]; omega, fun H8 r D8 E8 h0 h1 => ?_⟩
        rw [List.length_map] at h1
        have hr : r.toNat < zs.length := by omega
        have hz8 : H8 lf = some (.lst (zs.map V.int)) := (hid_some (E8 lf _ (by rw [hid_ne nlp nll]; exact hz7))).2.2
        have hy8 : H8 f = some (.lst (ys.map V.int)) := (hid_some (E8 f _ (by rw [hid_ne nfp nfl]; exact hy7))).2.2
        have E9 := E7.trans E8
        refine ⟨lf, zs.map V.int, r, r.toNat, .int zs[r.toNat], rfl, rfl, hz8, by omega, by omega, seqIx h0 (by rw [List.length_map]; omega), by rw [List.getElem?_map, List.getElem?_eq_getElem hr]; rfl, ?_⟩
        refine ⟨f, ys.map V.int, .int zs[r.toNat], rfl, rfl, by rw [upd_ne nff]; exact hy8, szl (by rw [List.length_map]; omega), ?_⟩
        refine ⟨⟨zs.eraseIdx r.toNat, ys ++ [zs[r.toNat]], rfl, (D8.mut nlp nll).mut nfp nfl, Ext.mut (Ext.mut E9 nlf) nf0, ?_, ?_, ?_⟩, ?_⟩
        · rw [upd_ne nff.symm, upd_same, List.eraseIdx_eq_take_drop_succ, List.eraseIdx_eq_take_drop_succ, List.map_append, List.map_take, List.map_drop]
        · rw [upd_same, List.map_append]
          rfl
        · rw [List.append_assoc]
          exact (List.Perm.append_left ys (erase_perm zs hr)).trans hp
        · show (match upd (upd H8 lf _) f _ lf with | some (.lst zs) => zs.length | _ => 0) < (match H6 lf with | some (.lst zs) => zs.length | _ => 0)
          rw [upd_ne nff.symm, upd_same, hz]
          show ((zs.map V.int).eraseIdx r.toNat).length < (zs.map V.int).length
          rw [List.length_eraseIdx, List.length_map, if_pos hr]
          omega
    · rintro σ H6 Q1 Q2 hq ⟨x, hx, hs, g⟩
      refine ⟨x, hx, hs, fun c nc => ?_⟩
      obtain ⟨l', b, xs, i1, i2, i3, i4, kk, i5, i6⟩ := g c nc
      exact ⟨l', b, xs, i1, i2, i3, i4, kk, i5, hq _ _ i6⟩
end
end Kr

namespace Kr
open PySem PySem.Spec PyProof.Rows L2
/-! ### deeds -/
def mkDeed (lot : List Int) (a b : Int) : PyData := .tuple [.tuple (lot.map .int), .int a, .int b]
structure DeedOk (m : Int) (lot : List Int) (a b : Int) : Prop where
  rng : ∀ z ∈ lot, 0 ≤ z ∧ z < m
  a0 : 0 ≤ a
  ab : a < b
  bm : b < m
  na : a ∉ lot
  nb : b ∉ lot
  len : lot.length ≤ m.toNat
def spDeed : Sp := fun vs H Q _ => ∃ (p l : Addr) (m : Int), vs = [.ref p, .int m] ∧ Deck H p l ∧ 3 ≤ m ∧ m ≤ 90 ∧
  ∀ (H' : Hp) (v : V) (lot : List Int) (a b : Int), Deck H' p l → Ext p l H H' → Dq (hid p l H') v (mkDeed lot a b) → DeedOk m lot a b → Q v H'
theorem cut_mid (ys : List Int) {s : Int} (h0 : 0 ≤ s) (h2 : 2 ≤ ys.length) : cutV (ys.map V.int) (some 2) (some (2 + s)) = ((ys.drop 2).take s.toNat).map V.int := by
  unfold cutV
  have e1 : HT.sIx (ys.map V.int).length 0 (some 2) = min 2 (ys.map V.int).length := HT.sIx_nat _ _ 2
  have e2 : HT.sIx (ys.map V.int).length (ys.map V.int).length (some (2 + s)) = min (2 + s.toNat) (ys.map V.int).length := by
    rw [show (2 + s) = ((2 + s.toNat : Nat) : Int) by omega]
    exact HT.sIx_nat _ _ _
  rw [e1, e2, List.length_map, show min 2 ys.length = 2 by omega, ← List.map_drop, ← List.map_take]
  congr 1
  rw [List.take_eq_take_iff, List.length_drop]
  omega
theorem cut_two (ys : List Int) : cutV (ys.map V.int) none (some 2) = (ys.take 2).map V.int := by
  unfold cutV
  have e2 : HT.sIx (ys.map V.int).length (ys.map V.int).length (some 2) = min 2 (ys.map V.int).length := HT.sIx_nat _ _ 2
  rw [HT.sIx_none, e2, List.drop_zero, Nat.sub_zero, List.length_map, ← List.map_take]
  congr 1
  rw [List.take_eq_take_iff]
  omega
theorem rg_nodup (m : Nat) : ((List.range m).map fun i => ((i : Nat) : Int)).Nodup := by
  rw [List.Nodup, List.pairwise_map]
  exact List.nodup_range.imp (fun h z => h (by omega))
section
variable {P : Program} {w : World} {K : PySem.W.Frag} {mg : Str → Option Value} {base : Heap}
theorem scDeed : FnScope ["deck", "many", "row", "size"] ["deck", "many"] (defScope sDeed) := ⟨rfl, rfl, rfl, by decide +kernel, rfl, by decide +kernel, by decide +kernel⟩
theorem o_deed (D : Df K mg "_law_deed" sDeed ["deck", "many"]) (B : Bi mg) (d : Ok P w K mg base 1 "_law_draw" ["deck", "many"] spDraw) (dp : Ok P w K mg base 2 "_law_pick" ["deck", "items"] spPick) (dm : Ok P w K mg base 2 "_law_mixed" ["deck", "items"] spMixed) :
    Ok P w K mg base 3 "_law_deed" ["deck", "many"] spDeed := by
  refine D.ok fun fa fd F => F.ok scDeed (fun vs H Q E h => ?_) (fun cdv A outer s H vs Q E hr h => ?_)
  · obtain ⟨p, l, m, rfl, _⟩ := h
    rfl
  · obtain ⟨p, l, m, rfl, Dk, m0, m1, q⟩ := h
    have hr1 := hr.mono (show 1 ≤ 2 by decide)
    refine ⟨_, pss_cons (ps_set (i := 2) scDeed.nd rfl (.inl rfl) (pe_fn dm hr (by rfl) (pa_cons (pv 0) (pa_cons (pe_listRg rfl (by rfl) B.list (prg_1 (by rfl) B.range (pv 1))) pa_nil))))
      (pss_cons (ps_set (i := 3) scDeed.nd rfl (.inl rfl) (pe_fn dp hr (by rfl) (pa_cons (pv 0) (pa_cons (pe_lst (pa_cons pe_int (pa_cons pe_int (pa_cons pe_int (pa_cons pe_int (pa_cons (pe_fn d hr1 (by rfl) (pa_cons (pv 0) (pa_cons (pe_op op_sub (pv 1) pe_int) pa_nil))) pa_nil)))))) pa_nil))))
      (pss_one (ps_ret (pe_tup (pa_cons (pe_callTy call_tuple_of (by rfl) B.tuple (by decide +kernel) (pa_cons (pe_callB cr_sortedI (by rfl) B.sorted (by decide +kernel) (pa_cons (pe_slice sl_list (pv 2) (po_some pe_int) (po_some (pe_op op_add pe_int (pv 3)))) pa_nil)) pa_nil))
        (pa_cons (pe_callB (cr_min rfl) (by rfl) B.min (by decide +kernel) (pa_cons (pe_slice sl_list (pv 2) po_none (po_some pe_int)) pa_nil))
        (pa_cons (pe_callB (cr_max rfl) (by rfl) B.max (by decide +kernel) (pa_cons (pe_slice sl_list (pv 2) po_none (po_some pe_int)) pa_nil)) pa_nil))))))), ?_⟩
    refine ⟨.ref p, rfl, .int m, rfl, m, rfl, RgOk.of_le (Int.le_refl _) (by omega) (by decide) (by omega), fun c nc => ?_⟩
    have erg : rgV 0 m = ((List.range m.toNat).map fun i => ((i : Nat) : Int)).map V.int := by
      unfold rgV
      rw [List.map_map, show (m - 0) = m by omega]
      exact List.map_congr_left fun i _ => by simp
    obtain ⟨e1, D1, hc1⟩ := new_dq (o := .lst (((List.range m.toNat).map fun i => ((i : Nat) : Int)).map V.int)) Dk nc
    rw [erg]
    refine ⟨p, l, c, _, rfl, D1, hc1, by rw [List.length_map, List.length_range]; omega, fun H2 f ys D2 e2 hf hp => ?_⟩
    -- size
    refine ⟨.ref p, rfl, .ref p, rfl, .int m, rfl, m, 1, rfl, rfl, p, l, _, rfl, D2, by omega, fun H3 r D3 e3 r0 r1 => ⟨by show 5 ≤ sizeLine; decide, fun g ng => ?_⟩⟩
    obtain ⟨e4, D4, hg4⟩ := new_dq (o := .lst [.int 0, .int 1, .int 1, .int 2, .int r]) D3 ng
    refine ⟨p, l, g, _, rfl, D4, hg4, by simp, by show 5 < 1000000; decide, fun H5 v D5 e5 hv => ?_⟩
    obtain ⟨sz0, rfl, hs0⟩ : ∃ sz0 : Int, v = .int sz0 ∧ 0 ≤ sz0 := by
      simp only [List.mem_cons, List.not_mem_nil, or_false] at hv
      rcases hv with rfl | rfl | rfl | rfl | rfl
      · exact ⟨_, rfl, by decide⟩
      · exact ⟨_, rfl, by decide⟩
      · exact ⟨_, rfl, by decide⟩
      · exact ⟨_, rfl, by decide⟩
      · exact ⟨_, rfl, r0⟩
    have hf5 : hid p l H5 f = some (.lst (ys.map V.int)) := e5 _ _ (e4 _ _ (e3 _ _ hf))
    have E5 : Ext p l H H5 := e1.trans (e2.trans (e3.trans (e4.trans e5)))
    -- the row
    have hlen : ys.length = m.toNat := by
      rw [hp.length_eq, List.length_map, List.length_range]
    have hnd : ys.Nodup := hp.nodup_iff.mpr (rg_nodup _)
    have hmem : ∀ z ∈ ys, 0 ≤ z ∧ z < m := fun z hz => by
      obtain ⟨i, hi, rfl⟩ := List.mem_map.mp (hp.mem_iff.mp hz)
      have := List.mem_range.mp hi
      exact ⟨by omega, by omega⟩
    obtain ⟨x, y, zs, rfl⟩ : ∃ x y zs, ys = x :: y :: zs := by
      cases ys with
      | nil => simp at hlen; omega
      | cons x r =>
        cases r with
        | nil => simp at hlen; omega
        | cons y zs => exact ⟨x, y, zs, rfl⟩
    have hcut := cut_mid (x :: y :: zs) hs0 (by simp)
    have hcut2 := cut_two (x :: y :: zs)
    refine ⟨.ref f, rfl, 2, rfl, .int sz0, rfl, 2, sz0, rfl, rfl, 2 + sz0, rfl, f, _, rfl, SqL.of (hid_same p l _ _ _ hf5), fun c1 nc1 => ?_⟩
    rw [hcut]
    obtain ⟨e6, D6, hc6⟩ := new_dq (o := .lst ((((x :: y :: zs).drop 2).take sz0.toNat).map V.int)) D5 nc1
    refine ⟨c1, _, rfl, SqL.of (hid_same p l _ _ _ hc6), fun ls c2 hls hso nc2 => ?_⟩
    obtain ⟨e7, D7, hc7⟩ := new_dq (o := .lst (ls.map V.int)) D6 nc2
    refine ⟨c2, _, rfl, .inl ⟨SqL.of (hid_same p l _ _ _ hc7), fun t nt => ?_⟩⟩
    obtain ⟨e8, D8, ht8⟩ := new_dq (o := .tup (ls.map V.int)) D7 nt
    have hf8 := e8 _ _ (e7 _ _ (e6 _ _ hf5))
    refine ⟨.ref f, rfl, 2, rfl, f, _, rfl, SqL.of (hid_same p l _ _ _ hf8), fun c3 nc3 => ?_⟩
    rw [hcut2]
    obtain ⟨e9, D9, hc9⟩ := new_dq (o := .lst (((x :: y :: zs).take 2).map V.int)) D8 nc3
    refine ⟨c3, _, rfl, SqL.of (hid_same p l _ _ _ hc9), by simp, fun mn mn1 mn2 => ?_⟩
    have hf9 := e9 _ _ hf8
    refine ⟨.ref f, rfl, 2, rfl, f, _, rfl, SqL.of (hid_same p l _ _ _ hf9), fun c4 nc4 => ?_⟩
    rw [hcut2]
    obtain ⟨e10, D10, hc10⟩ := new_dq (o := .lst (((x :: y :: zs).take 2).map V.int)) D9 nc4
    refine ⟨c4, _, rfl, SqL.of (hid_same p l _ _ _ hc10), by simp, fun mx mx1 mx2 => ⟨by show 3 ≤ sizeLine; decide, fun tt ntt => ?_⟩⟩
    obtain ⟨e11, D11, ht11⟩ := new_dq (o := .tup [.ref t, .int mn, .int mx]) D10 ntt
    refine q _ _ ls mn mx D11 (E5.trans (e6.trans (e7.trans (e8.trans (e9.trans (e10.trans e11)))))) (.tup ht11 (.cons (.tup (e11 _ _ (e10 _ _ (e9 _ _ ht8))) (DqA.ints ls)) (.cons (.int _) (.cons (.int _) .nil)))) ?_
    simp only [List.take_succ_cons, List.take_zero, List.mem_cons, List.not_mem_nil, or_false, forall_eq_or_imp, forall_eq] at mn1 mn2 mx1 mx2
    have hsub : ∀ z ∈ ls, z ∈ zs := fun z hz => by
      have := hls.mem_iff.mp hz
      exact List.mem_of_mem_take (by simpa using this)
    have hxy : x ≠ y ∧ x ∉ zs ∧ y ∉ zs := by
      simp only [List.nodup_cons, List.mem_cons, not_or] at hnd
      exact ⟨hnd.1.1, hnd.1.2, hnd.2.1⟩
    have hx := hmem x (by simp)
    have hy := hmem y (by simp)
    have nls : ∀ z, (z = x ∨ z = y) → z ∉ ls := fun z hz hm => by
      rcases hz with rfl | rfl
      · exact hxy.2.1 (hsub _ hm)
      · exact hxy.2.2 (hsub _ hm)
    refine ⟨fun z hz => hmem z (by simp [hsub z hz]), by omega, by omega, by omega, nls mn mn1, nls mx mx1, ?_⟩
    have h1 := hls.length_eq
    rw [List.length_take] at h1
    simp at h1 hlen
    omega
end
end Kr

namespace Kr
open PySem PySem.Spec PyProof.Rows L2
/-! ### lots and what is wrong with deeds, over data -/
def asc : List Int → Bool
  | x :: y :: r => decide (x < y) && asc (y :: r)
  | _ => true
def lotOk (n : Int) : PyData → Bool
  | .tuple ds => ds.all (fun d => isB d 0 (n - 1)) && asc (ds.map iv)
  | _ => false
def isNo : PyData → Bool
  | .none => true
  | _ => false
def ascF : Int → List Int → Bool
  | _, [] => true
  | m, x :: r => decide (m ≤ x) && ascF (x + 1) r
theorem ascF_asc : ∀ (m x : Int) (r : List Int), ascF m (x :: r) = (decide (m ≤ x) && asc (x :: r))
  | m, x, [] => rfl
  | m, x, y :: r => by
    show (decide (m ≤ x) && ascF (x + 1) (y :: r)) = (decide (m ≤ x) && (decide (x < y) && asc (y :: r)))
    rw [ascF_asc (x + 1) y r]
    rfl
theorem isB_from {x : PyData} {m h : Int} (h0 : 0 ≤ m) : isB x m h = (isB x 0 h && decide (m ≤ iv x)) := by
  cases x with
  | int i =>
    show (decide (m ≤ i) && decide (i ≤ h)) = ((decide (0 ≤ i) && decide (i ≤ h)) && decide (m ≤ i))
    rw [Bool.eq_iff_iff]
    simp
    omega
  | _ => rfl
theorem lotGo_no (n : Int) : ∀ (m : Int) (i : Nat) (ds : List PyData), 0 ≤ m → isNo (lotGo n m i ds) = (ds.all (fun d => isB d 0 (n - 1)) && ascF m (ds.map iv))
  | _, _, [], _ => rfl
  | m, i, x :: r, h => by
    show isNo (if _ then _ else _) = ((isB x 0 (n - 1) && r.all _) && (decide (m ≤ iv x) && ascF (iv x + 1) (r.map iv)))
    by_cases hb : isB x m (n - 1) = true
    · have h2 := hb
      rw [isB_from h, Bool.and_eq_true] at h2
      rw [if_pos hb, lotGo_no n (iv x + 1) (i + 1) r (by have := of_decide_eq_true h2.2; omega), h2.1, h2.2]
      rfl
    · have h2 := Bool.eq_false_iff.mpr hb
      rw [isB_from h] at h2
      rw [if_neg hb]
      show false = _
      cases q1 : isB x 0 (n - 1) with
      | false => rfl
      | true =>
        rw [q1] at h2
        rw [show decide (m ≤ iv x) = false from h2]
        simp
theorem lotErr_no (n : Int) (d : PyData) : isNo (lotErr n d) = lotOk n d := by
  cases d with
  | tuple ds =>
    show isNo (lotGo n 0 0 ds) = (_ && _)
    rw [lotGo_no n 0 0 ds (Int.le_refl _)]
    cases ds with
    | nil => rfl
    | cons x r =>
      rw [List.map_cons, ascF_asc]
      by_cases hx : isB x 0 (n - 1) = true
      · obtain ⟨i, rfl, h0, _⟩ := isB_int hx
        rw [show decide ((0 : Int) ≤ iv (.int i)) = true from decide_eq_true h0, Bool.true_and]
      · rw [List.all_cons, Bool.eq_false_iff.mpr hx]
        rfl
  | _ => rfl
theorem Dq.no {H : Hp} {v : V} {d : PyData} (h : Dq H v d) : decide (v = .non) = isNo d := by
  cases h <;> simp [isNo]
def ivl : PyData → List Int
  | .tuple ds => ds.map iv
  | _ => []
def plOk (n : Int) (l x y : PyData) : Bool := isB x 0 (n - 1) && isB y 0 (n - 1) && decide (iv x < iv y) && !decide (iv x ∈ ivl l) && !decide (iv y ∈ ivl l)
def deedErr (n : Int) : PyData → PyData
  | .tuple [l, x, y] => if lotOk n l = true then (if plOk n l x y = true then .none else .str "places") else .str "lot"
  | _ => eForm
/-- a lot's data: whole numbers -/
theorem lotOk_ints {n : Int} {d : PyData} (h : lotOk n d = true) : ∃ ns : List Int, d = .tuple (ns.map .int) ∧ ∀ z ∈ ns, 0 ≤ z ∧ z ≤ n - 1 := by
  cases d with
  | tuple ds =>
    have h1 := (Bool.and_eq_true_iff.mp h).1
    rw [List.all_eq_true] at h1
    refine ⟨ds.map iv, ?_, fun z hz => ?_⟩
    · rw [List.map_map]
      congr 1
      refine (List.map_id ds).symm.trans (List.map_congr_left fun x hx => ?_)
      obtain ⟨i, rfl, _⟩ := isB_int (h1 x hx)
      rfl
    · obtain ⟨x, hx, rfl⟩ := List.mem_map.mp hz
      obtain ⟨i, rfl, g0, g1⟩ := isB_int (h1 x hx)
      exact ⟨g0, g1⟩
  | _ => cases h
theorem dq_tupI {H : Hp} {v : V} {ns : List Int} (h : Dq H v (.tuple (ns.map .int))) : ∃ a, v = .ref a ∧ H a = some (.tup (ns.map V.int)) := by
  generalize e : PyData.tuple (ns.map .int) = d at h
  cases h with
  | @tup a xs ds ea q =>
    cases e
    refine ⟨a, rfl, ?_⟩
    have : xs = ns.map V.int := by
      clear ea
      induction ns generalizing xs with
      | nil => cases q; rfl
      | cons n ns ih =>
        cases q with
        | cons q1 q2 =>
          cases q1
          rw [ih q2]
          rfl
    rw [← this]
    exact ea
  | _ => cases e
theorem inV_mem (r : Int) (ns : List Int) : inV (.int r) (ns.map V.int) = decide (r ∈ ns) := inV_ints r ns
end Kr

namespace Kr
open PySem PySem.Spec PyProof.Rows L2
theorem asc_iff : ∀ ns : List Int, asc ns = true ↔ ∀ (j : Nat) (x y : Int), ns[j]? = some x → ns[j + 1]? = some y → x < y
  | [] => by simp [asc]
  | [_] => by simp [asc]
  | x :: y :: r => by
    show (decide (x < y) && asc (y :: r)) = true ↔ _
    rw [Bool.and_eq_true, asc_iff (y :: r), decide_eq_true_eq]
    constructor
    · rintro ⟨h1, h2⟩ j u v hu hv
      cases j with
      | zero =>
        have e1 : x = u := Option.some.inj hu
        have e2 : y = v := Option.some.inj hv
        omega
      | succ j => exact h2 j u v hu hv
    · intro h
      exact ⟨h 0 x y rfl rfl, fun j u v hu hv => h (j + 1) u v hu hv⟩
theorem cut_one (xs : List V) : cutV xs (some 1) none = xs.drop 1 := by
  unfold cutV
  have e1 : HT.sIx xs.length 0 (some 1) = min 1 xs.length := HT.sIx_nat _ _ 1
  rw [e1, HT.sIx_none]
  cases xs with
  | nil => rfl
  | cons x r =>
    have e2 : min 1 (x :: r).length = 1 := by simp
    rw [e2]
    show List.take ((r.length + 1) - 1) r = r
    rw [Nat.add_sub_cancel]
    exact List.take_length
/-- v, v[1:] as arguments -/
theorem zip_args {K : PySem.W.Frag} {i : Nat} {a : Addr} {xs : List V} {σ : L2.St} {H : Hp} {Q : List V → Hp → Prop} (hv : σ[i]? = some (some (.ref a))) (hx : H a = some (.tup xs))
    (h : ∀ (b : Addr) (H3 : Hp), Same H H3 → H3 b = some (.tup (xs.drop 1)) → Q [.ref a, .ref b] H3) : tCons (tVar i) (tCons (tSl (rSlA K) (tVar i) (tPart (tC (.int 1))) tNoPart) tNil) σ H Q :=
  ⟨.ref a, hv, .ref a, hv, 1, rfl, a, xs, rfl, SqT.of hx, fun w => h a H (Same.refl _) (by
    have e1 : HT.sIx xs.length 0 (some 1) = min 1 xs.length := HT.sIx_nat _ _ 1
    have h0 := w.1
    rw [e1] at h0
    have : xs = [] := List.length_eq_zero_iff.mp (by omega)
    subst this
    exact hx), fun _ p np => by
    rw [cut_one]
    exact h p _ (same_new np) upd_same⟩
theorem weight_len : ∀ ds : List PyData, ds.length ≤ PyData.weightAll ds
  | [] => Nat.zero_le _
  | d :: ds => by
    have := weight_len ds
    simp only [PyData.weightAll, List.length_cons]
    omega
theorem weight_mem : ∀ (ds : List PyData) (d : PyData), d ∈ ds → d.weight ≤ PyData.weightAll ds
  | e :: ds, d, h => by
    simp only [PyData.weightAll]
    rcases List.mem_cons.mp h with h | h
    · rw [h]; omega
    · have := weight_mem ds d h
      omega
theorem weight_tup {ds : List PyData} {n : Nat} (h : (PyData.tuple ds).weight ≤ n) : ds.length ≤ n ∧ ∀ d ∈ ds, d.weight ≤ n := by
  simp only [PyData.weight] at h
  exact ⟨Nat.le_trans (weight_len ds) h, fun d hd => Nat.le_trans (weight_mem ds d hd) h⟩
theorem dqa_isB {H : Hp} {n : Int} : ∀ {xs : List V} {ds : List PyData}, DqA H xs ds → ds.all (fun d => isB d 0 (n - 1)) = true → ∃ ns : List Int, xs = ns.map V.int ∧ ds.map iv = ns
  | _, _, .nil, _ => ⟨[], rfl, rfl⟩
  | _, _, .cons h t, ha => by
    rw [List.all_cons, Bool.and_eq_true] at ha
    obtain ⟨ns, e1, e2⟩ := dqa_isB t ha.2
    obtain ⟨i, rfl, _⟩ := isB_int ha.1
    cases h
    exact ⟨i :: ns, by rw [e1]; rfl, by rw [List.map_cons, e2]; rfl⟩
def spLotB : Sp := fun vs H Q _ => ∃ (n : Int) (v : V) (d : PyData), vs = [.int n, v] ∧ Dq H v d ∧ d.weight ≤ 60000 ∧ ∀ H', Same H H' → Q (.bl (lotOk n d)) H'
abbrev nIL : List Str := ["many", "value", "item", "one", "other"]
section
variable {P : Program} {w : World} {K : PySem.W.Frag} {mg : Str → Option Value} {base : Heap}
theorem scIL : FnScope nIL ["many", "value"] (defScope sIsLot) := ⟨rfl, rfl, rfl, by decide +kernel, rfl, by decide +kernel, by decide +kernel⟩
theorem o_isLot (D : Df K mg "_law_is_lot" sIsLot ["many", "value"]) (B : Bi mg) (wh : Ok P w K mg base 1 "_law_is_whole" ["value", "low", "high"] spB) : Ok P w K mg base 2 "_law_is_lot" ["many", "value"] spLotB := by
  refine D.ok fun fa fd F => F.ok scIL (fun vs H Q E h => ?_) (fun cdv A outer s H vs Q E hr h => ?_)
  · obtain ⟨n, v, d, rfl, _⟩ := h
    rfl
  · obtain ⟨n, v, d, rfl, hd, hw, q⟩ := h
    have hu : (cxOf CX0 P w K mg base nIL "_law_is_lot" (defScope sIsLot) fa cdv A outer s H E).A.units + 64 < cLine := hr.units
    refine ⟨_, pss_cons (ps_if (PW.pt (pw_or (pt_not (pt_val (pe_callB call_isi (by rfl) B.isinstance (by decide +kernel) (pa_cons (pv 1) (pa_cons (pe_bltn (v := .ty "tuple") (by rfl) B.tuple (by decide +kernel) rfl) pa_nil)))))
        (pw_or1 (pt_cmpR (op_neN hu) (pe_lc (own := [("item", 2)]) (g := gName 2) rfl scIL.nd (pi_tup (pv 1)) (blkOk_by (own := [("item", 2)]) (N := nIL) (sc := defScope sIsLot) (by decide +kernel)) (fun _ _ _ _ _ => pg_name (i := 2) scIL.nd rfl (.inl rfl))
          (fun _ _ _ _ _ => pts_one (pt_not (pt_val (pe_fn wh hr (by rfl) (pa_cons (pv 2) (pa_cons pe_int (pa_cons (pe_op op_sub (pv 0) pe_int) pa_nil))))))) (fun _ _ _ _ _ => pe_int)) (pe_lst pa_nil) (nomark _))))) (pss_one (ps_ret pe_bl)) pss_nil)
      (pss_one (ps_ret (pe_cmpR (op_eqN hu) (pe_lc (own := [("one", 3), ("other", 4)]) (g := gTup K 2 (gCons (gName 3) (gCons (gName 4) gNil))) rfl scIL.nd (RZ.pi_zipA (by rfl) B.zip (pa_cons (pv 1) (pa_cons (pe_slice sl_tupA (pv 1) (po_some pe_int) po_none) pa_nil)))
        (blkOk_by (own := [("one", 3), ("other", 4)]) (N := nIL) (sc := defScope sIsLot) (by decide +kernel)) (fun _ _ _ _ _ => pg_tup rfl (pgs_cons (pg_name (i := 3) scIL.nd rfl (.inl rfl)) (pgs_cons (pg_name (i := 4) scIL.nd rfl (.inl rfl)) pgs_nil)))
        (fun _ _ _ _ _ => pts_one (pt_cmpR op_ge (pv 3) (pv 4) (nomark _))) (fun _ _ _ _ _ => pe_int)) (pe_lst pa_nil) (nomark _)))), ?_⟩
    refine ⟨v, rfl, v, .ty "tuple", _, _, isTu d, rfl, .ty "tuple", hd.ty, kit_tuple d, isTu d, rfl, ?_⟩
    by_cases ht : isTu d = true
    · rw [ht]
      refine iteF ?_
      cases hd with
      | @tup a xs ds e qa =>
        have hdl := (weight_tup hw).1
        have hxl : xs.length ≤ 60000 := by rw [qa.len]; exact hdl
        refine ⟨.ref a, rfl, a, rfl, ⟨_, SqT.of e⟩, fun Da nDa => lc_tup (K := K) (xs := xs) (fun i G2 => ∃ zs : List V, G2 Da = some (.lst zs) ∧ Same H G2 ∧ zs.length ≤ i ∧ zs.isEmpty = (ds.take i).all (fun d => isB d 0 (n - 1)))
          ⟨[], upd_same, same_new nDa, Nat.le_refl _, rfl⟩ (fun i G2 _ ⟨_, _, sm, _⟩ => SqT.of (sm _ _ e)) ?_ ?_⟩
        · rintro j x G2 hx ⟨zs, hDa, sm, hl, he⟩
          obtain ⟨dx, hdx, hqx⟩ := qa.get hx
          have etk : (ds.take (j + 1)).all (fun d => isB d 0 (n - 1)) = ((ds.take j).all (fun d => isB d 0 (n - 1)) && isB dx 0 (n - 1)) := by
            rw [List.take_add_one, hdx, List.all_append]
            simp
          refine ⟨rfl, x, rfl, .int n, rfl, n, 1, rfl, rfl, x, dx, 0, n - 1, rfl, hqx.up sm, isB dx 0 (n - 1), rfl, ?_⟩
          by_cases hb : isB dx 0 (n - 1) = true
          · rw [hb]
            refine iteF ⟨zs, hDa, sm, by omega, ?_⟩
            rw [etk, hb, Bool.and_true]
            exact he
          · rw [Bool.eq_false_iff.mpr hb]
            have hjl := (List.getElem?_eq_some_iff.mp hx).1
            refine iteT ⟨zs, hDa, ?_, zs ++ [.int 1], upd_same, fun b o hb' => ?_, by rw [List.length_append]; show _ + 1 ≤ _; omega, ?_⟩
            · exact szl (by omega)
            · rw [upd_ne (ne_of_none hb' nDa)]
              exact sm _ _ hb'
            · rw [etk, Bool.eq_false_iff.mpr hb, Bool.and_false]
              cases zs <;> rfl
        · rintro G2 ⟨zs, hDa, sm, hl, he⟩
          rw [List.take_of_length_le (by rw [← qa.len]; exact Nat.le_refl _)] at he
          refine ⟨by show 0 ≤ sizeLine; decide, fun b nb => ⟨Da, b, zs, rfl, rfl, same_new nb _ _ hDa, upd_same, _, rfl, ?_⟩⟩
          have sm2 := sm.trans (same_new (o := .lst []) nb)
          generalize upd G2 b (.lst []) = G3 at sm2
          by_cases ha : ds.all (fun d => isB d 0 (n - 1)) = true
          · rw [he, ha]
            refine iteF ?_
            obtain ⟨ns, rfl, emap⟩ := dqa_isB qa ha
            rw [List.length_map] at hxl
            have e3 := sm2 _ _ e
            dsimp only [tNext, tRet, tOp, tLc, RZ.iZipA]
            refine zip_args (K := K) (i := 1) (a := a) (xs := ns.map V.int) ?_ e3 fun b3 H3 s3 hb3 => ?_
            · rfl
            have sm3 := sm2.trans s3
            refine ⟨a, b3, _, _, rfl, .inr ⟨SqT.of (sm3 _ _ e), SqT.of hb3, fun Db nDb => ?_⟩⟩
            refine lc_it (walk_zipT (K := K) rfl) (fun i G => ∃ zs : List V, G Db = some (.lst zs) ∧ Same H3 G ∧ zs.length ≤ i ∧ (zs.isEmpty = true ↔ ∀ (j : Nat) (x y : Int), j < i → ns[j]? = some x → ns[j + 1]? = some y → x < y))
              ⟨[], upd_same, same_new nDb, Nat.le_refl _, by simp⟩ (fun i G _ ⟨_, _, s, _⟩ => ⟨SqT.of (s _ _ (sm3 _ _ e)), SqT.of (s _ _ hb3)⟩) ?_ ?_
            · rintro i _ G _ hi ⟨zs, hDb, s, hl, hz⟩ ⟨T, x, y, rfl, nT, rfl, f1, f2⟩
              dsimp only at f1 f2
              obtain ⟨u, hu1, rfl⟩ : ∃ u, ns[i]? = some u ∧ x = V.int u := by
                rw [List.getElem?_map] at f1
                cases g : ns[i]? with
                | none => rw [g] at f1; cases f1
                | some u => rw [g] at f1; exact ⟨u, rfl, (Option.some.inj f1).symm⟩
              obtain ⟨t, ht1, rfl⟩ : ∃ t, ns[i + 1]? = some t ∧ y = V.int t := by
                rw [List.getElem?_drop, List.getElem?_map, Nat.add_comm 1 i] at f2
                cases g : ns[i + 1]? with
                | none => rw [g] at f2; cases f2
                | some u => rw [g] at f2; exact ⟨u, rfl, (Option.some.inj f2).symm⟩
              have hil : i < ns.length := (List.getElem?_eq_some_iff.mp hu1).1
              have sT : Same G (upd G T (.tup [.int u, .int t])) := same_new nT
              have hDb2 := sT _ _ hDb
              refine ⟨T, [.int u, .int t], rfl, SqT.of upd_same, rfl, .int u, [.int t], rfl, .int t, [], rfl, rfl, rfl, .int u, rfl, .int t, rfl, u, t, rfl, rfl, _, rfl, ite2 (fun c => ?_) (fun c => ?_)⟩
              · have c2 : t ≤ u := of_decide_eq_true c
                refine ⟨zs, hDb2, szl (by omega), zs ++ [.int 1], upd_same, fun b o hb => ?_, by rw [List.length_append]; show _ + 1 ≤ _; omega, ?_⟩
                · rw [upd_ne (ne_of_none hb nDb)]
                  exact sT _ _ (s _ _ hb)
                · constructor
                  · intro z
                    cases zs <;> cases z
                  · intro z
                    have := z i u t (Nat.lt_succ_self i) hu1 ht1
                    omega
              · have c2 : u < t := Int.not_le.mp fun z => c (decide_eq_true z)
                refine ⟨zs, hDb2, s.trans sT, by omega, hz.trans ⟨fun g j x y hj h1 h2 => ?_, fun g j x y hj h1 h2 => g j x y (by omega) h1 h2⟩⟩
                by_cases e : j = i
                · subst e
                  have e1 : u = x := Option.some.inj (hu1.symm.trans h1)
                  have e2 : t = y := Option.some.inj (ht1.symm.trans h2)
                  omega
                · exact g j x y (by omega) h1 h2
            · rintro G ⟨zs, hDb, s, hl, hz⟩
              refine ⟨by show 0 ≤ sizeLine; decide, fun b nb => ⟨Db, b, zs, rfl, rfl, same_new nb _ _ hDb, upd_same, ?_⟩⟩
              have e0 : lotOk n (.tuple ds) = zs.isEmpty := by
                show (_ && _) = _
                rw [ha, Bool.true_and, emap, Bool.eq_iff_iff, hz, asc_iff]
                constructor
                · intro g j x y _ h1 h2
                  exact g j x y h1 h2
                · intro g j x y h1 h2
                  have := (List.getElem?_eq_some_iff.mp h2).1
                  refine g j x y ?_ h1 h2
                  rw [List.length_drop, List.length_map]
                  omega
              rw [← e0]
              exact q _ (sm3.trans (s.trans (same_new nb)))
          · rw [he, Bool.eq_false_iff.mpr ha]
            have e0 : lotOk n (.tuple ds) = false := by
              show (_ && _) = false
              rw [Bool.eq_false_iff.mpr ha]
              rfl
            rw [e0] at q
            exact iteT (q _ sm2)
      | _ => simp [isTu] at ht
    · rw [Bool.eq_false_iff.mpr ht]
      have e0 : lotOk n d = false := by cases d <;> first | rfl | exact absurd rfl ht
      rw [e0] at q
      exact iteT (iteT (q _ (Same.refl _)))
end
end Kr

namespace Kr
open PySem PySem.Spec PyProof.Rows L2
/-- what is wrong first, of data of some size -/
def spDue : Sp := fun vs H Q _ => ∃ (n : Int) (v : V) (d : PyData), vs = [.int n, v] ∧ Dq H v d ∧ d.weight ≤ 60000 ∧ ∀ H' r, Same H H' → Dq H' r (deedErr n d) → Q r H'
theorem dq3 {H : Hp} {v : V} {l x y : PyData} (h : Dq H v (.tuple [l, x, y])) : ∃ a u1 u2 u3, v = .ref a ∧ H a = some (.tup [u1, u2, u3]) ∧ Dq H u1 l ∧ Dq H u2 x ∧ Dq H u3 y := by
  cases h with
  | tup e q =>
    cases q with
    | cons q1 q =>
      cases q with
      | cons q2 q =>
        cases q with
        | cons q3 q =>
          cases q
          exact ⟨_, _, _, _, rfl, e, q1, q2, q3⟩
theorem is3 {d : PyData} (h : isT d 3 = true) : ∃ l x y, d = .tuple [l, x, y] := by
  cases d with
  | tuple ds =>
    have h1 : (ds.length : Int) = 3 := of_decide_eq_true h
    match ds, h1 with
    | [l, x, y], _ => exact ⟨l, x, y, rfl⟩
    | [], h => cases h
    | [_], h => simp at h
    | [_, _], h => simp at h
    | _ :: _ :: _ :: _ :: r, h => simp at h; omega
  | _ => cases h
theorem not3 {n : Int} {d : PyData} (h : isT d 3 = false) : deedErr n d = eForm := by
  cases d with
  | tuple ds =>
    match ds, h with
    | [l, x, y], h => cases h
    | [], _ => rfl
    | [_], _ => rfl
    | [_, _], _ => rfl
    | _ :: _ :: _ :: _ :: _, _ => rfl
  | _ => rfl
abbrev nDE : List Str := ["n", "value", "lot", "a", "b"]
abbrev nDu : List Str := ["many", "value", "lot", "a", "b"]
section
variable {P : Program} {w : World} {K : PySem.W.Frag} {mg : Str → Option Value} {base : Heap}
theorem scDE : FnScope nDE ["n", "value"] (defScope sDeedErr) := ⟨rfl, rfl, rfl, by decide +kernel, rfl, by decide +kernel, by decide +kernel⟩
theorem f_deedErr {f : Addr} {fd : FuncData} (F : Fun K "deed_error" "deed_error" sDeedErr f fd) (B : Bi mg) (tp : Ok P w K mg base 1 "is_tuple_of" ["value", "size"] spT) (bt : Ok P w K mg base 1 "is_between" ["value", "least", "most"] spB) (le : Ok P w K mg base 2 "lot_error" ["n", "value"] (spErr lotErr)) :
    FnOk P w K mg base CX0 3 f fd ["n", "value"] (spErr deedErr) := by
  refine F.ok scDE (fun vs H Q E h => ?_) (fun cdv A outer s H vs Q E hr h => ?_)
  · obtain ⟨n, v, d, rfl, _⟩ := h
    rfl
  · obtain ⟨n, v, d, rfl, hd, q⟩ := h
    have hr1 := hr.mono (show 1 ≤ 2 by decide)
    refine ⟨_, pss_cons (ps_if (pt_not (pt_val (pe_fn tp hr1 (by rfl) (pa_cons (pv 1) (pa_cons pe_int pa_nil))))) (pss_one (ps_ret pe_str)) pss_nil)
      (pss_cons (ps_asg (pv 1) (pg_tup rfl (pgs_cons (pg_name (i := 2) scDE.nd rfl (.inl rfl)) (pgs_cons (pg_name (i := 3) scDE.nd rfl (.inl rfl)) (pgs_cons (pg_name (i := 4) scDE.nd rfl (.inl rfl)) pgs_nil)))))
      (pss_cons (ps_if (pt_cmpR op_notN (pe_fn le hr (by rfl) (pa_cons (pv 0) (pa_cons (pv 2) pa_nil))) pe_non (nomark _)) (pss_one (ps_ret pe_str)) pss_nil)
      (pss_cons (ps_if (PW.pt (pw_or (pt_not (pt_val (pe_fn bt hr1 (by rfl) (pa_cons (pv 3) (pa_cons pe_int (pa_cons (pe_op op_sub (pv 0) pe_int) pa_nil))))))
        (pw_or (pt_not (pt_val (pe_fn bt hr1 (by rfl) (pa_cons (pv 4) (pa_cons (pe_op op_add (pv 3) pe_int) (pa_cons (pe_op op_sub (pv 0) pe_int) pa_nil))))))
        (pw_or (pt_cmpR op_in_seq (pv 3) (pv 2) rfl) (pw_or1 (pt_cmpR op_in_seq (pv 4) (pv 2) rfl)))))) (pss_one (ps_ret pe_str)) pss_nil)
      (pss_one (ps_ret pe_non))))), ?_⟩
    refine ⟨v, rfl, v, d, 3, rfl, hd, isT d 3, rfl, ?_⟩
    by_cases ht : isT d 3 = true
    · rw [ht]
      refine iteF ?_
      obtain ⟨l, x, y, rfl⟩ := is3 ht
      obtain ⟨a, u1, u2, u3, rfl, ea, q1, q2, q3⟩ := dq3 hd
      refine ⟨.ref a, rfl, a, _, rfl, SqT.of ea, rfl, u1, _, rfl, u2, _, rfl, u3, _, rfl, rfl, ?_⟩
      refine ⟨.int n, rfl, u1, rfl, n, u1, l, rfl, q1, fun H2 r s2 hr2 => ⟨rfl, _, rfl, ?_⟩⟩
      have hno := hr2.no
      rw [lotErr_no] at hno
      rw [hno]
      by_cases hl : lotOk n l = true
      · rw [hl]
        refine iteF ?_
        obtain ⟨ns, rfl, hb⟩ := lotOk_ints hl
        obtain ⟨la, rfl, hla⟩ := dq_tupI q1
        have hla2 := s2 _ _ hla
        have eD : deedErr n (.tuple [.tuple (ns.map .int), x, y]) = if plOk n (.tuple (ns.map .int)) x y = true then .none else .str "places" := by
          show (if _ then _ else _) = _
          rw [if_pos hl]
        have em : ivl (.tuple (ns.map .int)) = ns := by
          show (ns.map PyData.int).map iv = ns
          rw [List.map_map]
          exact List.map_id ns
        rw [eD] at q
        unfold plOk at q
        rw [em] at q
        refine ⟨u2, rfl, .int n, rfl, n, 1, rfl, rfl, u2, x, 0, n - 1, rfl, q2.up s2, isB x 0 (n - 1), rfl, ?_⟩
        by_cases hx : isB x 0 (n - 1) = true
        · rw [hx]
          refine iteF ?_
          obtain ⟨i, rfl, i0, i1⟩ := isB_int hx
          cases q2
          refine ⟨u3, rfl, .int i, rfl, i, 1, rfl, rfl, .int n, rfl, n, 1, rfl, rfl, u3, y, i + 1, n - 1, rfl, q3.up s2, isB y (i + 1) (n - 1), rfl, ?_⟩
          have hyb : isB y (i + 1) (n - 1) = (isB y 0 (n - 1) && decide (i < iv y)) := isB_from (by omega)
          have q' : ∀ H' r, Same H H' → Dq H' r (if (isB y 0 (n - 1) && decide (i < iv y) && !decide (i ∈ ns) && !decide (iv y ∈ ns)) = true then .none else .str "places") → Q r H' := by
            rw [hx, Bool.true_and] at q
            exact q
          rw [← hyb] at q'
          by_cases hy : isB y (i + 1) (n - 1) = true
          · rw [hy] at q' ⊢
            refine iteF ?_
            obtain ⟨j, rfl, j0, j1⟩ := isB_int hy
            cases q3
            refine ⟨.int i, rfl, .ref la, rfl, la, _, rfl, .inr (SqT.of hla2), rfl, flat_ints ns, _, rfl, ?_⟩
            rw [show (if false = true then !inV (V.int i) (ns.map V.int) else inV (V.int i) (ns.map V.int)) = decide (i ∈ ns) from inV_ints i ns]
            by_cases hi : i ∈ ns
            · rw [decide_eq_true hi] at q' ⊢
              exact iteT (q' _ _ s2 (.str _))
            · rw [decide_eq_false hi] at q' ⊢
              refine iteF ⟨.int j, rfl, .ref la, rfl, la, _, rfl, .inr (SqT.of hla2), rfl, flat_ints ns, _, rfl, ?_⟩
              rw [show (if false = true then !inV (V.int j) (ns.map V.int) else inV (V.int j) (ns.map V.int)) = decide (j ∈ ns) from inV_ints j ns]
              change ∀ H' r, Same H H' → Dq H' r (if (true && !false && !decide (j ∈ ns)) = true then .none else .str "places") → Q r H' at q'
              by_cases hj : j ∈ ns
              · rw [decide_eq_true hj] at q' ⊢
                exact iteT (q' _ _ s2 (.str _))
              · rw [decide_eq_false hj] at q' ⊢
                exact iteF (q' _ _ s2 .non)
          · rw [Bool.eq_false_iff.mpr hy] at q' ⊢
            exact iteT (iteT (q' _ _ s2 (.str _)))
        · rw [Bool.eq_false_iff.mpr hx] at q ⊢
          exact iteT (iteT (q _ _ s2 (.str _)))
      · rw [Bool.eq_false_iff.mpr hl]
        refine iteT (q _ _ s2 ?_)
        show Dq _ _ (if _ then _ else _)
        rw [if_neg hl]
        exact .str _
    · rw [Bool.eq_false_iff.mpr ht]
      refine iteT (q _ _ (Same.refl _) ?_)
      rw [not3 (Bool.eq_false_iff.mpr ht)]
      exact .str _
theorem scDu : FnScope nDu ["many", "value"] (defScope sDue) := ⟨rfl, rfl, rfl, by decide +kernel, rfl, by decide +kernel, by decide +kernel⟩
theorem o_due (D : Df K mg "_law_due" sDue ["many", "value"]) (B : Bi mg) (wh : Ok P w K mg base 1 "_law_is_whole" ["value", "low", "high"] spB) (il : Ok P w K mg base 2 "_law_is_lot" ["many", "value"] spLotB) :
    Ok P w K mg base 3 "_law_due" ["many", "value"] spDue := by
  refine D.ok fun fa fd F => F.ok scDu (fun vs H Q E h => ?_) (fun cdv A outer s H vs Q E hr h => ?_)
  · obtain ⟨n, v, d, rfl, _⟩ := h
    rfl
  · obtain ⟨n, v, d, rfl, hd, hw, q⟩ := h
    have hr1 := hr.mono (show 1 ≤ 2 by decide)
    refine ⟨_, pss_cons (ps_if (PW.pt (pw_or (pt_not (pt_val (pe_callB call_isi (by rfl) B.isinstance (by decide +kernel) (pa_cons (pv 1) (pa_cons (pe_bltn (v := .ty "tuple") (by rfl) B.tuple (by decide +kernel) rfl) pa_nil)))))
        (pw_or1 (pt_cmpR op_ne (pe_callB call_len_seq (by rfl) B.len boot_len (pa_cons (pv 1) pa_nil)) pe_int (nomark _))))) (pss_one (ps_ret pe_str)) pss_nil)
      (pss_cons (ps_asg (pv 1) (pg_tup rfl (pgs_cons (pg_name (i := 2) scDu.nd rfl (.inl rfl)) (pgs_cons (pg_name (i := 3) scDu.nd rfl (.inl rfl)) (pgs_cons (pg_name (i := 4) scDu.nd rfl (.inl rfl)) pgs_nil)))))
      (pss_cons (ps_if (pt_not (pt_val (pe_fn il hr (by rfl) (pa_cons (pv 0) (pa_cons (pv 2) pa_nil))))) (pss_one (ps_ret pe_str)) pss_nil)
      (pss_cons (ps_if (PW.pt (pw_or (pt_not (pt_val (pe_fn wh hr1 (by rfl) (pa_cons (pv 3) (pa_cons pe_int (pa_cons (pe_op op_sub (pv 0) pe_int) pa_nil))))))
        (pw_or1 (pt_not (pt_val (pe_fn wh hr1 (by rfl) (pa_cons (pv 4) (pa_cons pe_int (pa_cons (pe_op op_sub (pv 0) pe_int) pa_nil)))))))))
        (pss_one (ps_ret pe_str)) pss_nil)
      (pss_one (ps_ret (pe_ifExp (PW.pt (pw_and (pt_cmpR op_lt (pv 3) (pv 4) (nomark _)) (pw_and (pt_cmpR op_notIn_seq (pv 3) (pv 2) rfl) (pw_and1 (pt_cmpR op_notIn_seq (pv 4) (pv 2) rfl))))) pe_non pe_str)))))), ?_⟩
    refine ⟨v, rfl, v, .ty "tuple", _, _, isTu d, rfl, .ty "tuple", hd.ty, kit_tuple d, isTu d, rfl, ?_⟩
    by_cases htu : isTu d = true
    rotate_left
    · rw [Bool.eq_false_iff.mpr htu]
      refine iteT (iteT (q _ _ (Same.refl _) ?_))
      have e0 : deedErr n d = eForm := by cases d <;> first | rfl | exact absurd rfl htu
      rw [e0]
      exact .str _
    · rw [htu]
      refine iteF ?_
      obtain ⟨a, xs, ds, rfl, rfl, ea, qa⟩ : ∃ a xs ds, v = .ref a ∧ d = .tuple ds ∧ H a = some (.tup xs) ∧ DqA H xs ds := by
        cases hd with
        | tup e qt => exact ⟨_, _, _, rfl, rfl, e, qt⟩
        | _ => cases htu
      refine ⟨.ref a, rfl, a, xs, rfl, .inr (SqT.of ea), rfl, _, rfl, ?_⟩
      have e3 : decide (V.int (xs.length : Int) = V.int 3) = isT (.tuple ds) 3 := by
        show _ = decide ((ds.length : Int) = 3)
        rw [← qa.len]
        simp
      rw [e3]
      by_cases ht : isT (.tuple ds) 3 = true
      · rw [ht]
        refine iteF ?_
        obtain ⟨l, x, y, e4⟩ := is3 ht
        cases e4
        obtain ⟨a', u1, u2, u3, e5, ea', q1, q2, q3⟩ := dq3 hd
        cases e5
        have hwl : l.weight ≤ 60000 := (weight_tup hw).2 l List.mem_cons_self
        refine ⟨.ref a, rfl, a, _, rfl, SqT.of ea', rfl, u1, _, rfl, u2, _, rfl, u3, _, rfl, rfl, ?_⟩
        refine ⟨.int n, rfl, u1, rfl, n, u1, l, rfl, q1, hwl, fun H2 s2 => ⟨lotOk n l, rfl, ?_⟩⟩
        by_cases hl : lotOk n l = true
        · rw [hl]
          refine iteF ?_
          obtain ⟨ns, rfl, hb⟩ := lotOk_ints hl
          obtain ⟨la, rfl, hla⟩ := dq_tupI q1
          have hla2 := s2 _ _ hla
          have eD : deedErr n (.tuple [.tuple (ns.map .int), x, y]) = if plOk n (.tuple (ns.map .int)) x y = true then .none else .str "places" := by
            show (if _ then _ else _) = _
            rw [if_pos hl]
          have em : ivl (.tuple (ns.map .int)) = ns := by
            show (ns.map PyData.int).map iv = ns
            rw [List.map_map]
            exact List.map_id ns
          rw [eD] at q
          unfold plOk at q
          rw [em] at q
          refine ⟨u2, rfl, .int n, rfl, n, 1, rfl, rfl, u2, x, 0, n - 1, rfl, q2.up s2, isB x 0 (n - 1), rfl, ?_⟩
          by_cases hx : isB x 0 (n - 1) = true
          · rw [hx] at q ⊢
            refine iteF ⟨u3, rfl, .int n, rfl, n, 1, rfl, rfl, u3, y, 0, n - 1, rfl, q3.up s2, isB y 0 (n - 1), rfl, ?_⟩
            by_cases hy : isB y 0 (n - 1) = true
            · rw [hy] at q ⊢
              refine iteF ?_
              obtain ⟨i, rfl, i0, i1⟩ := isB_int hx
              obtain ⟨j, rfl, j0, j1⟩ := isB_int hy
              cases q2
              cases q3
              refine ⟨.int i, rfl, .int j, rfl, i, j, rfl, rfl, _, rfl, ?_⟩
              change ∀ H' r, Same H H' → Dq H' r (if (decide (i < j) && !decide (i ∈ ns) && !decide (j ∈ ns)) = true then .none else .str "places") → Q r H' at q
              by_cases hij : i < j
              · rw [decide_eq_true hij] at q ⊢
                refine iteT ⟨.int i, rfl, .ref la, rfl, la, _, rfl, .inr (SqT.of hla2), rfl, flat_ints ns, _, rfl, ?_⟩
                rw [show (if true = true then !inV (V.int i) (ns.map V.int) else inV (V.int i) (ns.map V.int)) = !decide (i ∈ ns) from congrArg (fun z => !z) (inV_ints i ns)]
                by_cases hi : i ∈ ns
                · rw [decide_eq_true hi] at q ⊢
                  exact iteF (iteF (q _ _ s2 (.str _)))
                · rw [decide_eq_false hi] at q ⊢
                  refine iteT ⟨.int j, rfl, .ref la, rfl, la, _, rfl, .inr (SqT.of hla2), rfl, flat_ints ns, _, rfl, ?_⟩
                  rw [show (if true = true then !inV (V.int j) (ns.map V.int) else inV (V.int j) (ns.map V.int)) = !decide (j ∈ ns) from congrArg (fun z => !z) (inV_ints j ns)]
                  by_cases hj : j ∈ ns
                  · rw [decide_eq_true hj] at q ⊢
                    exact iteF (q _ _ s2 (.str _))
                  · rw [decide_eq_false hj] at q ⊢
                    exact iteT (q _ _ s2 .non)
              · rw [decide_eq_false hij] at q ⊢
                exact iteF (iteF (q _ _ s2 (.str _)))
            · rw [Bool.eq_false_iff.mpr hy] at q ⊢
              exact iteT (q _ _ s2 (.str _))
          · rw [Bool.eq_false_iff.mpr hx] at q ⊢
            exact iteT (iteT (q _ _ s2 (.str _)))
        · rw [Bool.eq_false_iff.mpr hl]
          refine iteT (q _ _ s2 ?_)
          show Dq _ _ (if _ then _ else _)
          rw [if_neg hl]
          exact .str _
      · rw [Bool.eq_false_iff.mpr ht]
        refine iteT (q _ _ (Same.refl _) ?_)
        rw [not3 (Bool.eq_false_iff.mpr ht)]
        exact .str _
end
end Kr

namespace Kr
open PySem PySem.Spec PyProof.Rows L2
/-! ### deeds done -/
def gz (ss : List Int) (j : Int) : Int := ss.getD j.toNat 0
def exch (ss lot : List Int) (a b : Int) : List Int := if lot.any (fun j => !decide (gz ss j = 0)) = true then ss else (ss.set a.toNat (gz ss b)).set b.toNat (gz ss a)
structure InR (n : Nat) (lot : List Int) (a b : Int) : Prop where
  rng : ∀ z ∈ lot, 0 ≤ z ∧ z < n
  a0 : 0 ≤ a
  a1 : a < n
  b0 : 0 ≤ b
  b1 : b < n
  len : lot.length ≤ 1000
theorem at_gz {ss : List Int} {j : Int} (h0 : 0 ≤ j) (h1 : j < ss.length) : atI (ss.map V.int) j = some (.int (gz ss j)) := by
  refine atI_int h0 ?_
  have h : j.toNat < ss.length := by omega
  rw [List.getElem?_map, List.getElem?_eq_getElem h]
  unfold gz
  rw [List.getD_eq_getElem?_getD, List.getElem?_eq_getElem h]
  rfl
theorem ixn {n : Nat} {a : Int} (h0 : 0 ≤ a) (h1 : a < n) : ixN n a = some a.toNat := by
  unfold ixN
  rw [if_pos h0, if_pos h1]
theorem ne0 (z : Int) : (!decide (V.int z = V.int 0)) = !decide (z = 0) := by simp
def spDone : Sp := fun vs H Q _ => ∃ (st dd la : Addr) (ss lot : List Int) (a b : Int), vs = [.ref st, .ref dd] ∧ H st = some (.tup (ss.map V.int)) ∧ H dd = some (.tup [.ref la, .int a, .int b]) ∧ H la = some (.tup (lot.map V.int)) ∧ InR ss.length lot a b ∧ ss.length ≤ 1000 ∧
  ∀ (H' : Hp) (t : Addr), Same H H' → H' t = some (.tup ((exch ss lot a b).map V.int)) → Q (.ref t) H'
/-- the same of riders that are none below 0 -/
def spExch : Sp := fun vs H Q _ => ∃ (st dd la : Addr) (ss lot : List Int) (a b : Int), vs = [.ref st, .ref dd] ∧ H st = some (.tup (ss.map V.int)) ∧ H dd = some (.tup [.ref la, .int a, .int b]) ∧ H la = some (.tup (lot.map V.int)) ∧ InR ss.length lot a b ∧ ss.length ≤ 1000 ∧ (∀ z ∈ ss, 0 ≤ z) ∧
  ∀ (H' : Hp) (t : Addr), Same H H' → H' t = some (.tup ((exch ss lot a b).map V.int)) → Q (.ref t) H'
theorem mem_map_int {lot : List Int} {j : Nat} {x : V} (h : (lot.map V.int)[j]? = some x) : ∃ z, lot[j]? = some z ∧ z ∈ lot ∧ x = V.int z := by
  rw [List.getElem?_map] at h
  cases g : lot[j]? with
  | none => rw [g] at h; cases h
  | some u =>
    rw [g] at h
    exact ⟨u, rfl, List.mem_of_getElem? g, (Option.some.inj h).symm⟩
abbrev nDo : List Str := ["standing", "deed", "lot", "a", "b", "place", "items"]
abbrev nEx : List Str := ["standing", "deed", "lot", "a", "b", "found", "place"]
section
variable {P : Program} {w : World} {K : PySem.W.Frag} {mg : Str → Option Value} {base : Heap}
theorem scDo : FnScope nDo ["standing", "deed"] (defScope sDone) := ⟨rfl, rfl, rfl, by decide +kernel, rfl, by decide +kernel, by decide +kernel⟩
theorem f_done {f : Addr} {fd : FuncData} (F : Fun K "done" "done" sDone f fd) (B : Bi mg) : FnOk P w K mg base CX0 1 f fd ["standing", "deed"] spDone := by
  refine F.ok scDo (fun vs H Q E h => ?_) (fun cdv A outer s H vs Q E hr h => ?_)
  · obtain ⟨st, dd, la, ss, lot, a, b, rfl, _⟩ := h
    rfl
  · obtain ⟨st, dd, la, ss, lot, a, b, rfl, hst, hdd, hla, R, hsl, q⟩ := h
    refine ⟨_, pss_cons (ps_asg (pv 1) (pg_tup rfl (pgs_cons (pg_name (i := 2) scDo.nd rfl (.inl rfl)) (pgs_cons (pg_name (i := 3) scDo.nd rfl (.inl rfl)) (pgs_cons (pg_name (i := 4) scDo.nd rfl (.inl rfl)) pgs_nil)))))
      (pss_cons (ps_if (pt_val (pe_callB (cr_any rfl) (by rfl) B.any (by decide +kernel) (pa_cons
          (pe_lc (own := [("place", 5)]) (g := gName 5) rfl scDo.nd (pi_tup (pv 2)) (blkOk_by (own := [("place", 5)]) (N := nDo) (sc := defScope sDone) (by decide +kernel)) (fun _ _ _ _ _ => pg_name (i := 5) scDo.nd rfl (.inl rfl)) (fun _ _ _ _ _ => pts_nil)
            (fun _ _ _ _ _ => pe_cmpR op_ne (pe_ix (r := rIxT K) ix_tup (pv 0) (pv 5) (fun _ _ => rfl)) pe_int (nomark _))) pa_nil))) (pss_one (ps_ret (pv 0))) pss_nil)
      (pss_cons (ps_set (i := 6) scDo.nd rfl (.inl rfl) (pe_callTy call_list_of (by rfl) B.list (by decide +kernel) (pa_cons (pv 0) pa_nil)))
      (pss_cons (ps_asg (pe_ix ix_tup (pv 0) (pv 4) (fun _ _ => rfl)) (pg_sub (pv 6) (pv 3) set_list))
      (pss_cons (ps_asg (pe_ix ix_tup (pv 0) (pv 3) (fun _ _ => rfl)) (pg_sub (pv 6) (pv 4) set_list))
      (pss_one (ps_ret (pe_callTy call_tuple_of (by rfl) B.tuple (by decide +kernel) (pa_cons (pv 6) pa_nil)))))))), ?_⟩
    refine ⟨.ref dd, rfl, dd, _, rfl, SqT.of hdd, rfl, .ref la, _, rfl, .int a, _, rfl, .int b, _, rfl, rfl, ?_⟩
    refine ⟨.ref la, rfl, la, rfl, ⟨_, SqT.of hla⟩, fun Da nDa => lc_tup (K := K) (xs := lot.map V.int) (fun i G2 => ∃ bs : List Bool, G2 Da = some (.lst (bs.map V.bl)) ∧ Same H G2 ∧ bs = (lot.take i).map (fun j => !decide (gz ss j = 0)))
      ⟨[], upd_same, same_new nDa, rfl⟩ (fun i G2 _ ⟨_, _, sm, _⟩ => SqT.of (sm _ _ hla)) ?_ ?_⟩
    · rintro j _ G2 hx ⟨bs, hDa, sm, rfl⟩
      obtain ⟨z, hz, hzm, rfl⟩ := mem_map_int hx
      obtain ⟨z0, z1⟩ := R.rng z hzm
      have hjl := (List.getElem?_eq_some_iff.mp hz).1
      have hll := R.len
      refine ⟨rfl, ?_⟩
      dsimp only [tYes]
      rw [if_pos rfl]
      refine ⟨.ref st, rfl, .int z, rfl, st, _, z, _, rfl, rfl, SqT.of (sm _ _ hst), at_gz z0 z1, rfl, ?_⟩
      refine ⟨_, hDa, szl (by rw [List.length_map, List.length_map, List.length_take]; omega), (lot.take (j + 1)).map (fun j => !decide (gz ss j = 0)), ?_, fun b o hb' => ?_, rfl⟩
      · rw [upd_same, List.take_add_one, hz, List.map_append, List.map_append, ne0]
        rfl
      · rw [upd_ne (ne_of_none hb' nDa)]
        exact sm _ _ hb'
    · rintro G2 ⟨bs, hDa, sm, rfl⟩
      rw [List.length_map, List.take_length] at hDa
      refine ⟨Da, _, rfl, SqL.of hDa, _, rfl, ?_⟩
      have eany : (lot.map (fun j => !decide (gz ss j = 0))).any id = lot.any (fun j => !decide (gz ss j = 0)) := by
        rw [List.any_map]
        rfl
      rw [eany]
      unfold exch at q
      by_cases hb : lot.any (fun j => !decide (gz ss j = 0)) = true
      · rw [if_pos hb] at q
        rw [hb]
        exact iteT ⟨.ref st, rfl, q _ _ sm (sm _ _ hst)⟩
      · rw [if_neg hb] at q
        rw [Bool.eq_false_iff.mpr hb]
        refine iteF ⟨.ref st, rfl, st, _, rfl, .inr (SqT.of (sm _ _ hst)), fun it nit => ?_⟩
        have s2 := sm.trans (same_new (o := .lst (ss.map V.int)) nit)
        have nit0 : H it = none := sm.free nit
        have up : ∀ {G : Hp} {o : HO}, Same H G → Same H (upd G it o) := fun s c o h => by
          rw [upd_ne (ne_of_none h nit0)]
          exact s _ _ h
        refine ⟨.ref st, rfl, .int b, rfl, st, _, b, _, rfl, rfl, SqT.of (s2 _ _ hst), at_gz R.b0 R.b1, .ref it, rfl, .int a, rfl, it, _, a, a.toNat, rfl, rfl, upd_same, ixn R.a0 (by rw [List.length_map]; exact R.a1), ?_⟩
        have s3 := up (o := .lst ((ss.map V.int).set a.toNat (.int (gz ss b)))) s2
        refine ⟨.ref st, rfl, .int a, rfl, st, _, a, _, rfl, rfl, SqT.of (s3 _ _ hst), at_gz R.a0 R.a1, .ref it, rfl, .int b, rfl, it, _, b, b.toNat, rfl, rfl, upd_same, ixn R.b0 (by rw [List.length_set, List.length_map]; exact R.b1), ?_⟩
        have s4 := up (o := .lst (((ss.map V.int).set a.toNat (.int (gz ss b))).set b.toNat (.int (gz ss a)))) s3
        refine ⟨.ref it, rfl, it, _, rfl, .inl ⟨SqL.of upd_same, fun t nt => ?_⟩⟩
        refine q _ t (s4.trans (same_new nt)) ?_
        rw [upd_same, List.map_set, List.map_set]
theorem scEx : FnScope nEx ["standing", "deed"] (defScope sExch) := ⟨rfl, rfl, rfl, by decide +kernel, rfl, by decide +kernel, by decide +kernel⟩
theorem o_exch (D : Df K mg "_law_exchanged" sExch ["standing", "deed"]) (B : Bi mg) : Ok P w K mg base 1 "_law_exchanged" ["standing", "deed"] spExch := by
  refine D.ok fun fa fd F => F.ok scEx (fun vs H Q E h => ?_) (fun cdv A outer s H vs Q E hr h => ?_)
  · obtain ⟨st, dd, la, ss, lot, a, b, rfl, _⟩ := h
    rfl
  · obtain ⟨st, dd, la, ss, lot, a, b, rfl, hst, hdd, hla, R, hsl, hp, q⟩ := h
    have hu : (cxOf CX0 P w K mg base nEx "_law_exchanged" (defScope sExch) fa cdv A outer s H E).A.units + 64 < cLine := hr.units
    refine ⟨_, pss_cons (ps_asg (pv 1) (pg_tup rfl (pgs_cons (pg_name (i := 2) scEx.nd rfl (.inl rfl)) (pgs_cons (pg_name (i := 3) scEx.nd rfl (.inl rfl)) (pgs_cons (pg_name (i := 4) scEx.nd rfl (.inl rfl)) pgs_nil)))))
      (pss_cons (ps_set (i := 5) scEx.nd rfl (.inl rfl) (pe_callTy call_list_of (by rfl) B.list (by decide +kernel) (pa_cons (pv 0) pa_nil)))
      (pss_cons (ps_if (pt_cmpR (op_eqN hu) (pe_lc (own := [("place", 6)]) (g := gName 6) rfl scEx.nd (pi_tup (pv 2)) (blkOk_by (own := [("place", 6)]) (N := nEx) (sc := defScope sExch) (by decide +kernel)) (fun _ _ _ _ _ => pg_name (i := 6) scEx.nd rfl (.inl rfl))
            (fun _ _ _ _ _ => pts_one (pt_cmpR op_gt (pe_ix (r := rIxT K) ix_tup (pv 0) (pv 6) (fun _ _ => rfl)) pe_int (nomark _))) (fun _ _ _ _ _ => pe_int)) (pe_lst pa_nil) (nomark _))
          (pss_one (ps_asg (pe_tup (pa_cons (pe_ix ix_tup (pv 0) (pv 4) (fun _ _ => rfl)) (pa_cons (pe_ix ix_tup (pv 0) (pv 3) (fun _ _ => rfl)) pa_nil))) (pg_tup rfl (pgs_cons (pg_sub (pv 5) (pv 3) set_list) (pgs_cons (pg_sub (pv 5) (pv 4) set_list) pgs_nil))))) pss_nil)
      (pss_one (ps_ret (pe_callTy call_tuple_of (by rfl) B.tuple (by decide +kernel) (pa_cons (pv 5) pa_nil)))))), ?_⟩
    refine ⟨.ref dd, rfl, dd, _, rfl, SqT.of hdd, rfl, .ref la, _, rfl, .int a, _, rfl, .int b, _, rfl, rfl, ?_⟩
    refine ⟨.ref st, rfl, st, _, rfl, .inr (SqT.of hst), fun it nit => ?_⟩
    have s1 : Same H (upd H it (.lst (ss.map V.int))) := same_new nit
    have hit : upd H it (.lst (ss.map V.int)) it = some (.lst (ss.map V.int)) := upd_same
    generalize upd H it (.lst (ss.map V.int)) = H1 at s1 hit
    refine ⟨.ref la, rfl, la, rfl, ⟨_, SqT.of (s1 _ _ hla)⟩, fun Da nDa => lc_tup (K := K) (xs := lot.map V.int) (fun i G2 => ∃ zs : List V, G2 Da = some (.lst zs) ∧ Same H1 G2 ∧ zs.length ≤ i ∧ zs.isEmpty = !(lot.take i).any (fun j => !decide (gz ss j = 0)))
      ⟨[], upd_same, same_new nDa, Nat.le_refl _, rfl⟩ (fun i G2 _ ⟨_, _, sm, _⟩ => SqT.of (sm _ _ (s1 _ _ hla))) ?_ ?_⟩
    · rintro j _ G2 hx ⟨zs, hDa, sm, hl, he⟩
      obtain ⟨z, hz, hzm, rfl⟩ := mem_map_int hx
      obtain ⟨z0, z1⟩ := R.rng z hzm
      have hjl := (List.getElem?_eq_some_iff.mp hz).1
      have hll := R.len
      have hpz : 0 ≤ gz ss z := by
        unfold gz
        have h : z.toNat < ss.length := by omega
        rw [List.getD_eq_getElem?_getD, List.getElem?_eq_getElem h]
        exact hp _ (List.getElem_mem h)
      have etk : (lot.take (j + 1)).any (fun j => !decide (gz ss j = 0)) = ((lot.take j).any (fun j => !decide (gz ss j = 0)) || !decide (gz ss z = 0)) := by
        rw [List.take_add_one, hz, List.any_append]
        simp
      refine ⟨rfl, .ref st, rfl, .int z, rfl, st, _, z, _, rfl, rfl, SqT.of (sm _ _ (s1 _ _ hst)), at_gz z0 z1, _, _, rfl, rfl, _, rfl, ite2 (fun c => ?_) (fun c => ?_)⟩
      · have c2 : ¬ gz ss z = 0 := fun e => by
          have := of_decide_eq_true c
          omega
        refine ⟨zs, hDa, szl (by omega), zs ++ [.int 1], upd_same, fun b o hb' => ?_, by rw [List.length_append]; show _ + 1 ≤ _; omega, ?_⟩
        · rw [upd_ne (ne_of_none hb' nDa)]
          exact sm _ _ hb'
        · rw [etk, decide_eq_false c2]
          cases zs <;> simp
      · have c2 : gz ss z = 0 := by
          by_cases e : gz ss z = 0
          · exact e
          · exact absurd (decide_eq_true (show gz ss z > 0 by omega)) c
        refine ⟨zs, hDa, sm, by omega, ?_⟩
        rw [etk, decide_eq_true c2, he]
        simp
    · rintro G2 ⟨zs, hDa, sm, hl, he⟩
      rw [List.length_map, List.take_length] at he
      refine ⟨by show 0 ≤ sizeLine; decide, fun e ne => ⟨Da, e, zs, rfl, rfl, same_new ne _ _ hDa, upd_same, _, rfl, ?_⟩⟩
      have s2 := sm.trans (same_new (o := .lst []) ne)
      generalize upd G2 e (.lst []) = G3 at s2
      rw [he]
      have s3 := s1.trans s2
      have hit3 := s2 _ _ hit
      unfold exch at q
      by_cases hb : lot.any (fun j => !decide (gz ss j = 0)) = true
      · rw [if_pos hb] at q
        rw [hb]
        exact iteF ⟨.ref it, rfl, it, _, rfl, .inl ⟨SqL.of hit3, fun t nt => q _ t (s3.trans (same_new nt)) upd_same⟩⟩
      · rw [if_neg hb] at q
        rw [Bool.eq_false_iff.mpr hb]
        have up : ∀ {G : Hp} {o : HO}, Same H G → Same H (upd G it o) := fun s c o h => by
          rw [upd_ne (ne_of_none h nit)]
          exact s _ _ h
        refine iteT ⟨.ref st, rfl, .int b, rfl, st, _, b, _, rfl, rfl, SqT.of (s3 _ _ hst), at_gz R.b0 R.b1, .ref st, rfl, .int a, rfl, st, _, a, _, rfl, rfl, SqT.of (s3 _ _ hst), at_gz R.a0 R.a1, by show 2 ≤ sizeLine; decide, fun t nt => ?_⟩
        have s4 := s3.trans (same_new (o := .tup [.int (gz ss b), .int (gz ss a)]) nt)
        have hit4 := same_new (o := .tup [.int (gz ss b), .int (gz ss a)]) nt _ _ hit3
        refine ⟨t, [.int (gz ss b), .int (gz ss a)], rfl, SqT.of upd_same, rfl, .int (gz ss b), [.int (gz ss a)], rfl, ?_⟩
        generalize upd G3 t (.tup [.int (gz ss b), .int (gz ss a)]) = G4 at s4 hit4
        refine ⟨.ref it, rfl, .int a, rfl, it, _, a, a.toNat, rfl, rfl, hit4, ixn R.a0 (by rw [List.length_map]; exact R.a1), .int (gz ss a), [], rfl, ?_⟩
        have s5 := up (o := .lst ((ss.map V.int).set a.toNat (.int (gz ss b)))) s4
        refine ⟨.ref it, rfl, .int b, rfl, it, _, b, b.toNat, rfl, rfl, upd_same, ixn R.b0 (by rw [List.length_set, List.length_map]; exact R.b1), rfl, ?_⟩
        have s6 := up (o := .lst (((ss.map V.int).set a.toNat (.int (gz ss b))).set b.toNat (.int (gz ss a)))) s5
        refine ⟨.ref it, rfl, it, _, rfl, .inl ⟨SqL.of upd_same, fun t nt => ?_⟩⟩
        refine q _ t (s6.trans (same_new nt)) ?_
        rw [upd_same, List.map_set, List.map_set]
end
end Kr

namespace Kr
open PySem PySem.Spec PyProof.Rows L2
section
variable {p l : Addr} {σ : L2.St} {H : Hp} {te ta' tb : TE} {ta : TA} {R S R' : PyData → Prop} {n m : Nat} {K : PySem.W.Frag}
theorem ev_draw {j : Nat} {k : Int} (hj : σ[j]? = some (some (.ref p))) (hk : EvI te σ k) (hb : k < 1073741824) (r : ∀ z : Int, 0 ≤ z → (z < k ∨ z = 0) → R (.int z)) : EvP p l (tCall spDraw [] E0 (tCons (tVar j) (tCons te tNil))) σ H R := fun H1 e D Q q =>
  ⟨_, hj, hk H1 _ ⟨p, l, k, rfl, D, hb, fun H2 z D2 e2 h0 h1 => q _ H2 _ e2 D2 (.int z) (r z h0 h1)⟩⟩
theorem ev_rev {j : Nat} {v : V} {ds : List PyData} (hj : σ[j]? = some (some v)) (hd : Dq (hid p l H) v (.tuple ds)) (r : R (.tuple ds.reverse)) : EvP p l (tRevT K (tVar j)) σ H R := fun H1 e D Q q => by
  have hd' := hd.up e
  cases hd' with
  | @tup a xs _ ea qa =>
    refine ⟨_, hj, a, xs, rfl, SqT.of (hid_same p l _ _ _ ea), fun c nc => ?_⟩
    obtain ⟨e4, D4, hc⟩ := new_dq (o := .tup xs.reverse) D nc
    exact q _ _ _ e4 D4 (.tup hc (qa.rev.up e4)) r
theorem ei_neg {i : Int} (ha : EvI ta' σ i) : EvI (tUn (rU fun i => .int (-i)) ta') σ (-i) := fun H Q q => ha H _ ⟨i, rfl, q⟩
/-- list(t) -/
theorem ev_listOf {j : Nat} {v : V} {ds : List PyData} (hj : σ[j]? = some (some v)) (hd : Dq (hid p l H) v (.tuple ds)) (r : R (.list ds)) :
    EvP p l (tCB (fun xs H Q => ∃ p ys, xs = [V.ref p] ∧ (SqL K H p ys ∨ SqT K H p ys) ∧ ∀ l, H l = none → Q (.ref l) (upd H l (.lst ys))) (tCons (tVar j) tNil)) σ H R := fun H1 e D Q q => by
  have hd' := hd.up e
  cases hd' with
  | @tup a xs _ ea qa =>
    refine ⟨_, hj, a, xs, rfl, .inr (SqT.of (hid_same p l _ _ _ ea)), fun c nc => ?_⟩
    obtain ⟨e4, D4, hc⟩ := new_dq (o := .lst xs) D nc
    exact q _ _ _ e4 D4 (.lst hc (qa.up e4)) r
/-- t + u, tuples -/
theorem ev_catA {j : Nat} {v : V} {ds : List PyData} (hj : σ[j]? = some (some v)) (hd : Dq (hid p l H) v (.tuple ds)) (h : EvP p l te σ H (AllT S m)) (hl : ds.length + m ≤ 100000) (r : ∀ es : List PyData, es.length ≤ m → (∀ x ∈ es, S x) → R (.tuple (ds ++ es))) :
    EvP p l (tOp (rCatA K) (tVar j) te) σ H R := fun H1 e D Q q =>
  ⟨_, hj, h H1 e D _ fun u H2 d2 e2 D2 hu hr => by
    obtain ⟨es, rfl, hel, hes⟩ := hr
    have hd' := hd.up (e.trans e2)
    cases hd' with
    | @tup a xs _ ea qa =>
      cases hu with
      | @tup b ys _ eb qb =>
        have hx := qa.len
        have hy := qb.len
        refine ⟨a, b, xs, ys, rfl, rfl, SqT.of (hid_same p l _ _ _ ea), SqT.of (hid_same p l _ _ _ eb), sz (by omega), fun z => ?_, fun _ z => ?_, fun _ _ c nc => ?_⟩
        · subst z
          have : ds = [] := List.length_eq_zero_iff.mp hx.symm
          subst this
          exact q _ _ _ e2 D2 (.tup eb qb) (r es hel hes)
        · subst z
          have : es = [] := List.length_eq_zero_iff.mp hy.symm
          subst this
          have := r [] hel hes
          rw [List.append_nil] at this
          exact q _ _ _ e2 D2 (.tup ea qa) this
        · obtain ⟨e4, D4, hc⟩ := new_dq (o := .tup (xs ++ ys)) D2 nc
          exact q _ _ _ (e2.trans e4) D4 (.tup hc ((qa.up e4).app (qb.up e4))) (r es hel hes)⟩
/-- a if t else b, t known -/
theorem ev_ifT {t : TT} (ht : ∀ (H1 : Hp) (Q : Bool → Hp → Prop), Ext p l H H1 → Deck H1 p l → (∀ H2, Ext p l H1 H2 → Deck H2 p l → Q true H2) → t σ H1 Q) (h : EvP p l ta' σ H R) : EvP p l (tIf t ta' tb) σ H R := fun H1 e D Q q =>
  ht H1 _ e D fun H2 e2 D2 => iteT (h H2 (e.trans e2) D2 Q fun v H3 d e3 D3 hd r => q v H3 d (e2.trans e3) D3 hd r)
theorem ev_ifF {t : TT} (ht : ∀ (H1 : Hp) (Q : Bool → Hp → Prop), Ext p l H H1 → Deck H1 p l → (∀ H2, Ext p l H1 H2 → Deck H2 p l → Q false H2) → t σ H1 Q) (h : EvP p l tb σ H R) : EvP p l (tIf t ta' tb) σ H R := fun H1 e D Q q =>
  ht H1 _ e D fun H2 e2 D2 => iteF (h H2 (e.trans e2) D2 Q fun v H3 d e3 D3 hd r => q v H3 d (e2.trans e3) D3 hd r)
end
theorem sm5 {x : Str} (h : (x.cps.toList.all fun c => decide (c < 16 ^ 8)) = true) (hs : x.length ≤ 140) : Sm 1 140 (.str x) :=
  ⟨by simp [PyData.showable], by simpa [PyData.leavesShort] using h, by simp [PyData.depth], hs⟩
/-- an item of a spoilt deed; a spoilt deed -/
abbrev S2 (d : PyData) : Prop := Sm 2 8600 d
abbrev S5 (d : PyData) : Prop := Sm 5 60000 d
theorem Sm.s2 {d : PyData} (h : Sm 1 140 d) : S2 d := h.mono (by decide) (by decide)
theorem Sm.s5 {d : PyData} (h : S2 d) : S5 d := h.mono (by decide) (by decide)
theorem s2_int {i : Int} (h0 : -1000 ≤ i) (h1 : i ≤ 1000) : Sm 1 140 (.int i) := .int (Nat.lt_of_le_of_lt (show i.natAbs ≤ 1000 by omega) (by decide +kernel))
theorem s2_tup {ds : List PyData} (h : ∀ d ∈ ds, Sm 1 140 d) (hl : ds.length ≤ 60) : S2 (.tuple ds) := (Sm.tup h hl).mono (by decide) (by decide)
theorem s2_lst {ds : List PyData} (h : ∀ d ∈ ds, Sm 1 140 d) (hl : ds.length ≤ 60) : S2 (.list ds) := (Sm.lst h hl).mono (by decide) (by decide)
theorem s5_tup {ds : List PyData} (h : ∀ d ∈ ds, S2 d) (hl : ds.length ≤ 4) : S5 (.tuple ds) := (Sm.tup h hl).mono (by decide) (by decide)
theorem s5_lst {ds : List PyData} (h : ∀ d ∈ ds, S2 d) (hl : ds.length ≤ 4) : S5 (.list ds) := (Sm.lst h hl).mono (by decide) (by decide)
theorem lot_sm {m : Int} {lot : List Int} (h : ∀ z ∈ lot, 0 ≤ z ∧ z < m) (hm : m ≤ 90) : ∀ d ∈ lot.map PyData.int, Sm 1 140 d := fun d hd => by
  obtain ⟨z, hz, rfl⟩ := List.mem_map.mp hd
  have := h z hz
  exact s2_int (by omega) (by omega)
end Kr

namespace Kr
open PySem PySem.Spec PyProof.Rows L2
def spSpoilt5 : Sp := fun vs H Q _ => ∃ (p l : Addr) (m : Int) (v : V) (lot : List Int) (a b : Int), vs = [.ref p, .int m, v] ∧ Deck H p l ∧ 3 ≤ m ∧ m ≤ 30 ∧ Dq (hid p l H) v (mkDeed lot a b) ∧ DeedOk m lot a b ∧
  ∀ (H' : Hp) (r : V) (d : PyData), Deck H' p l → Ext p l H H' → Dq (hid p l H') r d → S5 d → Q r H'
abbrev nS5 : List Str := ["deck", "many", "deed", "lot", "a", "b", "way", "place", "odd"]
section
variable {P : Program} {w : World} {K : PySem.W.Frag} {mg : Str → Option Value} {base : Heap}
theorem scS5 : FnScope nS5 ["deck", "many", "deed"] (defScope sSpoilt) := ⟨rfl, rfl, rfl, by decide +kernel, rfl, by decide +kernel, by decide +kernel⟩
theorem o_spoilt5 (D : Df K mg "_law_spoilt" sSpoilt ["deck", "many", "deed"]) (B : Bi mg) (d : Ok P w K mg base 1 "_law_draw" ["deck", "many"] spDraw) (dp : Ok P w K mg base 2 "_law_pick" ["deck", "items"] spPick) :
    Ok P w K mg base 3 "_law_spoilt" ["deck", "many", "deed"] spSpoilt5 := by
  refine D.ok fun f fd F => F.ok scS5 (fun vs H Q E h => ?_) (fun cdv A outer s H vs Q E hr h => ?_)
  · obtain ⟨p, l, m, v, lot, a, b, rfl, _⟩ := h
    rfl
  · obtain ⟨p, l, m, v, lot, a, b, rfl, Dk, m0, m1, hd, ok, q⟩ := h
    have hr1 := hr.mono (show 1 ≤ 2 by decide)
    have hu : (cxOf CX0 P w K mg base nS5 "_law_spoilt" (defScope sSpoilt) f cdv A outer s H E).A.units + 64 < cLine := hr.units
    refine ⟨_, pss_cons (ps_asg (pv 2) (pg_tup rfl (pgs_cons (pg_name (i := 3) scS5.nd rfl (.inl rfl)) (pgs_cons (pg_name (i := 4) scS5.nd rfl (.inl rfl)) (pgs_cons (pg_name (i := 5) scS5.nd rfl (.inl rfl)) pgs_nil)))))
      (pss_cons (ps_par (i := 6) (j := 7) rfl scS5.nd rfl rfl (by decide) rfl rfl (pa_cons (pe_fn d hr1 (by rfl) (pa_cons (pv 0) (pa_cons pe_int pa_nil))) (pa_cons (pe_fn d hr1 (by rfl) (pa_cons (pv 0) (pa_cons (pv 1) pa_nil))) pa_nil)) (by rfl))
      (pss_cons (ps_set (i := 8) scS5.nd rfl (.inl rfl) (pe_lst (pa_cons (pv 1) (pa_cons (pe_un un_neg pe_int) (pa_cons pe_bl (pa_cons pe_bl (pa_cons pe_non (pa_cons pe_str (pa_cons (pe_tup (pa_cons pe_int pa_nil)) (pa_cons (pe_op op_pow pe_int pe_int)
        (pa_cons (pv 7) (pa_cons (pv 7) (pa_cons (pe_lst (pa_cons pe_int pa_nil)) (pa_cons pe_dnewK (pa_cons (pe_tup (pa_cons (pe_lst pa_nil) pa_nil)) pa_nil)))))))))))))))
      (pss_cons (ps_if (pt_cmpR op_eq (pv 6) pe_int (nomark _)) (pss_one (ps_ret (pe_tup (pa_cons (pv 3) (pa_cons (pv 5) (pa_cons (pv 4) pa_nil)))))) pss_nil)
      (pss_cons (ps_if (pt_cmpR op_eq (pv 6) pe_int (nomark _)) (pss_one (ps_ret (pe_ifExp (pt_cmpR (op_eqT0 hu) (pv 3) (pe_tup pa_nil) (nomark _)) (pe_tup (pa_cons (pv 3) (pa_cons (pv 4) (pa_cons (pv 4) pa_nil))))
        (pe_tup (pa_cons (pv 3) (pa_cons (pe_callB (call_min2 rfl) (by rfl) B.min (by decide +kernel) (pa_cons (pe_ix ix_tup (pv 3) pe_int (fun _ _ => rfl)) (pa_cons (pv 5) pa_nil))) (pa_cons (pe_callB (call_max2 rfl) (by rfl) B.max (by decide +kernel) (pa_cons (pe_ix ix_tup (pv 3) pe_int (fun _ _ => rfl)) (pa_cons (pv 5) pa_nil))) pa_nil))))))) pss_nil)
      (pss_cons (ps_if (pt_cmpR op_eq (pv 6) pe_int (nomark _)) (pss_one (ps_ret (pe_tup (pa_cons (pv 3) (pa_cons (pe_fn dp hr (by rfl) (pa_cons (pv 0) (pa_cons (pv 8) pa_nil))) (pa_cons (pv 5) pa_nil)))))) pss_nil)
      (pss_cons (ps_if (pt_cmpR op_eq (pv 6) pe_int (nomark _)) (pss_one (ps_ret (pe_tup (pa_cons (pv 3) (pa_cons (pv 4) (pa_cons (pe_fn dp hr (by rfl) (pa_cons (pv 0) (pa_cons (pv 8) pa_nil))) pa_nil)))))) pss_nil)
      (pss_cons (ps_if (pt_cmpR op_eq (pv 6) pe_int (nomark _)) (pss_one (ps_ret (pe_tup (pa_cons (pe_fn dp hr (by rfl) (pa_cons (pv 0) (pa_cons (pe_lst (pa_cons (pe_callTy call_list_of (by rfl) B.list (by decide +kernel) (pa_cons (pv 3) pa_nil)) (pa_cons (pe_revT (pv 3)) (pa_cons (pe_op op_catA (pv 3) (pe_tup (pa_cons (pv 1) pa_nil))) (pa_cons (pe_op op_catA (pv 3) (pv 3))
        (pa_cons (pe_tup (pa_cons (pv 4) pa_nil)) (pa_cons (pe_tup (pa_cons (pv 7) (pa_cons (pv 4) pa_nil))) (pa_cons (pe_tup (pa_cons pe_bl pa_nil)) (pa_cons pe_int pa_nil))))))))) pa_nil))) (pa_cons (pv 4) (pa_cons (pv 5) pa_nil)))))) pss_nil)
      (pss_cons (ps_if (pt_cmpR op_eq (pv 6) pe_int (nomark _)) (pss_one (ps_ret (pe_fn dp hr (by rfl) (pa_cons (pv 0) (pa_cons (pe_lst (pa_cons (pe_tup (pa_cons (pv 3) (pa_cons (pv 4) pa_nil))) (pa_cons (pe_tup (pa_cons (pv 3) (pa_cons (pv 4) (pa_cons (pv 5) (pa_cons pe_int pa_nil))))) (pa_cons (pe_lst (pa_cons (pv 3) (pa_cons (pv 4) (pa_cons (pv 5) pa_nil))))
        (pa_cons (pe_tup (pa_cons (pv 3) pa_nil)) (pa_cons (pe_tup (pa_cons (pv 3) (pa_cons (pe_tup (pa_cons (pv 4) (pa_cons (pv 5) pa_nil))) pa_nil))) (pa_cons (pe_tup (pa_cons (pv 4) (pa_cons (pv 5) pa_nil))) (pa_cons (pe_tup (pa_cons (pv 4) (pa_cons (pv 5) (pa_cons (pv 3) pa_nil)))) pa_nil)))))))) pa_nil))))) pss_nil)
      (pss_cons (ps_if (pt_cmpR op_eq (pv 6) pe_int (nomark _)) (pss_one (ps_ret (pe_tup (pa_cons (pe_fn dp hr (by rfl) (pa_cons (pv 0) (pa_cons (pe_lst (pa_cons pe_non (pa_cons (pe_callTy call_list_of (by rfl) B.list (by decide +kernel) (pa_cons (pv 3) pa_nil)) (pa_cons (pe_tup (pa_cons (pv 1) pa_nil)) (pa_cons pe_str pa_nil))))) pa_nil)))
        (pa_cons (pe_fn dp hr (by rfl) (pa_cons (pv 0) (pa_cons (pv 8) pa_nil))) (pa_cons (pe_fn dp hr (by rfl) (pa_cons (pv 0) (pa_cons (pv 8) pa_nil))) pa_nil)))))) pss_nil)
      (pss_one (ps_ret (pe_fn dp hr (by rfl) (pa_cons (pv 0) (pa_cons (pe_lst (pa_cons pe_non (pa_cons pe_int (pa_cons pe_bl (pa_cons pe_str (pa_cons (pe_tup pa_nil) (pa_cons (pe_lst pa_nil) (pa_cons pe_dnewK (pa_cons (pe_tup (pa_cons (pe_tup pa_nil) (pa_cons pe_int (pa_cons pe_int pa_nil))))
        (pa_cons (pe_tup (pa_cons (pe_tup pa_nil) (pa_cons pe_int (pa_cons pe_int pa_nil)))) (pa_cons (pe_tup (pa_cons (pe_tup pa_nil) (pa_cons pe_int (pa_cons (pv 1) pa_nil)))) (pa_cons (pe_tup (pa_cons pe_str (pa_cons (pv 2) pa_nil))) pa_nil)))))))))))) pa_nil)))))))))))))), ?_⟩
    obtain ⟨da, ul, ua, ub, rfl, hda, hlot, q2, q3⟩ := dq3 hd
    cases q2
    cases q3
    obtain ⟨la, rfl, hla⟩ := dq_tupI hlot
    refine ⟨.ref da, rfl, da, _, rfl, SqT.of (hid_same p l _ _ _ hda), rfl, .ref la, _, rfl, .int a, _, rfl, .int b, _, rfl, rfl, ?_⟩
    refine ⟨.ref p, rfl, p, l, 8, rfl, Dk, by decide, fun H1 way D1 e1 w0 w1 => ⟨.ref p, rfl, .int m, rfl, p, l, m, rfl, D1, by omega, fun H2 pl D2 e2 p0 p1 => ⟨_, _, rfl, ?_⟩⟩⟩
    have E2 : Ext p l H H2 := e1.trans e2
    have hlot2 := hlot.up E2
    have hd2 := hd.up E2
    have lsm := lot_sm ok.rng (show m ≤ 90 by omega)
    have lln : (lot.map PyData.int).length ≤ 30 := by rw [List.length_map]; have := ok.len; omega
    have ia : Sm 1 140 (.int a) := s2_int (by have := ok.a0; omega) (by have := ok.ab; have := ok.bm; omega)
    have ib : Sm 1 140 (.int b) := s2_int (by have := ok.a0; have := ok.ab; omega) (by have := ok.bm; omega)
    have im : Sm 1 140 (.int m) := s2_int (by omega) (by omega)
    have ip : Sm 1 140 (.int pl) := s2_int (by omega) (by omega)
    have i1 : Sm 1 140 (.int 1) := s2_int (by decide) (by decide)
    have i0 : Sm 1 140 (.int 0) := s2_int (by decide) (by decide)
    have in1 : Sm 1 140 (.int (-1)) := s2_int (by decide) (by decide)
    have i30 : Sm 1 140 (.int (10 ^ (30 : Int).toNat)) := .int (by decide +kernel)
    have lS : S2 (.tuple (lot.map .int)) := s2_tup lsm (by omega)
    have one1 : ∀ ds : List PyData, ds.length = 1 → (∀ d ∈ ds, Sm 1 140 d) → S2 (.tuple ds) := fun ds hl hr => s2_tup hr (by omega)
    have two1 : ∀ ds : List PyData, ds.length = 2 → (∀ d ∈ ds, Sm 1 140 d) → S2 (.tuple ds) := fun ds hl hr => s2_tup hr (by omega)
    have fin3 : ∀ ds : List PyData, ds.length = 3 → (∀ d ∈ ds, S2 d) → S5 (.tuple ds) := fun ds hl hr => s5_tup hr (by omega)
    have nilT : S2 (.tuple []) := s2_tup (fun _ h => nomatch h) (by decide)
    have nilL : S2 (.list []) := s2_lst (fun _ h => nomatch h) (by decide)
    dsimp only
    refine seq_asg (p := p) (l := l) (R := AllL S2 13) ?_ D2 fun vodd H3 dodd e3 D3 hodd rodd => ?_
    · refine ev_lst (S := S2) (n := 13) ?_ (by decide) fun ds hl hr => ⟨ds, rfl, by omega, hr⟩
      refine ea_cons (EvI.data (ei_v rfl) im.s2) (ea_cons (EvI.data (ei_neg ei_c) in1.s2) (ea_cons (ev_bl (Sm.bl _).s2) (ea_cons (ev_bl (Sm.bl _).s2) (ea_cons (ev_non Sm.non.s2) (ea_cons (ev_str (sm5 (by decide) (by decide)).s2) ?_)))))
      refine ea_cons (ev_tup (S := Sm 1 140) (n := 1) (ea_cons (ev_int i1) ea_nil) (by decide) one1) ?_
      refine ea_cons (EvI.data (ei_pow ei_c ei_c ⟨by decide, by decide, by decide⟩) i30.s2) (ea_cons (EvI.data (ei_v rfl) ip.s2) (ea_cons (EvI.data (ei_v rfl) ip.s2) ?_))
      refine ea_cons (ev_lst (S := Sm 1 140) (n := 1) (ea_cons (ev_int i1) ea_nil) (by decide) fun ds hl hr => s2_lst hr (by omega)) (ea_cons (ev_dic Sm.dic.s2) (ea_cons ?_ ea_nil))
      exact ev_tup (S := fun d => d = .list []) (n := 1) (ea_cons (ev_lst (S := S2) (n := 0) ea_nil (by decide) fun ds hl hr => by rw [List.length_eq_zero_iff.mp hl]) ea_nil) (by decide) fun ds hl hr => by
        obtain ⟨x, rfl⟩ := List.length_eq_one_iff.mp hl
        rw [hr x List.mem_cons_self]
        exact ⟨rfl, rfl, by decide, by decide⟩
    have E3 : Ext p l H H3 := E2.trans e3
    have hlot3 := hlot2.up e3
    have hd3 := hd2.up e3
    have fin : ∀ (v' : V) (H4 : Hp) (d' : PyData), Ext p l H3 H4 → Deck H4 p l → Dq (hid p l H4) v' d' → S5 d' → Q v' H4 := fun v' H4 d' e4 D4 h4 r4 => q H4 v' d' D4 (E3.trans e4) h4 r4
    refine ⟨.int way, rfl, rfl, _, rfl, ite2 (fun _ => ?_) (fun _ => ?_)⟩
    · refine ret_ev (p := p) (l := l) (R := S5) ?_ D3 fin
      exact ev_tup (S := S2) (n := 3) (ea_cons (ev_var rfl hlot3 lS) (ea_cons (EvI.data (ei_v rfl) ib.s2) (ea_cons (EvI.data (ei_v rfl) ia.s2) ea_nil))) (by decide) fin3
    refine ⟨.int way, rfl, rfl, _, rfl, ite2 (fun _ => ?_) (fun _ => ?_)⟩
    · refine ret_ev (p := p) (l := l) (R := S5) ?_ D3 fin
      have hla3 := E3 _ _ hla
      cases lot with
      | nil =>
        refine ev_ifT (fun H4 Q' e D g => ⟨.ref la, rfl, by show 0 ≤ sizeLine; decide, fun t nt => ?_⟩) ?_
        · obtain ⟨e5, D5, ht5⟩ := new_dq (o := .tup []) D nt
          exact ⟨la, t, [], rfl, rfl, SqT.of (hid_same p l _ _ _ (e5 _ _ (e _ _ hla3))), SqT.of (hid_same p l _ _ _ ht5), _, rfl, g _ e5 D5⟩
        · exact ev_tup (S := S2) (n := 3) (ea_cons (ev_var rfl hlot3 lS) (ea_cons (EvI.data (ei_v rfl) ia.s2) (ea_cons (EvI.data (ei_v rfl) ia.s2) ea_nil))) (by decide) fin3
      | cons z0 lr =>
        have hz := ok.rng z0 List.mem_cons_self
        have hb0 := ok.a0
        have hb1 := ok.ab
        have hb2 := ok.bm
        refine ev_ifF (fun H4 Q' e D g => ⟨.ref la, rfl, by show 0 ≤ sizeLine; decide, fun t nt => ?_⟩) ?_
        · obtain ⟨e5, D5, ht5⟩ := new_dq (o := .tup []) D nt
          exact ⟨la, t, _, rfl, rfl, SqT.of (hid_same p l _ _ _ (e5 _ _ (e _ _ hla3))), SqT.of (hid_same p l _ _ _ ht5), _, rfl, g _ e5 D5⟩
        · refine ev_tup (S := S2) (n := 3) (ea_cons (ev_var rfl hlot3 lS) (ea_cons (fun H4 e D Q' g => ?_) (ea_cons (fun H4 e D Q' g => ?_) ea_nil))) (by decide) fin3
          · exact ⟨.ref la, rfl, la, _, 0, .int z0, rfl, rfl, SqT.of (hid_same p l _ _ _ (e _ _ hla3)), atI_nat (j := 0) rfl, .int b, rfl, z0, b, rfl, g _ H4 _ Ext.rfl D (.int _) (s2_int (by split <;> omega) (by split <;> omega)).s2⟩
          · exact ⟨.ref la, rfl, la, _, 0, .int z0, rfl, rfl, SqT.of (hid_same p l _ _ _ (e _ _ hla3)), atI_nat (j := 0) rfl, .int b, rfl, z0, b, rfl, g _ H4 _ Ext.rfl D (.int _) (s2_int (by split <;> omega) (by split <;> omega)).s2⟩
    refine ⟨.int way, rfl, rfl, _, rfl, ite2 (fun _ => ?_) (fun _ => ?_)⟩
    · refine ret_ev (p := p) (l := l) (R := S5) ?_ D3 fin
      exact ev_tup (S := S2) (n := 3) (ea_cons (ev_var rfl hlot3 lS) (ea_cons (ev_pick (n := 13) rfl (ev_var rfl hodd rodd) (by decide)) (ea_cons (EvI.data (ei_v rfl) ib.s2) ea_nil))) (by decide) fin3
    refine ⟨.int way, rfl, rfl, _, rfl, ite2 (fun _ => ?_) (fun _ => ?_)⟩
    · refine ret_ev (p := p) (l := l) (R := S5) ?_ D3 fin
      exact ev_tup (S := S2) (n := 3) (ea_cons (ev_var rfl hlot3 lS) (ea_cons (EvI.data (ei_v rfl) ia.s2) (ea_cons (ev_pick (n := 13) rfl (ev_var rfl hodd rodd) (by decide)) ea_nil))) (by decide) fin3
    refine ⟨.int way, rfl, rfl, _, rfl, ite2 (fun _ => ?_) (fun _ => ?_)⟩
    · refine ret_ev (p := p) (l := l) (R := S5) ?_ D3 fin
      refine ev_tup (S := S2) (n := 3) (ea_cons (ev_pick (n := 8) rfl (ev_lst (S := S2) (n := 8) ?_ (by decide) fun ds hl hr => ⟨ds, rfl, by omega, hr⟩) (by decide)) (ea_cons (EvI.data (ei_v rfl) ia.s2) (ea_cons (EvI.data (ei_v rfl) ib.s2) ea_nil))) (by decide) fin3
      refine ea_cons (ev_listOf rfl hlot3 (s2_lst lsm (by omega))) (ea_cons (ev_rev rfl hlot3 (s2_tup (fun d hd => lsm d (List.mem_reverse.mp hd)) (by rw [List.length_reverse]; omega))) ?_)
      refine ea_cons (ev_catA (S := Sm 1 140) (m := 1) rfl hlot3 (ev_tup (S := Sm 1 140) (n := 1) (ea_cons (EvI.data (ei_v rfl) im) ea_nil) (by decide) fun ds hl hr => ⟨ds, rfl, by omega, hr⟩) (by omega) fun es hl hr => s2_tup (fun d hd => (List.mem_append.mp hd).elim (lsm d) (hr d)) (by rw [List.length_append]; omega)) ?_
      refine ea_cons (ev_catA (S := Sm 1 140) (m := 30) rfl hlot3 (ev_var rfl hlot3 ⟨_, rfl, lln, lsm⟩) (by omega) fun es hl hr => s2_tup (fun d hd => (List.mem_append.mp hd).elim (lsm d) (hr d)) (by rw [List.length_append]; omega)) ?_
      refine ea_cons (ev_tup (S := Sm 1 140) (n := 1) (ea_cons (EvI.data (ei_v rfl) ia) ea_nil) (by decide) one1) (ea_cons (ev_tup (S := Sm 1 140) (n := 2) (ea_cons (EvI.data (ei_v rfl) ip) (ea_cons (EvI.data (ei_v rfl) ia) ea_nil)) (by decide) two1) ?_)
      exact ea_cons (ev_tup (S := Sm 1 140) (n := 1) (ea_cons (ev_bl (Sm.bl _)) ea_nil) (by decide) one1) (ea_cons (ev_int i0.s2) ea_nil)
    have vl : EvP p l (tVar 3) [some (.ref p), some (.int m), some (.ref da), some (.ref la), some (.int a), some (.int b), some (.int way), some (.int pl), some vodd] H3 S2 := ev_var rfl hlot3 lS
    have va : EvP p l (tVar 4) [some (.ref p), some (.int m), some (.ref da), some (.ref la), some (.int a), some (.int b), some (.int way), some (.int pl), some vodd] H3 S2 := EvI.data (ei_v rfl) ia.s2
    have vb : EvP p l (tVar 5) [some (.ref p), some (.int m), some (.ref da), some (.ref la), some (.int a), some (.int b), some (.int way), some (.int pl), some vodd] H3 S2 := EvI.data (ei_v rfl) ib.s2
    have up5 : ∀ n : Nat, n ≤ 4 → ∀ ds : List PyData, ds.length = n → (∀ d ∈ ds, S2 d) → S5 (.tuple ds) := fun n hn ds hl hr => s5_tup hr (by omega)
    refine ⟨.int way, rfl, rfl, _, rfl, ite2 (fun _ => ?_) (fun _ => ?_)⟩
    · refine ret_ev (p := p) (l := l) (R := S5) ?_ D3 fin
      refine ev_pick (n := 7) rfl (ev_lst (S := S5) (n := 7) ?_ (by decide) fun ds hl hr => ⟨ds, rfl, by omega, hr⟩) (by decide)
      refine ea_cons (ev_tup (S := S2) (n := 2) (ea_cons vl (ea_cons va ea_nil)) (by decide) (up5 2 (by decide))) (ea_cons (ev_tup (S := S2) (n := 4) (ea_cons vl (ea_cons va (ea_cons vb (ea_cons (ev_int i1.s2) ea_nil)))) (by decide) (up5 4 (by decide))) ?_)
      refine ea_cons (ev_lst (S := S2) (n := 3) (ea_cons vl (ea_cons va (ea_cons vb ea_nil))) (by decide) fun ds hl hr => s5_lst hr (by omega)) (ea_cons (ev_tup (S := S2) (n := 1) (ea_cons vl ea_nil) (by decide) (up5 1 (by decide))) ?_)
      refine ea_cons (ev_tup (S := S2) (n := 2) (ea_cons vl (ea_cons (ev_tup (S := Sm 1 140) (n := 2) (ea_cons (EvI.data (ei_v rfl) ia) (ea_cons (EvI.data (ei_v rfl) ib) ea_nil)) (by decide) two1) ea_nil)) (by decide) (up5 2 (by decide))) ?_
      exact ea_cons (ev_tup (S := S2) (n := 2) (ea_cons va (ea_cons vb ea_nil)) (by decide) (up5 2 (by decide))) (ea_cons (ev_tup (S := S2) (n := 3) (ea_cons va (ea_cons vb (ea_cons vl ea_nil))) (by decide) (up5 3 (by decide))) ea_nil)
    refine ⟨.int way, rfl, rfl, _, rfl, ite2 (fun _ => ?_) (fun _ => ?_)⟩
    · refine ret_ev (p := p) (l := l) (R := S5) ?_ D3 fin
      refine ev_tup (S := S2) (n := 3) (ea_cons (ev_pick (n := 4) rfl (ev_lst (S := S2) (n := 4) ?_ (by decide) fun ds hl hr => ⟨ds, rfl, by omega, hr⟩) (by decide)) (ea_cons (ev_pick (n := 13) rfl (ev_var rfl hodd rodd) (by decide)) (ea_cons (ev_pick (n := 13) rfl (ev_var rfl hodd rodd) (by decide)) ea_nil))) (by decide) fin3
      exact ea_cons (ev_non Sm.non.s2) (ea_cons (ev_listOf rfl hlot3 (s2_lst lsm (by omega))) (ea_cons (ev_tup (S := Sm 1 140) (n := 1) (ea_cons (EvI.data (ei_v rfl) im) ea_nil) (by decide) one1) (ea_cons (ev_str (sm5 (by decide) (by decide)).s2) ea_nil)))
    dsimp only [tNext]
    refine ret_ev (p := p) (l := l) (R := S5) ?_ D3 fin
    refine ev_pick (n := 11) rfl (ev_lst (S := S5) (n := 11) ?_ (by decide) fun ds hl hr => ⟨ds, rfl, by omega, hr⟩) (by decide)
    have e0 : ∀ σ, EvP p l (tTup tNil) σ H3 S2 := fun σ => ev_tup (S := S2) (n := 0) ea_nil (by decide) fun ds hl _ => by rw [List.length_eq_zero_iff.mp hl]; exact nilT
    have e1' : ∀ σ, EvP p l (tLst tNil) σ H3 S2 := fun σ => ev_lst (S := S2) (n := 0) ea_nil (by decide) fun ds hl _ => by rw [List.length_eq_zero_iff.mp hl]; exact nilL
    refine ea_cons (ev_non Sm.non.s2.s5) (ea_cons (ev_int i0.s2.s5) (ea_cons (ev_bl (Sm.bl _).s2.s5) (ea_cons (ev_str (sm5 (by decide) (by decide)).s2.s5) (ea_cons ((e0 _).imp fun _ h => h.s5) (ea_cons ((e1' _).imp fun _ h => h.s5) (ea_cons (ev_dic Sm.dic.s2.s5) ?_))))))
    refine ea_cons (ev_tup (S := S2) (n := 3) (ea_cons (e0 _) (ea_cons (ev_int i0.s2) (ea_cons (ev_int i1.s2) ea_nil))) (by decide) fin3) (ea_cons (ev_tup (S := S2) (n := 3) (ea_cons (e0 _) (ea_cons (ev_int i1.s2) (ea_cons (ev_int i0.s2) ea_nil))) (by decide) fin3) ?_)
    refine ea_cons (ev_tup (S := S2) (n := 3) (ea_cons (e0 _) (ea_cons (ev_int i0.s2) (ea_cons (EvI.data (ei_v rfl) im.s2) ea_nil))) (by decide) fin3) (ea_cons ?_ ea_nil)
    refine ev_tup (S := Sm 3 25800) (n := 2) (ea_cons (ev_str ((sm5 (by decide) (by decide)).mono (by decide) (by decide))) (ea_cons (ev_var rfl hd3 ?_) ea_nil)) (by decide) fun ds hl hr => ?_
    · refine (Sm.tup (k := 2) (w := 4230) (m := 3) (fun d hd => ?_) (Nat.le_refl _)).mono (by decide) (by decide)
      have hS : Sm 2 4230 (.tuple (lot.map .int)) := (Sm.tup lsm lln).mono (by decide) (by decide)
      simp only [List.mem_cons, List.not_mem_nil, or_false] at hd
      rcases hd with rfl | rfl | rfl
      · exact hS
      · exact ia.mono (by decide) (by decide)
      · exact ib.mono (by decide) (by decide)
    · exact (Sm.tup hr (show ds.length ≤ 2 by omega)).mono (by decide) (by decide)
end
end Kr

namespace Kr
open PySem PySem.Spec PyProof.Rows L2
/-! ### exchanges, reckoned -/
theorem gz_lt {ss : List Int} {j : Int} (h0 : 0 ≤ j) (h1 : j < ss.length) : gz ss j = ss[j.toNat]'(by omega) := by
  unfold gz
  rw [List.getD_eq_getElem?_getD, List.getElem?_eq_getElem (by omega)]
  rfl
theorem exch_len (ss lot : List Int) (a b : Int) : (exch ss lot a b).length = ss.length := by
  unfold exch
  split
  · rfl
  · rw [List.length_set, List.length_set]
theorem swap_get {ss : List Int} {a b : Int} (j : Int) (j0 : 0 ≤ j) (a0 : 0 ≤ a) (b0 : 0 ≤ b) (ha : j ≠ a) (hb : j ≠ b) (x y : Int) : gz ((ss.set a.toNat x).set b.toNat y) j = gz ss j := by
  unfold gz
  rw [List.getD_eq_getElem?_getD, List.getD_eq_getElem?_getD, List.getElem?_set_ne (by omega), List.getElem?_set_ne (by omega)]
theorem swap_back {ss : List Int} {a b : Int} (a0 : 0 ≤ a) (a1 : a < ss.length) (b0 : 0 ≤ b) (b1 : b < ss.length) (hab : a ≠ b) :
    ((((ss.set a.toNat (gz ss b)).set b.toNat (gz ss a)).set a.toNat (gz ((ss.set a.toNat (gz ss b)).set b.toNat (gz ss a)) b)).set b.toNat (gz ((ss.set a.toNat (gz ss b)).set b.toNat (gz ss a)) a)) = ss := by
  have e1 : gz ((ss.set a.toNat (gz ss b)).set b.toNat (gz ss a)) b = gz ss a := by
    rw [gz_lt b0 (by rw [List.length_set, List.length_set]; exact b1), List.getElem_set_self]
  have e2 : gz ((ss.set a.toNat (gz ss b)).set b.toNat (gz ss a)) a = gz ss b := by
    rw [gz_lt a0 (by rw [List.length_set, List.length_set]; exact a1), List.getElem_set_ne (by omega), List.getElem_set_self]
  rw [e1, e2, gz_lt a0 a1, gz_lt b0 b1]
  refine List.ext_getElem (by simp) fun i h1 h2 => ?_
  simp only [List.getElem_set]
  split
  · rename_i h; subst h; rfl
  · split
    · rename_i h; subst h; rfl
    · rfl
theorem exch_twice {m : Int} {ss lot : List Int} {a b : Int} (ok : DeedOk m lot a b) (hl : (ss.length : Int) = m) : exch (exch ss lot a b) lot a b = ss := by
  have a0 := ok.a0
  have ab := ok.ab
  have bm := ok.bm
  by_cases hb : lot.any (fun j => !decide (gz ss j = 0)) = true
  · have e : exch ss lot a b = ss := by
      unfold exch
      rw [if_pos hb]
    rw [e, e]
  · have e : exch ss lot a b = (ss.set a.toNat (gz ss b)).set b.toNat (gz ss a) := by
      unfold exch
      rw [if_neg hb]
    rw [e]
    have hsame : lot.any (fun j => !decide (gz ((ss.set a.toNat (gz ss b)).set b.toNat (gz ss a)) j = 0)) = lot.any (fun j => !decide (gz ss j = 0)) := by
      rw [Bool.eq_iff_iff, List.any_eq_true, List.any_eq_true]
      have h : ∀ j ∈ lot, gz ((ss.set a.toNat (gz ss b)).set b.toNat (gz ss a)) j = gz ss j := fun j hj =>
        swap_get (a := a) (b := b) j (ok.rng j hj).1 a0 (by omega) (fun z => ok.na (by rw [← z]; exact hj)) (fun z => ok.nb (by rw [← z]; exact hj)) _ _
      constructor
      · rintro ⟨j, hj, g⟩
        rw [h j hj] at g
        exact ⟨j, hj, g⟩
      · rintro ⟨j, hj, g⟩
        refine ⟨j, hj, ?_⟩
        rw [h j hj]
        exact g
    show (if _ then _ else _) = ss
    rw [hsame, if_neg hb]
    exact swap_back a0 (by omega) (by omega) (by omega) (by omega)
theorem swap_perm {ss : List Int} {a b : Int} (a0 : 0 ≤ a) (a1 : a < ss.length) (b0 : 0 ≤ b) (b1 : b < ss.length) (hab : a ≠ b) : ((ss.set a.toNat (gz ss b)).set b.toNat (gz ss a)).Perm ss := by
  rw [List.perm_iff_count]
  intro x
  have ha : a.toNat < ss.length := by omega
  have hb : b.toNat < ss.length := by omega
  rw [List.count_set (by rw [List.length_set]; exact hb), List.count_set ha, List.getElem_set_ne (by omega), gz_lt a0 a1, gz_lt b0 b1]
  have h1 : ss[a.toNat] = x → 0 < ss.count x := fun e => List.count_pos_iff.mpr (e ▸ List.getElem_mem ha)
  have h2 : ss[b.toNat] = x → 0 < ss.count x := fun e => List.count_pos_iff.mpr (e ▸ List.getElem_mem hb)
  by_cases c1 : ss[a.toNat] = x <;> by_cases c2 : ss[b.toNat] = x <;> simp [c1, c2] <;> first | omega | (have := h1 c1; omega) | (have := h2 c2; omega) | skip
theorem exch_perm {m : Int} {ss lot : List Int} {a b : Int} (ok : DeedOk m lot a b) (hl : (ss.length : Int) = m) : (exch ss lot a b).Perm ss := by
  have a0 := ok.a0
  have ab := ok.ab
  have bm := ok.bm
  unfold exch
  split
  · exact .refl _
  · exact swap_perm a0 (by omega) (by omega) (by omega) (by omega)
theorem sorted_eq : ∀ {xs ys : List Int}, xs.Perm ys → xs.Pairwise (· ≤ ·) → ys.Pairwise (· ≤ ·) → xs = ys
  | [], ys, h, _, _ => (List.nil_perm.mp h).symm
  | x :: xs, [], h, _, _ => absurd h.length_eq (by simp)
  | x :: xs, y :: ys, h, h1, h2 => by
    obtain ⟨g1, g2⟩ := List.pairwise_cons.mp h1
    obtain ⟨k1, k2⟩ := List.pairwise_cons.mp h2
    have e : x = y := by
      have hx : x ∈ y :: ys := h.mem_iff.mp List.mem_cons_self
      have hy : y ∈ x :: xs := h.mem_iff.mpr List.mem_cons_self
      rcases List.mem_cons.mp hx with e | hx
      · exact e
      · rcases List.mem_cons.mp hy with e | hy
        · exact e.symm
        · have := k1 x hx
          have := g1 y hy
          omega
    subst e
    rw [sorted_eq (List.perm_cons x |>.mp h) g2 k2]
end Kr

namespace Kr
open PySem PySem.Spec PyProof.Rows L2
def spKeyed : Sp := fun vs H Q _ => ∃ (p l st la : Addr) (ss lot : List Int), vs = [.ref p, .ref st, .ref la] ∧ Deck H p l ∧ hid p l H st = some (.tup (ss.map V.int)) ∧ hid p l H la = some (.tup (lot.map V.int)) ∧ ss.length ≤ 90 ∧ lot.length ≤ 90 ∧ (∀ z ∈ ss, 0 ≤ z ∧ z ≤ 99) ∧
  ∀ (H' : Hp) (t : Addr) (ns : List Int), Deck H' p l → Ext p l H H' → hid p l H' t = some (.tup (ns.map V.int)) → ns.length = ss.length → (∀ z ∈ ns, 0 ≤ z ∧ z ≤ 99) → Q (.ref t) H'
abbrev nKy : List Str := ["deck", "standing", "lot", "spared", "place", "own"]
section
variable {P : Program} {w : World} {K : PySem.W.Frag} {mg : Str → Option Value} {base : Heap}
theorem scKy : FnScope nKy ["deck", "standing", "lot"] (defScope sKeyed) := ⟨rfl, rfl, rfl, by decide +kernel, rfl, by decide +kernel, by decide +kernel⟩
theorem o_keyed (D : Df K mg "_law_keyed" sKeyed ["deck", "standing", "lot"]) (B : Bi mg) (d : Ok P w K mg base 1 "_law_draw" ["deck", "many"] spDraw) (dp : Ok P w K mg base 2 "_law_pick" ["deck", "items"] spPick) :
    Ok P w K mg base 3 "_law_keyed" ["deck", "standing", "lot"] spKeyed := by
  refine D.ok fun f fd F => F.ok scKy (fun vs H Q E h => ?_) (fun cdv A outer s H vs Q E hr h => ?_)
  · obtain ⟨p, l, st, la, ss, lot, rfl, _⟩ := h
    rfl
  · obtain ⟨p, l, st, la, ss, lot, rfl, Dk, hst, hla, hsl, hll, hsb, q⟩ := h
    have hr1 := hr.mono (show 1 ≤ 2 by decide)
    have hu : (cxOf CX0 P w K mg base nKy "_law_keyed" (defScope sKeyed) f cdv A outer s H E).A.units + 64 < cLine := hr.units
    refine ⟨_, pss_cons (ps_set (i := 3) scKy.nd rfl (.inr rfl) (pe_ifExp (PW.pt (pw_and (pt_cmpR (op_neT0 hu) (pv 2) (pe_tup pa_nil) (nomark _)) (pw_and1 (pt_cmpR op_eq (pe_fn d hr1 (by rfl) (pa_cons (pv 0) (pa_cons pe_int pa_nil))) pe_int (nomark _)))))
        (pe_fn dp hr (by rfl) (pa_cons (pv 0) (pa_cons (pe_callTy call_list_of (by rfl) B.list (by decide +kernel) (pa_cons (pv 2) pa_nil)) pa_nil))) (pe_un un_neg pe_int)))
      (pss_one (ps_ret (pe_callTy call_tuple_of (by rfl) B.tuple (by decide +kernel) (pa_cons
        (pe_lc (own := [("place", 4), ("own", 5)]) (g := gTup K 2 (gCons (gName 4) (gCons (gName 5) gNil))) rfl scKy.nd (pi_enumT (by rfl) B.enumerate (pa_cons (pv 1) pa_nil)) (blkOk_by (own := [("place", 4), ("own", 5)]) (N := nKy) (sc := defScope sKeyed) (by decide +kernel))
          (fun _ _ _ _ _ => pg_tup rfl (pgs_cons (pg_name (i := 4) scKy.nd rfl (.inl rfl)) (pgs_cons (pg_name (i := 5) scKy.nd rfl (.inl rfl)) pgs_nil))) (fun _ _ _ _ _ => pts_nil)
          (fun _ _ _ _ _ => pe_ifExp (PW.pt (pw_and (pt_cmpR (r := rIn K false) op_in_seq (pv 4) (pv 2) rfl) (pw_and1 (pt_cmpR op_ne (pv 4) (pv 3) (nomark _))))) pe_int (pv 5))) pa_nil)))), ?_⟩
    refine seq_asg (p := p) (l := l) (R := fun d => ∃ z : Int, d = .int z) (fun G e D Q' q' => ?_) Dk fun vsp H1 dsp e1 D1 hsp rsp => ?_
    · have hlaG := e _ _ hla
      refine ⟨.ref la, rfl, by show 0 ≤ sizeLine; decide, fun t nt => ?_⟩
      obtain ⟨e2, D2, ht2⟩ := new_dq (o := .tup []) D nt
      have hla2 := e2 _ _ hlaG
      refine ⟨la, t, _, rfl, rfl, SqT.of (hid_same p l _ _ _ hla2), SqT.of (hid_same p l _ _ _ ht2), _, rfl, ?_⟩
      cases hlot : lot with
      | nil =>
        refine iteF ?_
        refine iteF ?_
        exact ⟨1, rfl, q' _ _ _ e2 D2 (.int _) ⟨_, rfl⟩⟩
      | cons z0 lr =>
        refine iteT ?_
        refine ⟨.ref p, rfl, p, l, 3, rfl, D2, by decide, fun H3 z D3 e3 z0' z1 => ⟨rfl, _, rfl, ite2 (fun _ => ?_) (fun _ => ?_)⟩⟩
        · refine ⟨.ref p, rfl, .ref la, rfl, la, _, rfl, .inr (SqT.of (hid_same p l _ _ _ (e3 _ _ hla2))), fun c nc => ?_⟩
          obtain ⟨e4, D4, hc4⟩ := new_dq (o := .lst (lot.map V.int)) D3 nc
          refine ⟨p, l, c, _, rfl, D4, hc4, by rw [hlot]; simp, by rw [List.length_map]; omega, fun H5 v D5 e5 hv => ?_⟩
          obtain ⟨z', _, rfl⟩ := List.mem_map.mp hv
          exact q' _ _ _ (e2.trans (e3.trans (e4.trans e5))) D5 (.int _) ⟨_, rfl⟩
        · exact ⟨1, rfl, q' _ _ _ (e2.trans e3) D3 (.int _) ⟨_, rfl⟩⟩
    obtain ⟨sp, rfl⟩ := rsp
    cases hsp
    have hst1 := hid_same p l _ _ _ (e1 _ _ hst)
    have hla1 := hid_same p l _ _ _ (e1 _ _ hla)
    refine ⟨.ref st, rfl, st, _, rfl, SqT.of hst1, fun Da nDa => lc_it (walk_enumT (K := K)) (fun i G => ∃ zs : List Int, G Da = some (.lst (zs.map V.int)) ∧ Same H1 G ∧ zs.length = i ∧ ∀ z ∈ zs, 0 ≤ z ∧ z ≤ 99)
      ⟨[], upd_same, same_new nDa, rfl, fun _ h => nomatch h⟩ (fun i G _ ⟨_, _, s, _⟩ => SqT.of (s _ _ hst1)) ?_ ?_⟩
    · rintro i _ G _ hi ⟨zs, hDa, sm, hl, hb⟩ ⟨T, x, y, rfl, nT, rfl, f1, f2⟩
      cases Option.some.inj f1
      obtain ⟨own, hown, hom, rfl⟩ := mem_map_int f2
      have hil := (List.getElem?_eq_some_iff.mp hown).1
      have hob := hsb own hom
      have sT : Same G (upd G T (.tup [.int (i : Nat), .int own])) := same_new nT
      have hDa2 := sT _ _ hDa
      have sm2 := sm.trans sT
      refine ⟨T, [.int (i : Nat), .int own], rfl, SqT.of upd_same, rfl, .int (i : Nat), [.int own], rfl, .int own, [], rfl, rfl, rfl, ?_⟩
      generalize upd G T (.tup [.int (i : Nat), .int own]) = G2 at hDa2 sm2
      have put : ∀ wv : Int, 0 ≤ wv → wv ≤ 99 → ∃ acc, G2 Da = some (.lst acc) ∧ acc.length < sizeLine ∧ ∃ zs : List Int, upd G2 Da (.lst (acc ++ [.int wv])) Da = some (.lst (zs.map V.int)) ∧ Same H1 (upd G2 Da (.lst (acc ++ [.int wv]))) ∧ zs.length = i + 1 ∧ ∀ z ∈ zs, 0 ≤ z ∧ z ≤ 99 := fun wv w0 w1 => by
        refine ⟨_, hDa2, szl (by rw [List.length_map]; omega), zs ++ [wv], by rw [upd_same, List.map_append]; rfl, fun b o hb' => ?_, by rw [List.length_append, hl]; rfl, fun z hz => ?_⟩
        · rw [upd_ne (ne_of_none hb' nDa)]
          exact sm2 _ _ hb'
        · rcases List.mem_append.mp hz with hz | hz
          · exact hb z hz
          · rw [List.mem_singleton.mp hz]; omega
      dsimp only [tYes]
      rw [if_pos rfl]
      refine ⟨.int (i : Nat), rfl, .ref la, rfl, la, _, rfl, .inr (SqT.of (sm2 _ _ hla1)), rfl, flat_ints lot, _, rfl, ite2 (fun _ => ?_) (fun _ => ?_)⟩
      · refine ⟨.int (i : Nat), rfl, .int sp, rfl, rfl, _, rfl, ite2 (fun _ => ?_) (fun _ => ?_)⟩
        · exact put 0 (by decide) (by decide)
        · exact ⟨.int own, rfl, put own hob.1 hob.2⟩
      · exact iteF ⟨.int own, rfl, put own hob.1 hob.2⟩
    · rintro G ⟨zs, hDa, sm, hl, hb⟩
      rw [List.length_map] at hl
      refine ⟨Da, _, rfl, .inl ⟨SqL.of hDa, fun t nt => ?_⟩⟩
      obtain ⟨e4, D4, ht4⟩ := new_dq (o := .tup (zs.map V.int)) (D1.up sm) nt
      exact q _ t zs D4 (e1.trans ((Ext.of sm).trans e4)) ht4 hl hb
end
end Kr

namespace Kr
open PySem PySem.Spec PyProof.Rows L2
abbrev nLaw : List Str := ["script", "deck", "turn", "many", "deed", "standing", "kept", "due", "told", "values", "again", "before", "place", "value", "found"]
theorem scLaw : FnScope nLaw ["script"] (defScope sLaw) := ⟨rfl, rfl, rfl, by decide +kernel, rfl, by decide +kernel, by decide +kernel⟩
def spLaw (K : PySem.W.Frag) : Sp := fun vs H Q _ => ∃ (a : Addr) (ns : List Int), vs = [.ref a] ∧ SqL K H a (ns.map V.int) ∧ ns.length ≤ 63 ∧ ∀ H', Q (.bl true) H'
/-- the defs that the law calls -/
structure Fns (P : Program) (w : World) (K : PySem.W.Frag) (mg : Str → Option Value) (base : Heap) : Prop where
  deck : Ok P w K mg base 1 "_law_deck" ["script"] (spDeck K)
  draw : Ok P w K mg base 1 "_law_draw" ["deck", "many"] spDraw
  deed : Ok P w K mg base 3 "_law_deed" ["deck", "many"] spDeed
  standing : Ok P w K mg base 3 "_law_standing" ["deck", "many"] spStanding
  keyed : Ok P w K mg base 3 "_law_keyed" ["deck", "standing", "lot"] spKeyed
  exch : Ok P w K mg base 1 "_law_exchanged" ["standing", "deed"] spExch
  spoilt : Ok P w K mg base 3 "_law_spoilt" ["deck", "many", "deed"] (framed spSpoilt5)
  due : Ok P w K mg base 3 "_law_due" ["many", "value"] spDue
  done : ∃ f fd, FnOk P w K mg base CX0 1 f fd ["standing", "deed"] spDone ∧ PySem.W.keepIn K (.ref f) = true ∧ mg "done" = some (.ref f) ∧ Binds K fd ["standing", "deed"] [] ∧ KBn K fd ["standing", "deed"] 0 ["deed", "standing"] (fun _ ws => ws.reverse) (fun _ zs => zs.reverse)
  err : ∃ f fd, FnOk P w K mg base CX0 3 f fd ["n", "value"] (spErr deedErr) ∧ PySem.W.keepIn K (.ref f) = true ∧ mg "deed_error" = some (.ref f) ∧ Binds K fd ["n", "value"] [] ∧ KBn K fd ["n", "value"] 0 ["value", "n"] (fun _ ws => ws.reverse) (fun _ zs => zs.reverse)
theorem Ok.frame {P : Program} {w : World} {K : PySem.W.Frag} {mg : Str → Option Value} {base : Heap} {k : Nat} {x : Str} {ps : List Str} {sp : Sp} (D : Ok P w K mg base k x ps sp) : Ok P w K mg base k x ps (framed sp) := by
  obtain ⟨f, fd, F, r⟩ := D.ex
  exact ⟨f, fd, Kr.FnOk.frame F, r⟩
theorem deedErr_sm (n : Int) (d : PyData) : Sm 1 140 (deedErr n d) := by
  unfold deedErr
  split
  · split
    · split
      · exact Sm.non
      · exact sm5 (by decide) (by decide)
    · exact sm5 (by decide) (by decide)
  · exact sm5 (by decide) (by decide)
/-- x = repr(e); rest -/
theorem seq_repr {te : TE} {g : TG} {u : TS} {D : Ends} {σ : L2.St} {H : Hp} (h : te σ H fun v H1 => rRepr [v] H1 fun s H2 => g s σ H2 (u D)) : tSeq (tAsg (tCB rRepr (tCons te tNil)) g) u D σ H := h
/-- x, y = repr(e), e'; rest -/
theorem seq_par_repr {te te2 : TE} {i j : Nat} {u : TS} {D : Ends} {σ : L2.St} {H : Hp} (h : te σ H fun v H1 => rRepr [v] H1 fun s H2 => te2 σ H2 fun v2 H3 => ∃ x y, [s, v2] = [x, y] ∧ u D ((σ.set i (some x)).set j (some y)) H3) :
    tSeq (tPar i j (tCons (tCB rRepr (tCons te tNil)) (tCons te2 tNil))) u D σ H := h
/-- repr(e) != repr(e'), as a test -/
theorem ne_repr {te te2 : TE} {σ : L2.St} {H : Hp} {Q : Bool → Hp → Prop} (h : te σ H fun v H1 => rRepr [v] H1 fun x H2 => te2 σ H2 fun v2 H3 => rRepr [v2] H3 fun y H4 => rNe x y H4 fun z H5 => ∃ k, z = .bl k ∧ Q k H5) :
    tTest (tOp rNe (tCB rRepr (tCons te tNil)) (tCB rRepr (tCons te2 tNil))) σ H Q := h
theorem ne_repr1 {te te2 : TE} {σ : L2.St} {H : Hp} {Q : Bool → Hp → Prop} (h : te σ H fun v H1 => rRepr [v] H1 fun x H2 => te2 σ H2 fun y H4 => rNe x y H4 fun z H5 => ∃ k, z = .bl k ∧ Q k H5) :
    tTest (tOp rNe (tCB rRepr (tCons te tNil)) te2) σ H Q := h
/-! ### expressions that give data and change nothing -/
def EvS (te : TE) (σ : L2.St) (H : Hp) (R : PyData → Prop) : Prop := ∀ H1, Same H H1 → ∀ Q : VK, (∀ v H2 d, Same H1 H2 → Dq H2 v d → R d → Q v H2) → te σ H1 Q
theorem es_if {t : TT} {ta tb : TE} {σ : L2.St} {H : Hp} {R : PyData → Prop} (ht : ∀ (H1 : Hp) (Q : Bool → Hp → Prop), (∀ b, Q b H1) → t σ H1 Q) (ha : EvS ta σ H R) (hb : EvS tb σ H R) : EvS (tIf t ta tb) σ H R := fun H1 e Q q =>
  ht H1 _ fun b => by
    cases b with
    | true => exact iteT (ha H1 e Q q)
    | false => exact iteF (hb H1 e Q q)
theorem seq_asgS {te : TE} {g : TG} {u : TS} {D : Ends} {σ : L2.St} {H : Hp} {R : PyData → Prop} (h : EvS te σ H R) (k : ∀ v H2 d, Same H H2 → Dq H2 v d → R d → g v σ H2 (u D)) : tSeq (tAsg te g) u D σ H := h H (Same.refl _) _ k
theorem dq_deed {H : Hp} {v : V} {lot : List Int} {a b : Int} (h : Dq H v (mkDeed lot a b)) : ∃ da la, v = .ref da ∧ H da = some (.tup [.ref la, .int a, .int b]) ∧ H la = some (.tup (lot.map V.int)) := by
  obtain ⟨da, u1, u2, u3, rfl, e, q1, q2, q3⟩ := dq3 h
  cases q2
  cases q3
  obtain ⟨la, rfl, hla⟩ := dq_tupI q1
  exact ⟨da, la, rfl, e, hla⟩
theorem deed_of {H : Hp} {da la : Addr} {lot : List Int} {a b : Int} (h : H da = some (.tup [.ref la, .int a, .int b])) (h2 : H la = some (.tup (lot.map V.int))) : Dq H (.ref da) (mkDeed lot a b) :=
  .tup h (.cons (.tup h2 (DqA.ints lot)) (.cons (.int a) (.cons (.int b) .nil)))
section
variable {P : Program} {w : World} {K : PySem.W.Frag} {mg : Str → Option Value} {base : Heap}
theorem ok_law {f : Addr} {fd : FuncData} (F : Fun K "law" "law" sLaw f fd) (B : Bi mg) (T : Fns P w K mg base) : FnG P w K mg base CX0 4 f fd ["script"] (spLaw K) := by
  obtain ⟨fD, dD, gD, kD', mD, bD, nD⟩ := T.done
  obtain ⟨fE, dE, gE, kE, mE, bE, nE⟩ := T.err
  refine okG F scLaw (fun vs H Q E h => ?_) (fun cdv A outer s H vs Q E hg hr h => ?_)
  · obtain ⟨a, ns, rfl, _⟩ := h
    rfl
  · obtain ⟨sa, ns, rfl, hS, hlen, q⟩ := h
    have hr1 := hr.mono (show 1 ≤ 3 by decide)
    have cr := call_repr (X := (cxOf CX0 P w K mg base nLaw "law" (defScope sLaw) f cdv A outer s H E).nox) hg hr.units
    refine ⟨_, pss_cons (ps_set (i := 1) scLaw.nd rfl (.inr rfl) (pe_fn T.deck hr1 (by rfl) (pa_cons (pv 0) pa_nil)))
      (pss_cons (ps_for PassesOwn.never rfl (pi_range1 (by rfl) B.range (pa_cons pe_int pa_nil)) (pg_name (i := 2) scLaw.nd rfl (.inl rfl))
        (pss_cons (ps_set (i := 3) scLaw.nd rfl (.inr rfl) (pe_op op_add pe_int (pe_fn T.draw hr1 (by rfl) (pa_cons (pv 1) (pa_cons (pe_ifExp (pt_cmpR op_lt (pv 2) pe_int (nomark _)) pe_int pe_int) pa_nil)))))
        (pss_cons (ps_set (i := 4) scLaw.nd rfl (.inr rfl) (pe_fn T.deed hr (by rfl) (pa_cons (pv 1) (pa_cons (pv 3) pa_nil))))
        (pss_cons (ps_set (i := 5) scLaw.nd rfl (.inl rfl) (pe_ifExp (pt_cmpR op_lt (pe_op op_mod (pv 2) pe_int) pe_int (nomark _))
          (pe_fn T.keyed hr (by rfl) (pa_cons (pv 1) (pa_cons (pe_fn T.standing hr (by rfl) (pa_cons (pv 1) (pa_cons (pv 3) pa_nil))) (pa_cons (pe_ix ix_tup (pv 4) pe_int (fun _ _ => rfl)) pa_nil)))) (pe_fn T.standing hr (by rfl) (pa_cons (pv 1) (pa_cons (pv 3) pa_nil)))))
        (pss_cons (ps_par (i := 6) (j := 7) rfl scLaw.nd rfl rfl (by decide) rfl rfl (pa_cons (pe_callB cr (by rfl) B.repr (by decide +kernel) (pa_cons (pe_lst (pa_cons (pv 4) (pa_cons (pv 5) pa_nil))) pa_nil)) (pa_cons (pe_fn T.exch hr1 (by rfl) (pa_cons (pv 5) (pa_cons (pv 4) pa_nil))) pa_nil)) (by rfl))
        (pss_cons (ps_set (i := 8) scLaw.nd rfl (.inl rfl) (pe_ifExp (pt_cmpR op_eq (pv 2) pe_int (nomark _)) (pe_callN gD hr1 (by rfl) mD kD' nD pass0 (pk_cons (pv 4) (pk_cons (pv 5) pk_nil))) (pe_call gD hr1 (by rfl) mD kD' bD .nil pass0 (pa_cons (pv 5) (pa_cons (pv 4) pa_nil)))))
        (pss_cons (ps_if (pt_cmpR op_ne (pe_callB cr (by rfl) B.repr (by decide +kernel) (pa_cons (pe_lst (pa_cons (pv 8) (pa_cons (pe_call gD hr1 (by rfl) mD kD' bD .nil pass0 (pa_cons (pv 5) (pa_cons (pv 4) pa_nil))) (pa_cons (pe_call gD hr1 (by rfl) mD kD' bD .nil pass0 (pa_cons (pv 8) (pa_cons (pv 4) pa_nil))) pa_nil)))) pa_nil))
          (pe_callB cr (by rfl) B.repr (by decide +kernel) (pa_cons (pe_lst (pa_cons (pv 7) (pa_cons (pv 7) (pa_cons (pv 5) pa_nil)))) pa_nil)) (nomark _)) (pss_one (ps_ret pe_bl)) pss_nil)
        (pss_cons (ps_if (PW.pt (pw_or (pt_cmpR op_ne (pe_callB cr (by rfl) B.repr (by decide +kernel) (pa_cons (pe_lst (pa_cons (pv 4) (pa_cons (pv 5) pa_nil))) pa_nil)) (pv 6) (nomark _))
          (pw_or1 (pt_cmpR (op_neD hr.units) (pe_callB cr_sortT5 (by rfl) B.sorted (by decide +kernel) (pa_cons (pv 8) pa_nil)) (pe_callB cr_sortT5 (by rfl) B.sorted (by decide +kernel) (pa_cons (pv 5) pa_nil)) (nomark _))))) (pss_one (ps_ret pe_bl)) pss_nil)
        (pss_cons (ps_set (i := 9) scLaw.nd rfl (.inl rfl) (pe_op op_cat (pe_lst (pa_cons (pv 4) pa_nil)) (pe_lc (own := [("again", 10)]) (g := gName 10) rfl scLaw.nd (pi_range1 (by rfl) B.range (pa_cons pe_int pa_nil)) (blkOk_by (own := [("again", 10)]) (N := nLaw) (sc := defScope sLaw) (by decide +kernel))
          (fun _ _ _ _ _ => pg_name (i := 10) scLaw.nd rfl (.inl rfl)) (fun _ _ _ _ _ => pts_nil) (fun _ _ _ _ _ => pe_fn T.spoilt hr (by rfl) (pa_cons (pv 1) (pa_cons (pv 3) (pa_cons (pv 4) pa_nil)))))))
        (pss_cons (ps_set (i := 11) scLaw.nd rfl (.inl rfl) (pe_callB cr (by rfl) B.repr (by decide +kernel) (pa_cons (pv 9) pa_nil)))
        (pss_cons (ps_for PassesOwn.never rfl (pi_enum (by rfl) B.enumerate (pa_cons (pv 9) pa_nil)) (pg_tup rfl (pgs_cons (pg_name (i := 12) scLaw.nd rfl (.inl rfl)) (pgs_cons (pg_name (i := 13) scLaw.nd rfl (.inl rfl)) pgs_nil)))
          (pss_cons (ps_set (i := 14) scLaw.nd rfl (.inl rfl) (pe_ifExp (pt_cmpR op_eq (pv 12) (pv 2) (nomark _)) (pe_callN gE hr (by rfl) mE kE nE pass0 (pk_cons (pv 13) (pk_cons (pv 3) pk_nil))) (pe_call gE hr (by rfl) mE kE bE .nil pass0 (pa_cons (pv 3) (pa_cons (pv 13) pa_nil)))))
          (pss_one (ps_if (pt_cmpR op_ne (pe_callB cr (by rfl) B.repr (by decide +kernel) (pa_cons (pv 14) pa_nil)) (pe_callB cr (by rfl) B.repr (by decide +kernel) (pa_cons (pe_fn T.due hr (by rfl) (pa_cons (pv 3) (pa_cons (pv 13) pa_nil))) pa_nil)) (nomark _)) (pss_one (ps_ret pe_bl)) pss_nil))))
        (pss_one (ps_if (pt_cmpR op_ne (pe_callB cr (by rfl) B.repr (by decide +kernel) (pa_cons (pv 9) pa_nil)) (pv 11) (nomark _)) (pss_one (ps_ret pe_bl)) pss_nil)))))))))))))
      (pss_one (ps_ret pe_bl))), ?_⟩
    refine ⟨.ref sa, rfl, sa, ns, rfl, hS, hlen, fun H1 p l s1 np nl D1 => ?_⟩
    refine ⟨8, rfl, by decide, by decide, for_range (n := 8) (fun i σ H2 => ∃ y2 y3 y4 y5 y6 y7 y8 y9 y10 y11 y12 y13 y14 : Option V,
      σ = [some (.ref sa), some (.ref p), y2, y3, y4, y5, y6, y7, y8, y9, y10, y11, y12, y13, y14] ∧ Deck H2 p l) ⟨none, none, none, none, none, none, none, none, none, none, none, none, none, rfl, D1⟩ ?_ ?_⟩
    rotate_left
    · rintro σ H2 _
      exact q H2
    rintro i σ H2 hi ⟨y2, y3, y4, y5, y6, y7, y8, y9, y10, y11, y12, y13, y14, rfl, D2⟩
    -- many
    refine seq_asg (p := p) (l := l) (R := fun d => ∃ m : Int, d = .int m ∧ 3 ≤ m ∧ m ≤ 24) (fun G e D Q' q' => ?_) D2 fun v H3 d e3 D3 hd r => ?_
    · refine ⟨.ref p, rfl, .int _, rfl, _, _, rfl, rfl, _, rfl, ite2 (fun _ => ?_) (fun _ => ?_)⟩
      · exact ⟨p, l, 22, rfl, D, by decide, fun G2 z D' e' z0 z1 => ⟨3, z, rfl, rfl, q' _ G2 _ e' D' (.int _) ⟨_, rfl, by omega, by omega⟩⟩⟩
      · exact ⟨p, l, 4, rfl, D, by decide, fun G2 z D' e' z0 z1 => ⟨3, z, rfl, rfl, q' _ G2 _ e' D' (.int _) ⟨_, rfl, by omega, by omega⟩⟩⟩
    obtain ⟨m, rfl, m0, m1⟩ := r
    cases hd
    -- deed
    refine seq_asg (p := p) (l := l) (R := fun d => ∃ lot a b, d = mkDeed lot a b ∧ DeedOk m lot a b) (fun G e D Q' q' => ?_) D3 fun vde H4 dde e4 D4 hde rde => ?_
    · exact ⟨.ref p, rfl, .int m, rfl, p, l, m, rfl, D, m0, by omega, fun G2 v lot a b D' e' hv ok => q' v G2 _ e' D' hv ⟨lot, a, b, rfl, ok⟩⟩
    obtain ⟨lot, a, b, rfl, ok⟩ := rde
    obtain ⟨da, la, rfl, hda, hla⟩ := dq_deed hde
    -- standing
    refine seq_asg (p := p) (l := l) (R := fun d => ∃ ss : List Int, d = .tuple (ss.map .int) ∧ ss.length = m.toNat ∧ ∀ z ∈ ss, 0 ≤ z ∧ z ≤ 99) (fun G e D Q' q' => ?_) D4 fun vst H5 dst e5 D5 hst rst => ?_
    · have hda' := e _ _ hda
      have hla' := e _ _ hla
      refine ⟨.int _, rfl, _, 4, rfl, rfl, by show (0 : Int) < 4; decide, _, _, rfl, rfl, _, rfl, ite2 (fun _ => ?_) (fun _ => ?_)⟩
      · refine ⟨.ref p, rfl, .ref p, rfl, .int m, rfl, p, l, m, rfl, D, by omega, by omega, fun G2 t ns D' e' ht hn hb => ?_⟩
        refine ⟨.ref da, rfl, da, _, 0, .ref la, rfl, rfl, SqT.of (hid_same p l _ _ _ (e' _ _ hda')), atI_nat (j := 0) rfl, ?_⟩
        refine ⟨p, l, t, la, ns, lot, rfl, D', ht, e' _ _ hla', by omega, by have := ok.len; omega, hb, fun G3 t2 ns2 D3 e3 ht2 hn2 hb2 => ?_⟩
        exact q' _ G3 _ (e'.trans e3) D3 (.tup ht2 (DqA.ints _)) ⟨ns2, rfl, by omega, hb2⟩
      · exact ⟨.ref p, rfl, .int m, rfl, p, l, m, rfl, D, by omega, by omega, fun G2 t ns D' e' ht hn hb => q' _ G2 _ e' D' (.tup ht (DqA.ints _)) ⟨ns, rfl, hn, hb⟩⟩
    obtain ⟨ss, rfl, hsl, hsb⟩ := rst
    obtain ⟨st, rfl, hst'⟩ := dq_tupI hst
    have hda5 := hid_same p l _ _ _ (e5 _ _ hda)
    have hla5 := hid_same p l _ _ _ (e5 _ _ hla)
    have hst5 := hid_same p l _ _ _ hst'
    have inr : InR ss.length lot a b := ⟨fun z hz => by have := ok.rng z hz; omega, ok.a0, by have := ok.ab; have := ok.bm; omega, by have := ok.a0; have := ok.ab; omega, by have := ok.bm; omega, by have := ok.len; omega⟩
    have hssl : (ss.length : Int) = m := by omega
    have lsm := lot_sm ok.rng (show m ≤ 90 by omega)
    have hlS : Sm 2 4230 (.tuple (lot.map .int)) := (Sm.tup lsm (show (lot.map PyData.int).length ≤ 30 by rw [List.length_map]; have := ok.len; omega)).mono (by decide) (by decide)
    have intS : ∀ z : Int, 0 ≤ z → z ≤ 1000 → Sm 2 4230 (.int z) := fun z h0 h1 => (s2_int (by omega) h1).mono (by decide) (by decide)
    have deedSm : Sm 3 12700 (mkDeed lot a b) := by
      refine (Sm.tup (k := 2) (w := 4230) (m := 3) (fun d hd => ?_) (Nat.le_refl _)).mono (by decide) (by decide)
      simp only [List.mem_cons, List.not_mem_nil, or_false] at hd
      have a0 := ok.a0
      have ab := ok.ab
      have bm := ok.bm
      rcases hd with rfl | rfl | rfl
      · exact hlS
      · exact intS a (by omega) (by omega)
      · exact intS b (by omega) (by omega)
    have tupS : ∀ ns : List Int, ns.length = ss.length → (∀ z ∈ ns, 0 ≤ z ∧ z ≤ 99) → Sm 2 4230 (.tuple (ns.map .int)) := fun ns hn hb => by
      refine (Sm.tup (k := 1) (w := 140) (m := 30) (fun d hd => ?_) (by rw [List.length_map]; omega)).mono (by decide) (by decide)
      obtain ⟨z, hz, rfl⟩ := List.mem_map.mp hd
      have := hb z hz
      exact s2_int (by omega) (by omega)
    have hexl := exch_len ss lot a b
    have hexb : ∀ z ∈ exch ss lot a b, 0 ≤ z ∧ z ≤ 99 := fun z hz => hsb z ((exch_perm ok hssl).mem_iff.mp hz)
    have smK : Sm 4 30000 (.list [mkDeed lot a b, .tuple (ss.map .int)]) := by
      refine (Sm.lst (k := 3) (w := 12700) (m := 2) (fun d hd => ?_) (Nat.le_refl _)).mono (by decide) (by decide)
      simp only [List.mem_cons, List.not_mem_nil, or_false] at hd
      rcases hd with rfl | rfl
      · exact deedSm
      · exact (tupS ss rfl hsb).mono (by decide) (by decide)
    generalize hshown : (PyData.list [mkDeed lot a b, .tuple (ss.map .int)]).shown = shownK
    have both : ∀ {G : Hp} {c : Addr}, Same H5 G → G c = some (.lst [.ref da, .ref st]) → Dq G (.ref c) (.list [mkDeed lot a b, .tuple (ss.map .int)]) := fun h hc =>
      .lst hc (.cons (deed_of (h _ _ hda5) (h _ _ hla5)) (.cons (.tup (h _ _ hst5) (DqA.ints ss)) .nil))
    -- kept, due
    refine seq_par_repr ⟨.ref da, rfl, .ref st, rfl, by show 2 ≤ sizeLine; decide, fun c nc => ?_⟩
    have s6 : Same H5 (upd H5 c (.lst [.ref da, .ref st])) := same_new nc
    refine repr_sm (both s6 upd_same) smK (by decide) (by decide) ?_
    rw [hshown]
    refine ⟨.ref st, rfl, .ref da, rfl, st, da, la, ss, lot, a, b, rfl, s6 _ _ hst5, s6 _ _ hda5, s6 _ _ hla5, inr, by omega, fun z hz => (hsb z hz).1, fun H7 td s7 htd => ⟨_, _, rfl, ?_⟩⟩
    have t7 := s6.trans s7
    have call : ∀ {G : Hp} {Q' : VK}, Same H5 G → (∀ v H2 d, Same G H2 → Dq H2 v d → d = .tuple ((exch ss lot a b).map .int) → Q' v H2) → spDone [.ref st, .ref da] G Q' (E0) := fun s q' =>
      ⟨st, da, la, ss, lot, a, b, rfl, s _ _ hst5, s _ _ hda5, s _ _ hla5, inr, by omega, fun G5 t s5 ht => q' _ _ _ s5 (.tup ht (DqA.ints _)) rfl⟩
    -- told
    refine seq_asgS (R := fun d => d = .tuple ((exch ss lot a b).map .int)) (es_if (fun G3 Q' q' => ?_) (fun G3 e3 Q' q' => ?_) (fun G3 e3 Q' q' => ?_)) fun vt H8 dt s8 ht8 et => ?_
    · exact ⟨_, rfl, rfl, _, rfl, q' _⟩
    · exact ⟨.ref da, rfl, .ref st, rfl, rfl, call (t7.trans e3) q'⟩
    · exact ⟨.ref st, rfl, .ref da, rfl, call (t7.trans e3) q'⟩
    subst et
    obtain ⟨tt, rfl, htt⟩ := dq_tupI ht8
    have t8 := t7.trans s8
    have hda8 := t8 _ _ hda5
    have hla8 := t8 _ _ hla5
    have hst8 := t8 _ _ hst5
    have inr2 : InR (exch ss lot a b).length lot a b := by rw [hexl]; exact inr
    have sm3 : Sm 4 30000 (.list [.tuple ((exch ss lot a b).map .int), .tuple ((exch ss lot a b).map .int), .tuple (ss.map .int)]) := by
      refine (Sm.lst (k := 3) (w := 9000) (m := 3) (fun d hd => ?_) (Nat.le_refl _)).mono (by decide) (by decide)
      simp only [List.mem_cons, List.not_mem_nil, or_false] at hd
      rcases hd with rfl | rfl | rfl
      · exact (tupS _ hexl hexb).mono (by decide) (by decide)
      · exact (tupS _ hexl hexb).mono (by decide) (by decide)
      · exact (tupS ss rfl hsb).mono (by decide) (by decide)
    have htw := exch_twice ok hssl
    refine ne_repr ⟨.ref tt, rfl, .ref st, rfl, .ref da, rfl, st, da, la, ss, lot, a, b, rfl, hst8, hda8, hla8, inr, by omega, fun H9 t2 s9 ht2 => ?_⟩
    refine ⟨.ref tt, rfl, .ref da, rfl, tt, da, la, exch ss lot a b, lot, a, b, rfl, s9 _ _ htt, s9 _ _ hda8, s9 _ _ hla8, inr2, by omega, fun H10 t3 s10 ht3 => ⟨by show 3 ≤ sizeLine; decide, fun c2 nc2 => ?_⟩⟩
    rw [htw] at ht3
    have s11 : Same H10 (upd H10 c2 (.lst [.ref tt, .ref t2, .ref t3])) := same_new nc2
    refine repr_sm (.lst upd_same (.cons (.tup ((s10.trans s11) _ _ (s9 _ _ htt)) (DqA.ints _)) (.cons (.tup ((s10.trans s11) _ _ ht2) (DqA.ints _)) (.cons (.tup (s11 _ _ ht3) (DqA.ints ss)) .nil)))) sm3 (by decide) (by decide) ?_
    have t11 := t8.trans (s9.trans (s10.trans s11))
    have u11 := s8.trans (s9.trans (s10.trans s11))
    have w11 := s9.trans (s10.trans s11)
    generalize upd H10 c2 (.lst [.ref tt, .ref t2, .ref t3]) = H11 at t11 u11 w11
    refine ⟨.ref td, rfl, .ref td, rfl, .ref st, rfl, by show 3 ≤ sizeLine; decide, fun c3 nc3 => ?_⟩
    have s12 : Same H11 (upd H11 c3 (.lst [.ref td, .ref td, .ref st])) := same_new nc3
    have htd12 := s12 _ _ (u11 _ _ htd)
    refine repr_sm (.lst upd_same (.cons (.tup htd12 (DqA.ints _)) (.cons (.tup htd12 (DqA.ints _)) (.cons (.tup (s12 _ _ (t11 _ _ hst5)) (DqA.ints ss)) .nil)))) sm3 (by decide) (by decide) ?_
    have t12 := t11.trans s12
    have htt12 := s12 _ _ (w11 _ _ htt)
    generalize upd H11 c3 (.lst [.ref td, .ref td, .ref st]) = H12 at t12 htt12
    refine ⟨rfl, _, rfl, iteNS rfl ?_⟩
    -- what was handed in, sorted
    dsimp only [tNext]
    refine ne_repr1 ⟨.ref da, rfl, .ref st, rfl, by show 2 ≤ sizeLine; decide, fun c4 nc4 => ?_⟩
    have s13 : Same H12 (upd H12 c4 (.lst [.ref da, .ref st])) := same_new nc4
    have t13 := t12.trans s13
    refine repr_sm (both t13 upd_same) smK (by decide) (by decide) ?_
    rw [hshown]
    have htt13 := s13 _ _ htt12
    generalize upd H12 c4 (.lst [.ref da, .ref st]) = H13 at t13 htt13
    refine ⟨.str shownK, rfl, rfl, _, rfl, iteNS rfl ?_⟩
    refine ⟨.ref tt, rfl, tt, exch ss lot a b, rfl, SqT.of htt13, fun n1 c5 p1 o1 nc5 => ?_⟩
    have s14 : Same H13 (upd H13 c5 (.lst (n1.map V.int))) := same_new nc5
    have t14 := t13.trans s14
    have hc5 : upd H13 c5 (.lst (n1.map V.int)) c5 = some (.lst (n1.map V.int)) := upd_same
    generalize upd H13 c5 (.lst (n1.map V.int)) = H14 at t14 hc5
    refine ⟨.ref st, rfl, st, ss, rfl, SqT.of (t14 _ _ hst5), fun n2 c6 p2 o2 nc6 => ?_⟩
    have s15 : Same H14 (upd H14 c6 (.lst (n2.map V.int))) := same_new nc6
    have t15 := t14.trans s15
    have hn : n1 = n2 := sorted_eq ((p1.trans (exch_perm ok hssl)).trans p2.symm) o1 o2
    subst hn
    refine ⟨.list (n1.map .int), .list (n1.map .int), .lst (SqL.of (s15 _ _ hc5)) (dp_ints n1), .lst (SqL.of upd_same) (dp_ints n1), shaped_ints n1, shaped_ints n1, _, rfl, ?_⟩
    have ev : PyData.eqv (.list (n1.map PyData.int)) (.list (n1.map PyData.int)) = true := SeqAt.eqv_refl _ (Bool.and_eq_true_iff.mp (shaped_ints n1)).1
    rw [ev]
    refine iteF ?_
    generalize upd H14 c6 (.lst (n1.map V.int)) = H15 at t15
    dsimp only [tNext]
    have D15 := D5.up t15
    have hde15 : Dq (hid p l H15) (.ref da) (mkDeed lot a b) := by
      have E15 : Ext p l H5 H15 := Ext.of t15
      exact (hde.up e5).up E15
    -- values
    have hd5 : S5 (mkDeed lot a b) := deedSm.mono (by decide) (by decide)
    refine seq_asg (p := p) (l := l) (R := AllL S5 6) ?_ D15 fun vva H16 dva e16 D16 hva rva => ?_
    · refine ev_cat (S := S5) (n := 1) (m := 5) (ev_lst (S := S5) (n := 1) (ea_cons (ev_var rfl hde15 hd5) ea_nil) (by decide) fun ds hl hr => ⟨ds, rfl, by omega, hr⟩) (fun G e D Q' q' => ?_) (by decide) fun d h => h
      refine ⟨5, rfl, by decide, by decide, fun Da nDa => lc_range (n := 5) (fun i G2 => ∃ (G' : Hp) (xs : List V) (ds : List PyData), G2 = upd G' Da (.lst xs) ∧ G' Da = none ∧ Deck G' p l ∧ Ext p l G G' ∧ DqA (hid p l G') xs ds ∧ ds.length = i ∧ ∀ d ∈ ds, S5 d)
        ⟨G, [], [], rfl, nDa, D, Ext.rfl, .nil, rfl, fun _ h => nomatch h⟩ ?_ ?_⟩
      · rintro j _ hj ⟨G', xs, ds, rfl, nz, D', e', hq, hl, hb⟩
        refine ⟨rfl, ?_⟩
        dsimp only [tYes]
        rw [if_pos rfl]
        refine ⟨.ref p, rfl, .int m, rfl, .ref da, rfl, Da, xs, upd_same, ?_⟩
        rw [del_upd nz]
        refine ⟨p, l, m, .ref da, lot, a, b, rfl, D', m0, by omega, (hde15.up e).up e', ok, fun G3 r d D3 e3 hr hs nz3 => ?_⟩
        refine ⟨xs, upd_same, szl (by rw [hq.len]; omega), ?_⟩
        rw [upd_upd]
        refine ⟨G3, xs ++ [r], ds ++ [d], rfl, nz3, D3, Same.trans e' e3, (hq.up e3).app (.one hr), by rw [List.length_append, hl]; rfl, fun x hx => ?_⟩
        rcases List.mem_append.mp hx with hx | hx
        · exact hb x hx
        · rw [List.mem_singleton.mp hx]; exact hs
      · rintro _ ⟨G', xs, ds, rfl, nz, D', e', hq, hl, hb⟩
        obtain ⟨e6, D6, h6⟩ := new_dq (o := .lst xs) D' nz
        exact q' _ _ _ (Same.trans e' e6) D6 (.lst h6 (hq.up e6)) ⟨ds, rfl, by omega, hb⟩
    obtain ⟨vds, rfl, ⟨vl0, vl1⟩, vsm⟩ := rva
    have hva16 : Dq H16 vva (.list vds) := hva.up (hid_same p l H16)
    have smV : Sm 6 360006 (.list vds) := (Sm.lst (m := 6) vsm vl1).mono (by decide) (by decide)
    obtain ⟨va, vxs, rfl, hv16, hvq⟩ : ∃ va vxs, vva = .ref va ∧ H16 va = some (.lst vxs) ∧ DqA H16 vxs vds := by
      cases hva16 with
      | lst e q => exact ⟨_, _, rfl, e, q⟩
    generalize hshV : (PyData.list vds).shown = shownV
    -- before
    refine seq_repr ⟨.ref va, rfl, repr_sm hva16 smV (by decide) (by decide) ?_⟩
    rw [hshV]
    -- the values
    refine ⟨.ref va, rfl, va, vxs, rfl, SqL.of hv16, for_it walk_enum (fun j σ G => ∃ y12 y13 y14 : Option V, σ = [some (.ref sa), some (.ref p), some (.int (0 + (i : Nat))), some (.int m), some (.ref da), some (.ref st), some (.str shownK), some (.ref td), some (.ref tt), some (.ref va), y10, some (.str shownV), y12, y13, y14] ∧ Same H16 G)
      ⟨_, _, _, rfl, Same.refl _⟩ (fun j σ G _ ⟨_, _, _, _, sm⟩ => SqL.of (sm _ _ hv16)) ?_ ?_⟩
    · rintro j _ σ G _ hj ⟨z12, z13, z14, rfl, sm⟩ ⟨T', x, y, rfl, nT, rfl, f1, f2⟩
      cases Option.some.inj f1
      obtain ⟨dy, hdy, hqy⟩ := (DqA.up sm hvq).get f2
      have dyS : S5 dy := vsm dy (List.mem_of_getElem? hdy)
      have sT : Same G (upd G T' (.tup [.int (j : Nat), y])) := same_new nT
      refine ⟨T', [.int (j : Nat), y], rfl, SqT.of upd_same, rfl, .int (j : Nat), [y], rfl, y, [], rfl, rfl, ?_⟩
      have sm2 := sm.trans sT
      have hqy2 := hqy.up sT
      generalize upd G T' (.tup [.int (j : Nat), y]) = G2 at sm2 hqy2
      refine seq_asgS (R := fun d => d = deedErr m dy) (es_if (fun G3 Q' q' => ?_) (fun G3 e3 Q' q' => ?_) (fun G3 e3 Q' q' => ?_)) fun r G4 dr s4 hr4 er => ?_
      · exact ⟨_, rfl, _, rfl, rfl, _, rfl, q' _⟩
      · exact ⟨y, rfl, .int m, rfl, rfl, m, y, dy, rfl, hqy2.up e3, fun G5 r s5 hr => q' _ _ _ s5 hr rfl⟩
      · exact ⟨.int m, rfl, y, rfl, m, y, dy, rfl, hqy2.up e3, fun G5 r s5 hr => q' _ _ _ s5 hr rfl⟩
      subst er
      have esm := deedErr_sm m dy
      refine ne_repr ⟨r, rfl, repr_sm hr4 esm (by decide) (by decide) ⟨.int m, rfl, y, rfl, m, y, dy, rfl, hqy2.up s4, dyS.wt, fun G5 r2 s5 hr5 => repr_sm hr5 esm (by decide) (by decide) ⟨rfl, _, rfl, iteNS rfl ?_⟩⟩⟩
      exact ⟨_, _, _, rfl, (sm2.trans s4).trans s5⟩
    rintro σ H17 ⟨z12, z13, z14, rfl, s17⟩
    dsimp only
    refine ne_repr1 ⟨.ref va, rfl, repr_sm (hva16.up s17) smV (by decide) (by decide) ?_⟩
    rw [hshV]
    refine ⟨.str shownV, rfl, rfl, _, rfl, iteNS rfl ?_⟩
    exact ⟨_, _, _, _, _, _, _, _, _, _, _, _, _, rfl, D16.up s17⟩
end
end Kr

namespace Kr
open PySem PySem.Spec PyProof.Rows L2
/-! ### what the head has written -/
theorem df_mk {K : PySem.W.Frag} {h : Heap} {mg : Str → Option Value} {x : Str} {st : Stmt} {f : Addr} {ps : List Str} {oc : Value} {od an : Option Addr} {osl : Array (Option Value)} {kV doc pm cdv ct : Value} (X : K.In h) (G : h.Ns mainGlobals mg)
    (a : PySem.W.nsIn K mainGlobals x = some (some (.ref f))) (l : K.lookup f = some ⟨oc, od, .func (PySem.W.fnOf x x (defArgs st) (defBody st) (defScope st) .none kV doc pm an cdv ct), osl⟩) (c : PySem.W.codeIn K cdv x = true) (k : PySem.W.keepIn K (.ref f) = true)
    (hb : ∀ (kV doc pm : Value) (an : Option Addr) (cdv ct : Value) (us : List Value), us.length = ps.length → bindArgs (PySem.W.fnOf x x (defArgs st) (defBody st) (defScope st) .none kV doc pm an cdv ct) ⟨us, []⟩ = pure (ps.zip us)) : Df K mg x st ps :=
  ⟨_, _, fun_mk l c k, (fun_mk l c k).binds hb, PySem.W.mg_of X G a⟩

theorem all_mk {l : PySem.W.OpenLaw} {w : World} {K : PySem.W.Frag} {h : Heap} {mg : Str → Option Value} {fa : Addr} (X : K.In h) (G : h.Ns mainGlobals mg) (hfa : mg "law" = some (.ref fa))
    {f1 : Addr} {oc1 kV1 dc1 pm1 cd1 ct1 : Value} {od1 an1 : Option Addr} {sl1 : Array (Option Value)}
    {f2 : Addr} {oc2 kV2 dc2 pm2 cd2 ct2 : Value} {od2 an2 : Option Addr} {sl2 : Array (Option Value)}
    {f3 : Addr} {oc3 kV3 dc3 pm3 cd3 ct3 : Value} {od3 an3 : Option Addr} {sl3 : Array (Option Value)}
    {f4 : Addr} {oc4 kV4 dc4 pm4 cd4 ct4 : Value} {od4 an4 : Option Addr} {sl4 : Array (Option Value)}
    {f5 : Addr} {oc5 kV5 dc5 pm5 cd5 ct5 : Value} {od5 an5 : Option Addr} {sl5 : Array (Option Value)}
    {f6 : Addr} {oc6 kV6 dc6 pm6 cd6 ct6 : Value} {od6 an6 : Option Addr} {sl6 : Array (Option Value)}
    {f7 : Addr} {oc7 kV7 dc7 pm7 cd7 ct7 : Value} {od7 an7 : Option Addr} {sl7 : Array (Option Value)}
    {f8 : Addr} {oc8 kV8 dc8 pm8 cd8 ct8 : Value} {od8 an8 : Option Addr} {sl8 : Array (Option Value)}
    {f9 : Addr} {oc9 kV9 dc9 pm9 cd9 ct9 : Value} {od9 an9 : Option Addr} {sl9 : Array (Option Value)}
    {f10 : Addr} {oc10 kV10 dc10 pm10 cd10 ct10 : Value} {od10 an10 : Option Addr} {sl10 : Array (Option Value)}
    {f11 : Addr} {oc11 kV11 dc11 pm11 cd11 ct11 : Value} {od11 an11 : Option Addr} {sl11 : Array (Option Value)}
    {f12 : Addr} {oc12 kV12 dc12 pm12 cd12 ct12 : Value} {od12 an12 : Option Addr} {sl12 : Array (Option Value)}
    {f13 : Addr} {oc13 kV13 dc13 pm13 cd13 ct13 : Value} {od13 an13 : Option Addr} {sl13 : Array (Option Value)}
    {f14 : Addr} {oc14 kV14 dc14 pm14 cd14 ct14 : Value} {od14 an14 : Option Addr} {sl14 : Array (Option Value)}
    {f15 : Addr} {oc15 kV15 dc15 pm15 cd15 ct15 : Value} {od15 an15 : Option Addr} {sl15 : Array (Option Value)}
    {f16 : Addr} {oc16 kV16 dc16 pm16 cd16 ct16 : Value} {od16 an16 : Option Addr} {sl16 : Array (Option Value)}
    {f17 : Addr} {oc17 kV17 dc17 pm17 cd17 ct17 : Value} {od17 an17 : Option Addr} {sl17 : Array (Option Value)}
    {f18 : Addr} {oc18 kV18 dc18 pm18 cd18 ct18 : Value} {od18 an18 : Option Addr} {sl18 : Array (Option Value)}
    (a1 : PySem.W.nsIn K mainGlobals "is_between" = some (some (.ref f1))) (l1 : K.lookup f1 = some ⟨oc1, od1, .func (PySem.W.fnOf "is_between" "is_between" (defArgs sBetween) (defBody sBetween) (defScope sBetween) .none kV1 dc1 pm1 an1 cd1 ct1), sl1⟩) (c1 : PySem.W.codeIn K cd1 "is_between" = true) (k1 : PySem.W.keepIn K (.ref f1) = true)
    (a2 : PySem.W.nsIn K mainGlobals "is_tuple_of" = some (some (.ref f2))) (l2 : K.lookup f2 = some ⟨oc2, od2, .func (PySem.W.fnOf "is_tuple_of" "is_tuple_of" (defArgs sTupleOf) (defBody sTupleOf) (defScope sTupleOf) .none kV2 dc2 pm2 an2 cd2 ct2), sl2⟩) (c2 : PySem.W.codeIn K cd2 "is_tuple_of" = true) (k2 : PySem.W.keepIn K (.ref f2) = true)
    (a3 : PySem.W.nsIn K mainGlobals "lot_error" = some (some (.ref f3))) (l3 : K.lookup f3 = some ⟨oc3, od3, .func (PySem.W.fnOf "lot_error" "lot_error" (defArgs sLotErr) (defBody sLotErr) (defScope sLotErr) .none kV3 dc3 pm3 an3 cd3 ct3), sl3⟩) (c3 : PySem.W.codeIn K cd3 "lot_error" = true) (k3 : PySem.W.keepIn K (.ref f3) = true)
    (a4 : PySem.W.nsIn K mainGlobals "deed_error" = some (some (.ref f4))) (l4 : K.lookup f4 = some ⟨oc4, od4, .func (PySem.W.fnOf "deed_error" "deed_error" (defArgs sDeedErr) (defBody sDeedErr) (defScope sDeedErr) .none kV4 dc4 pm4 an4 cd4 ct4), sl4⟩) (c4 : PySem.W.codeIn K cd4 "deed_error" = true) (k4 : PySem.W.keepIn K (.ref f4) = true)
    (a5 : PySem.W.nsIn K mainGlobals "done" = some (some (.ref f5))) (l5 : K.lookup f5 = some ⟨oc5, od5, .func (PySem.W.fnOf "done" "done" (defArgs sDone) (defBody sDone) (defScope sDone) .none kV5 dc5 pm5 an5 cd5 ct5), sl5⟩) (c5 : PySem.W.codeIn K cd5 "done" = true) (k5 : PySem.W.keepIn K (.ref f5) = true)
    (a6 : PySem.W.nsIn K mainGlobals "_law_deck" = some (some (.ref f6))) (l6 : K.lookup f6 = some ⟨oc6, od6, .func (PySem.W.fnOf "_law_deck" "_law_deck" (defArgs sDeck) (defBody sDeck) (defScope sDeck) .none kV6 dc6 pm6 an6 cd6 ct6), sl6⟩) (c6 : PySem.W.codeIn K cd6 "_law_deck" = true) (k6 : PySem.W.keepIn K (.ref f6) = true)
    (a7 : PySem.W.nsIn K mainGlobals "_law_draw" = some (some (.ref f7))) (l7 : K.lookup f7 = some ⟨oc7, od7, .func (PySem.W.fnOf "_law_draw" "_law_draw" (defArgs sDraw) (defBody sDraw) (defScope sDraw) .none kV7 dc7 pm7 an7 cd7 ct7), sl7⟩) (c7 : PySem.W.codeIn K cd7 "_law_draw" = true) (k7 : PySem.W.keepIn K (.ref f7) = true)
    (a8 : PySem.W.nsIn K mainGlobals "_law_pick" = some (some (.ref f8))) (l8 : K.lookup f8 = some ⟨oc8, od8, .func (PySem.W.fnOf "_law_pick" "_law_pick" (defArgs sPick) (defBody sPick) (defScope sPick) .none kV8 dc8 pm8 an8 cd8 ct8), sl8⟩) (c8 : PySem.W.codeIn K cd8 "_law_pick" = true) (k8 : PySem.W.keepIn K (.ref f8) = true)
    (a9 : PySem.W.nsIn K mainGlobals "_law_mixed" = some (some (.ref f9))) (l9 : K.lookup f9 = some ⟨oc9, od9, .func (PySem.W.fnOf "_law_mixed" "_law_mixed" (defArgs sMixed) (defBody sMixed) (defScope sMixed) .none kV9 dc9 pm9 an9 cd9 ct9), sl9⟩) (c9 : PySem.W.codeIn K cd9 "_law_mixed" = true) (k9 : PySem.W.keepIn K (.ref f9) = true)
    (a10 : PySem.W.nsIn K mainGlobals "_law_standing" = some (some (.ref f10))) (l10 : K.lookup f10 = some ⟨oc10, od10, .func (PySem.W.fnOf "_law_standing" "_law_standing" (defArgs sStanding) (defBody sStanding) (defScope sStanding) .none kV10 dc10 pm10 an10 cd10 ct10), sl10⟩) (c10 : PySem.W.codeIn K cd10 "_law_standing" = true) (k10 : PySem.W.keepIn K (.ref f10) = true)
    (a11 : PySem.W.nsIn K mainGlobals "_law_deed" = some (some (.ref f11))) (l11 : K.lookup f11 = some ⟨oc11, od11, .func (PySem.W.fnOf "_law_deed" "_law_deed" (defArgs sDeed) (defBody sDeed) (defScope sDeed) .none kV11 dc11 pm11 an11 cd11 ct11), sl11⟩) (c11 : PySem.W.codeIn K cd11 "_law_deed" = true) (k11 : PySem.W.keepIn K (.ref f11) = true)
    (a12 : PySem.W.nsIn K mainGlobals "_law_is_whole" = some (some (.ref f12))) (l12 : K.lookup f12 = some ⟨oc12, od12, .func (PySem.W.fnOf "_law_is_whole" "_law_is_whole" (defArgs sWhole) (defBody sWhole) (defScope sWhole) .none kV12 dc12 pm12 an12 cd12 ct12), sl12⟩) (c12 : PySem.W.codeIn K cd12 "_law_is_whole" = true) (k12 : PySem.W.keepIn K (.ref f12) = true)
    (a13 : PySem.W.nsIn K mainGlobals "_law_is_lot" = some (some (.ref f13))) (l13 : K.lookup f13 = some ⟨oc13, od13, .func (PySem.W.fnOf "_law_is_lot" "_law_is_lot" (defArgs sIsLot) (defBody sIsLot) (defScope sIsLot) .none kV13 dc13 pm13 an13 cd13 ct13), sl13⟩) (c13 : PySem.W.codeIn K cd13 "_law_is_lot" = true) (k13 : PySem.W.keepIn K (.ref f13) = true)
    (a14 : PySem.W.nsIn K mainGlobals "_law_due" = some (some (.ref f14))) (l14 : K.lookup f14 = some ⟨oc14, od14, .func (PySem.W.fnOf "_law_due" "_law_due" (defArgs sDue) (defBody sDue) (defScope sDue) .none kV14 dc14 pm14 an14 cd14 ct14), sl14⟩) (c14 : PySem.W.codeIn K cd14 "_law_due" = true) (k14 : PySem.W.keepIn K (.ref f14) = true)
    (a15 : PySem.W.nsIn K mainGlobals "_law_exchanged" = some (some (.ref f15))) (l15 : K.lookup f15 = some ⟨oc15, od15, .func (PySem.W.fnOf "_law_exchanged" "_law_exchanged" (defArgs sExch) (defBody sExch) (defScope sExch) .none kV15 dc15 pm15 an15 cd15 ct15), sl15⟩) (c15 : PySem.W.codeIn K cd15 "_law_exchanged" = true) (k15 : PySem.W.keepIn K (.ref f15) = true)
    (a16 : PySem.W.nsIn K mainGlobals "_law_spoilt" = some (some (.ref f16))) (l16 : K.lookup f16 = some ⟨oc16, od16, .func (PySem.W.fnOf "_law_spoilt" "_law_spoilt" (defArgs sSpoilt) (defBody sSpoilt) (defScope sSpoilt) .none kV16 dc16 pm16 an16 cd16 ct16), sl16⟩) (c16 : PySem.W.codeIn K cd16 "_law_spoilt" = true) (k16 : PySem.W.keepIn K (.ref f16) = true)
    (a17 : PySem.W.nsIn K mainGlobals "_law_keyed" = some (some (.ref f17))) (l17 : K.lookup f17 = some ⟨oc17, od17, .func (PySem.W.fnOf "_law_keyed" "_law_keyed" (defArgs sKeyed) (defBody sKeyed) (defScope sKeyed) .none kV17 dc17 pm17 an17 cd17 ct17), sl17⟩) (c17 : PySem.W.codeIn K cd17 "_law_keyed" = true) (k17 : PySem.W.keepIn K (.ref f17) = true)
    (a18 : PySem.W.nsIn K mainGlobals "law" = some (some (.ref f18))) (l18 : K.lookup f18 = some ⟨oc18, od18, .func (PySem.W.fnOf "law" "law" (defArgs sLaw) (defBody sLaw) (defScope sLaw) .none kV18 dc18 pm18 an18 cd18 ct18), sl18⟩) (c18 : PySem.W.codeIn K cd18 "law" = true) (k18 : PySem.W.keepIn K (.ref f18) = true)
    (z1 : PySem.W.nsIn K mainGlobals "len" = some none)
    (z2 : PySem.W.nsIn K mainGlobals "abs" = some none)
    (z3 : PySem.W.nsIn K mainGlobals "int" = some none)
    (z4 : PySem.W.nsIn K mainGlobals "bool" = some none)
    (z5 : PySem.W.nsIn K mainGlobals "tuple" = some none)
    (z6 : PySem.W.nsIn K mainGlobals "list" = some none)
    (z7 : PySem.W.nsIn K mainGlobals "range" = some none)
    (z8 : PySem.W.nsIn K mainGlobals "enumerate" = some none)
    (z9 : PySem.W.nsIn K mainGlobals "isinstance" = some none)
    (z10 : PySem.W.nsIn K mainGlobals "repr" = some none)
    (z11 : PySem.W.nsIn K mainGlobals "sorted" = some none)
    (z12 : PySem.W.nsIn K mainGlobals "min" = some none)
    (z13 : PySem.W.nsIn K mainGlobals "max" = some none)
    (z14 : PySem.W.nsIn K mainGlobals "any" = some none)
    (z15 : PySem.W.nsIn K mainGlobals "zip" = some none) :
    ∃ fd : FuncData, (∀ (s : Shared) (u : Value), BindsTo s fd ⟨[u], []⟩ [("script", u)]) ∧ ∀ base : Heap, K.In base → base.Ns mainGlobals mg → FnG l.prog w K mg base CX0 4 fa fd ["script"] (spLaw K) := by
  have e := hfa.symm.trans (PySem.W.mg_of X G a18)
  cases e
  have D1 : Df K mg "is_between" sBetween ["value", "least", "most"] := df_mk X G a1 l1 c1 k1 fun _ _ _ _ _ _ us hl => match us, hl with | [_, _, _], _ => rfl
  have D2 : Df K mg "is_tuple_of" sTupleOf ["value", "size"] := df_mk X G a2 l2 c2 k2 fun _ _ _ _ _ _ us hl => match us, hl with | [_, _], _ => rfl
  have D3 : Df K mg "lot_error" sLotErr ["n", "value"] := df_mk X G a3 l3 c3 k3 fun _ _ _ _ _ _ us hl => match us, hl with | [_, _], _ => rfl
  have F4 := fun_mk (st := sDeedErr) l4 c4 k4
  have b4 := F4.binds (ps := ["n", "value"]) fun _ _ _ _ _ _ us hl => match us, hl with | [_, _], _ => rfl
  have g4 := PySem.W.mg_of X G a4
  have n4 := kbn_of (ps := ["n", "value"]) (ks := ["value", "n"]) F4 (fun zs => zs.reverse) vals_swap fun _ _ _ _ _ _ ws hl => match ws, hl with | [_, _], _ => rfl
  have F5 := fun_mk (st := sDone) l5 c5 k5
  have b5 := F5.binds (ps := ["standing", "deed"]) fun _ _ _ _ _ _ us hl => match us, hl with | [_, _], _ => rfl
  have g5 := PySem.W.mg_of X G a5
  have n5 := kbn_of (ps := ["standing", "deed"]) (ks := ["deed", "standing"]) F5 (fun zs => zs.reverse) vals_swap fun _ _ _ _ _ _ ws hl => match ws, hl with | [_, _], _ => rfl
  have D6 : Df K mg "_law_deck" sDeck ["script"] := df_mk X G a6 l6 c6 k6 fun _ _ _ _ _ _ us hl => match us, hl with | [_], _ => rfl
  have D7 : Df K mg "_law_draw" sDraw ["deck", "many"] := df_mk X G a7 l7 c7 k7 fun _ _ _ _ _ _ us hl => match us, hl with | [_, _], _ => rfl
  have D8 : Df K mg "_law_pick" sPick ["deck", "items"] := df_mk X G a8 l8 c8 k8 fun _ _ _ _ _ _ us hl => match us, hl with | [_, _], _ => rfl
  have D9 : Df K mg "_law_mixed" sMixed ["deck", "items"] := df_mk X G a9 l9 c9 k9 fun _ _ _ _ _ _ us hl => match us, hl with | [_, _], _ => rfl
  have D10 : Df K mg "_law_standing" sStanding ["deck", "many"] := df_mk X G a10 l10 c10 k10 fun _ _ _ _ _ _ us hl => match us, hl with | [_, _], _ => rfl
  have D11 : Df K mg "_law_deed" sDeed ["deck", "many"] := df_mk X G a11 l11 c11 k11 fun _ _ _ _ _ _ us hl => match us, hl with | [_, _], _ => rfl
  have D12 : Df K mg "_law_is_whole" sWhole ["value", "low", "high"] := df_mk X G a12 l12 c12 k12 fun _ _ _ _ _ _ us hl => match us, hl with | [_, _, _], _ => rfl
  have D13 : Df K mg "_law_is_lot" sIsLot ["many", "value"] := df_mk X G a13 l13 c13 k13 fun _ _ _ _ _ _ us hl => match us, hl with | [_, _], _ => rfl
  have D14 : Df K mg "_law_due" sDue ["many", "value"] := df_mk X G a14 l14 c14 k14 fun _ _ _ _ _ _ us hl => match us, hl with | [_, _], _ => rfl
  have D15 : Df K mg "_law_exchanged" sExch ["standing", "deed"] := df_mk X G a15 l15 c15 k15 fun _ _ _ _ _ _ us hl => match us, hl with | [_, _], _ => rfl
  have D16 : Df K mg "_law_spoilt" sSpoilt ["deck", "many", "deed"] := df_mk X G a16 l16 c16 k16 fun _ _ _ _ _ _ us hl => match us, hl with | [_, _, _], _ => rfl
  have D17 : Df K mg "_law_keyed" sKeyed ["deck", "standing", "lot"] := df_mk X G a17 l17 c17 k17 fun _ _ _ _ _ _ us hl => match us, hl with | [_, _, _], _ => rfl
  have B : Bi mg := ⟨PySem.W.mg_none_of X G z1, PySem.W.mg_none_of X G z2, PySem.W.mg_none_of X G z3, PySem.W.mg_none_of X G z4, PySem.W.mg_none_of X G z5, PySem.W.mg_none_of X G z6, PySem.W.mg_none_of X G z7, PySem.W.mg_none_of X G z8, PySem.W.mg_none_of X G z9, PySem.W.mg_none_of X G z10, PySem.W.mg_none_of X G z11, PySem.W.mg_none_of X G z12, PySem.W.mg_none_of X G z13, PySem.W.mg_none_of X G z14, PySem.W.mg_none_of X G z15⟩
  refine ⟨PySem.W.fnOf "law" "law" (defArgs sLaw) (defBody sLaw) (defScope sLaw) .none kV18 dc18 pm18 an18 cd18 ct18, fun s v => .of_eq rfl, fun base _ _ => ?_⟩
  have ob := o_between (P := l.prog) (w := w) (base := base) D1 B
  have ot := o_tupleOf (P := l.prog) (w := w) (base := base) D2 B
  have ow := o_whole (P := l.prog) (w := w) (base := base) D12 B
  have od := o_draw (P := l.prog) (w := w) (base := base) D7 B
  have ok := o_deck (P := l.prog) (w := w) (base := base) D6 B
  have op := o_pick D8 B od
  have om := o_mixed D9 B od
  have ole : Ok l.prog w K mg base 2 "lot_error" ["n", "value"] (spErr lotErr) := D3.ok fun _ _ F => f_lotErr F B ob
  have oil := o_isLot D13 B ow
  exact ok_law (fun_mk (st := sLaw) l18 c18 k18) B ⟨ok, od, o_deed D11 B od op om, o_standing D10 B od op, o_keyed D17 B od op, o_exch D15 B, (o_spoilt5 D16 B od op).frame, o_due D14 B ow oil,
    ⟨_, _, f_done F5 B, F5.kp, g5, b5, n5⟩,
    ⟨_, _, f_deedErr F4 B ot ob ole, F4.kp, g4, b4, n4⟩⟩
end Kr

open PySem PySem.W PyProof.Rows
set_option maxHeartbeats 0 in
theorem PySem.Challenge.cw_keyriders_k05_whole_deeds_done_and_twice_holds : PySem.Challenge.rw_keyriders_k05_whole_deeds_done_and_twice.Holds := by
  w_on; o_law; k_head; (case hw => w_witness2)
  k_fill
  refine Kr.walkG (l := PySem.Challenge.rw_keyriders_k05_whole_deeds_done_and_twice) (n := 63) (k := 4) (x := "script") (sp := Kr.spLaw) rfl (by decide) rfl ⟨rfl, by decide, by decide⟩ (fun w h Y => PySem.W.kIn_of Y) ?F (fun _ _ a ns hl _ hS => ⟨a, ns, rfl, hS, hl, fun _ => rfl⟩)
  case F =>
    intro w mg fa h KX G hmg
    refine' Kr.all_mk KX G hmg ?a1 ?l1 ?c1 ?k1 ?a2 ?l2 ?c2 ?k2 ?a3 ?l3 ?c3 ?k3 ?a4 ?l4 ?c4 ?k4 ?a5 ?l5 ?c5 ?k5 ?a6 ?l6 ?c6 ?k6 ?a7 ?l7 ?c7 ?k7 ?a8 ?l8 ?c8 ?k8 ?a9 ?l9 ?c9 ?k9 ?a10 ?l10 ?c10 ?k10 ?a11 ?l11 ?c11 ?k11 ?a12 ?l12 ?c12 ?k12 ?a13 ?l13 ?c13 ?k13 ?a14 ?l14 ?c14 ?k14 ?a15 ?l15 ?c15 ?k15 ?a16 ?l16 ?c16 ?k16 ?a17 ?l17 ?c17 ?k17 ?a18 ?l18 ?c18 ?k18 ?z1 ?z2 ?z3 ?z4 ?z5 ?z6 ?z7 ?z8 ?z9 ?z10 ?z11 ?z12 ?z13 ?z14 ?z15
    (case a1 => k_is); (case l1 => k_is); (case c1 => k_is); (case k1 => k_is); (case a2 => k_is); (case l2 => k_is); (case c2 => k_is); (case k2 => k_is); (case a3 => k_is); (case l3 => k_is); (case c3 => k_is); (case k3 => k_is); (case a4 => k_is); (case l4 => k_is); (case c4 => k_is); (case k4 => k_is); (case a5 => k_is); (case l5 => k_is); (case c5 => k_is); (case k5 => k_is); (case a6 => k_is); (case l6 => k_is); (case c6 => k_is); (case k6 => k_is); (case a7 => k_is); (case l7 => k_is); (case c7 => k_is); (case k7 => k_is); (case a8 => k_is); (case l8 => k_is); (case c8 => k_is); (case k8 => k_is); (case a9 => k_is); (case l9 => k_is); (case c9 => k_is); (case k9 => k_is); (case a10 => k_is); (case l10 => k_is); (case c10 => k_is); (case k10 => k_is); (case a11 => k_is); (case l11 => k_is); (case c11 => k_is); (case k11 => k_is); (case a12 => k_is); (case l12 => k_is); (case c12 => k_is); (case k12 => k_is); (case a13 => k_is); (case l13 => k_is); (case c13 => k_is); (case k13 => k_is); (case a14 => k_is); (case l14 => k_is); (case c14 => k_is); (case k14 => k_is); (case a15 => k_is); (case l15 => k_is); (case c15 => k_is); (case k15 => k_is); (case a16 => k_is); (case l16 => k_is); (case c16 => k_is); (case k16 => k_is); (case a17 => k_is); (case l17 => k_is); (case c17 => k_is); (case k17 => k_is); (case a18 => k_is); (case l18 => k_is); (case c18 => k_is); (case k18 => k_is); (case z1 => k_is); (case z2 => k_is); (case z3 => k_is); (case z4 => k_is); (case z5 => k_is); (case z6 => k_is); (case z7 => k_is); (case z8 => k_is); (case z9 => k_is); (case z10 => k_is); (case z11 => k_is); (case z12 => k_is); (case z13 => k_is); (case z14 => k_is); (case z15 => k_is)
