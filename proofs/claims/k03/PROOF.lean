import PyProof.Rows.All
import Wide.All
import OpenK.AllK
import Wide.FinOn
import HandS.ForMost
import HandS.SortInts
import KE.GoesEnum
import HandS.Walk
import KE.KRevSl
import PyProof.ReprReads
import PyProof.ReprRoads
import HandS.IsInst
import HandS.Defaults
import HandS.TupAny
import HandS.TupMul
import PySem.Challenge.RW_keyriders_k03_whole_texts_of_standings
import PyProof.ReprLen
import HandS.Conv
import HandS.Zip
import HandS.StrMore
import HandS.Text
import HandS.WordsExc
import HandS.ExcOwn
import HandS.ExcIs
import HandS.SetFor
import PyProof.StrLawsChain
import PyProof.ListStr
import PyProof.StrOps2
import HandS.Replace
import HandS.ReplaceLit
import HandS.Style
import PyProof.Rows.StrStrike
set_option Elab.async false
set_option linter.all false
set_option maxRecDepth 100000
set_option maxHeartbeats 4000000
namespace Kr
open PySem PySem.Spec PyProof.Rows L2
section
variable {prog : Program} {w : World} {A : Around} {E : Value → Shared → Prop} {s : Shared}
/-- the heap behind a collecting -/
def gathered (h : Heap) (vs : List Value) : Heap := (h.push (seqObj "list" #[] 0)).update h.objs.size (Obj.mapSeq (· ++ vs.toArray))
theorem collect_tup {t : Addr} {vs : List Value} {Q : List Value → Shared → Prop} (hl : IsTup s.heap t vs.toArray) (h : Q vs { s with heap := gathered s.heap vs }) (hsz : vs.length ≤ sizeLine) : wpAny (model prog w) A (collect (.ref t)) Q E s := by
  obtain ⟨ot, gt, ct, nt, dt⟩ := id hl
  unfold collect
  refine wpAny_bind (wpAny_runValue (codeAny_builtin entry_proto_collect' ?_))
  show wpAny (model prog w) _ (do again (.builtin "list.__iadd__" ⟨[← newList [], .ref t], []⟩)) _ _ s
  refine wpAny_bind (wpAny_newList (wpAny_pure ⟨Code.quiet_builtin _ (by decide +kernel), codeAny_builtin entry_list_iadd' (?_ : wpAny (model prog w) _ (Builtin.List.listExtendWith (.ref s.heap.objs.size) (.ref t) (.ref s.heap.objs.size)) _ _ { s with heap := s.heap.push (seqObj "list" #[] 0) })⟩))
  unfold Builtin.List.listExtendWith
  have gt' : (s.heap.push (seqObj "list" #[] 0)).get? t = some ot := Heap.get?_push_of_some _ gt
  refine wpAny_bind (wpAny_typeOf (T := "tuple") ⟨ot, gt', ct⟩ ?_)
  have tt : (Value.type "tuple" == Value.type "tuple") = true := by rfl
  rw [if_pos (by rw [tt]; simp)]
  refine wpAny_bind (listItems_at gt' dt (wpAny_bind (listItems_at (xs := #[]) (n := 0) (Heap.get?_push_size _ rfl) rfl ?_)))
  rw [if_neg (by simp)]
  refine wpAny_bind (listUpdate_at (xs := #[]) (n := 0) (Heap.get?_push_size _ rfl) rfl (wpAny_pure ?_) (Nat.zero_le _) (by show (#[] ++ vs.toArray).size ≤ sizeLine + 1; simp only [Array.size_append, List.size_toArray, List.length_nil]; omega))
  show wpAny (model prog w) A (do let ob ← load s.heap.objs.size; match ob.data with | .seq xs _ => pure xs.toList | _ => unsupported "internal:collect") Q E { s with heap := gathered s.heap vs }
  refine wpAny_bind (wpAny_load (get?_update_seq (Heap.get?_push_size _ rfl) _) ?_)
  show wpAny (model prog w) A (pure ((#[] : Array Value) ++ vs.toArray).toList) Q E _
  have e0 : ((#[] : Array Value) ++ vs.toArray).toList = vs := by simp
  rw [e0]
  exact wpAny_pure h
theorem sorted_tup {t : Addr} {vs : List Value} {ltv : Value → Value → Bool} {Q : Value → Shared → Prop} (O : SrtO.Swo ltv) (hl : IsTup s.heap t vs.toArray) (hz : vs.length ≤ sizeLine)
    (hS : 2 ≤ vs.length → ∀ (h₁ : Heap) (a : Addr), h₁.get? a = some (seqObj "list" vs.toArray 0) → (∀ b o, s.heap.get? b = some o → b ≠ a ∧ h₁.get? b = some o) → SrtO.SortableO prog w A.in1.in1 { s with heap := h₁ } a vs ltv)
    (h : ∀ out : List Value, SrtO.Srtd ltv out → SrtO.Stb ltv out vs → Q (.ref (s.heap.objs.size + 1)) { s with heap := sortedAll s.heap vs out.toArray }) : wpAny (model prog w) A (call (.builtin "sorted") [.ref t]) Q E s := by
  refine Calls.call_function_entry kind_sorted plain_sorted entry_sorted (args_sorted1 _) ?_
  unfold Builtin.«sorted»
  refine wpAny_bind (m := checkCount "sorted" 1 1 _) (wpAny_pure (wpAny_bind (collect_tup hl (wpAny_bind (wpAny_newList ?_ hz)) hz)))
  have z1 : (gathered s.heap vs).objs.size = s.heap.objs.size + 1 := (Heap.size_update _ _ _).trans (size_push' _ _)
  have lst : ((gathered s.heap vs).push (seqObj "list" vs.toArray 0)).get? (s.heap.objs.size + 1) = some (seqObj "list" vs.toArray 0) := by
    rw [← z1]; exact Heap.get?_push_size _ rfl
  have stays : ∀ b o, s.heap.get? b = some o → b ≠ s.heap.objs.size + 1 ∧ ((gathered s.heap vs).push (seqObj "list" vs.toArray 0)).get? b = some o := fun b o q => by
    have lt := Heap.lt_size q
    refine ⟨Nat.ne_of_lt (Nat.lt_succ_of_lt lt), Heap.get?_push_of_some _ ?_⟩
    unfold gathered
    rw [Heap.get?_update_ne _ _ _ _ (Nat.ne_of_lt lt)]
    exact Heap.get?_push_of_some _ q
  show wpAny (model prog w) _ _ _ _ { s with heap := (gathered s.heap vs).push (seqObj "list" vs.toArray 0) }
  rw [z1]
  exact wpAny_bind (wpAny_holding (wpAny_call_entry slot_list_sort ⟨_, lst, rfl⟩ entry_list_sort (SrtO.list_sort_ord O lst hz (fun h2 => hS h2 _ _ lst stays) fun out hs hb => ⟨_, rfl, wpAny_pure ⟨_, rfl, h out hs hb⟩⟩) (args_list_sort _)))
end
section
variable {X : Cx}
/-- sorted(t), t a tuple of whole numbers -/
def rSortT (K : PySem.W.Frag) : List V → Hp → VK → Prop := fun vs H Q => ∃ (a : Addr) (ns : List Int), vs = [V.ref a] ∧ SqT K H a (ns.map V.int) ∧ ∀ (ns' : List Int) (p : Addr), ns'.Perm ns → ns'.Pairwise (· ≤ ·) → H p = none → Q (.ref p) (upd H p (.lst (ns'.map V.int)))
theorem cr_sortT5 : CallR X (.builtin "sorted") (rSortT X.K) := by
  intro pins s σ H vs us Q I r h
  obtain ⟨a, ns, rfl, hs, q⟩ := h
  obtain ⟨its, rv, ht, hz⟩ := I.tuple hs
  rw [Vals.ref1 r]
  have hi := rv.ints
  refine sorted_tup SrtO.swo_int ht (by rw [← rv.length]; exact hz) (fun h2 _ _ _ _ => SrtO.ints_sortable hi h2) fun out h1 h2 => ?_
  obtain ⟨k1, k2, k3⟩ := SrtO.ints_out hi h1 h2
  obtain ⟨ep, he⟩ := PyProof.Rows.sortedAll_at s.heap its out.toArray
  have hl : ((out.map SrtO.iv).map V.int).length ≤ sizeLine := by
    rw [List.length_map] at hz
    rw [List.length_map, k2.length_eq]
    exact hz
  exact ⟨.ref _, upd H (s.heap.objs.size + 1) (.lst ((out.map SrtO.iv).map V.int)), I.laid (t' := s.toks) (fun _ _ => PyProof.Rows.sortedAll_old) (Nat.le_succ _) ⟨hl, out, ep, vals_of_ints k1, he⟩, rfl, q _ _ k2 k3 (I.hok.fresh (Nat.le_succ _))⟩
end
end Kr

namespace Kr
open PySem PySem.Spec PyProof.Rows L2
open AutoSeq1 (wpAny_loadPart')

theorem enum_new_tup (l : Addr) (items : Array Value) :
    Meets (Builtin.«enumerate.__new__» ⟨[.type "enumerate", .ref l], []⟩) (fun _ R s => s.heap.IsTuple l items ∧
      R (.ok (.ret (.ref (s.heap.push { cls := .type "tuple_iterator", data := .fields #[.ref l, .int 0 0] }).objs.size)))
        { s with heap := (s.heap.push { cls := .type "tuple_iterator", data := .fields #[.ref l, .int 0 0] }).push { cls := .type "enumerate", data := .fields #[.none, .bool false, .ref s.heap.objs.size, rawInt 0, .none, .none] } }) :=
  .of_wp fun prog w A R s h => by
    obtain ⟨hp, g, d, tk, os⟩ := s
    obtain ⟨hL, h⟩ := h
    have hsub := sub_enumerate
    wp_walk using wpAny_pyIter_tuple hL
    refine wpAny_stack_any fun st => wpAny_pure ?_
    split
    · rename_i c _ _ _ _ _
      cases (c == Value.type "enumerate")
      all_goals
        wp_walk using wpAny_pyIter_tuple hL
        exact ⟨_, rfl, h⟩
    · wp_walk using wpAny_pyIter_tuple hL
      exact ⟨_, rfl, h⟩

section
variable {prog : Program} {w : World} {A : Around} {E : Value → Shared → Prop} {s : Shared}
theorem enum_call_tup {l : Addr} {items : Array Value} {Q : Value → Shared → Prop} (hL : s.heap.IsTuple l items)
    (h : ∀ h', IsEnum h' (s.heap.objs.size + 1) s.heap.objs.size 0 .none → h'.IsTupleIter s.heap.objs.size l 0 → h'.objs.size = s.heap.objs.size + 2 →
      (∀ b o, s.heap.get? b = some o → h'.get? b = some o) → Q (.ref (s.heap.objs.size + 1)) { s with heap := h' }) :
    wpAny (model prog w) A (call (.type "enumerate") [.ref l]) Q E s := by
  refine callType_new F.called_enumerate (by decide) (F.typeCall_enumerate_1 _) (F.newCall_enumerate_1 _) (fun obj => F.args_object_init_2 obj _) F.entry_enumerate_new
    (enum_new_tup l items) ⟨hL, ?_⟩
  generalize hh1 : s.heap.push { cls := .type "tuple_iterator", data := .fields #[.ref l, .int 0 0] } = h1
  have hz : h1.objs.size = s.heap.objs.size + 1 := by rw [← hh1]; exact Heap.size_push ..
  have g1 : h1.get? s.heap.objs.size = some { cls := .type "tuple_iterator", data := .fields #[.ref l, .int 0 0] } := by rw [← hh1]; exact Heap.get?_push_size _ rfl
  have k1 : ∀ b o, s.heap.get? b = some o → h1.get? b = some o := fun b o e => by rw [← hh1]; exact Heap.get?_push_of_some _ e
  have he : IsEnum (h1.push { cls := .type "enumerate", data := .fields #[.none, .bool false, .ref s.heap.objs.size, rawInt 0, .none, .none] }) (s.heap.objs.size + 1) s.heap.objs.size 0 .none := by
    have q := Heap.get?_push_size h1 (o := { cls := .type "enumerate", data := .fields #[.none, .bool false, .ref s.heap.objs.size, rawInt 0, .none, .none] }) rfl
    rw [hz] at q
    exact q
  show _ ∧ _
  rw [hz]
  exact ⟨⟨_, he, rfl⟩, h _ he ⟨_, Heap.get?_push_of_some _ g1, rfl, rfl⟩ (by rw [Heap.size_push, hz]) fun b o x => Heap.get?_push_of_some _ (k1 b o x)⟩
end

/-- the tuple at a, each item in a new pair -/
def Itet (K : PySem.W.Frag) (a : Addr) : It :=
  ⟨fun i H => ∃ (xs : List V) (x : V), SqT K H a xs ∧ xs[i]? = some x,
    fun i H v H' => ∃ T x, v = .ref T ∧ H T = none ∧ H' = upd H T (.tup [.int (i : Nat), x]) ∧ ∀ xs, SqT K H a xs → xs[i]? = some x,
    fun i H => ∃ xs : List V, SqT K H a xs ∧ xs.length = i⟩
theorem tup_ne {h : Heap} {a it : Addr} {items : Array Value} {o : Obj} (p : IsTup h a items) (ho : h.get? it = some o) (hc : o.cls ≠ .type "tuple") : a ≠ it := fun z => by
  obtain ⟨u, hu, hcu, _⟩ := p
  rw [z, ho] at hu
  cases hu
  exact hc hcu
theorem turn_enumT {P : Program} {w : World} {K : PySem.W.Frag} {elts : List Expr} {kk : Nat} {tpos : Pos} (a e it : Addr) :
    Turn P w K (.Tuple elts kk tpos) (Itet K a) [e, it] e (fun i h => (∃ old, IsEnum h e it ((i : Nat) : Int) old) ∧ h.IsTupleIter it a i ∧ e ≠ it) where
  mem := by simp
  obj := fun i h st b hb => by
    obtain ⟨⟨old, he⟩, ⟨o, ho, hc, hd⟩, _⟩ := st
    rcases (show b = e ∨ b = it by simpa using hb) with z | z
    · rw [z]; exact ⟨_, he, fun v q => nomatch q⟩
    · rw [z]; exact ⟨o, ho, fun v q => by rw [hd] at q; cases q⟩
  keep := fun i h h' st k => let ⟨⟨old, he⟩, hi, hne⟩ := st; ⟨⟨old, k e (by simp) _ he⟩, hi.at fun o q => k it (by simp) o q, hne⟩
  item := by
    intro X hP hw hK hc i pins s σ H E I hf st hg
    subst hP hw hK
    obtain ⟨⟨old, he⟩, hit, hne⟩ := st
    obtain ⟨xs, x, hq, hx⟩ := hg
    obtain ⟨its, rv, p, hz⟩ := I.tuple hq
    obtain ⟨u, hu, ru⟩ := rv.get hx
    have hel : e < s.heap.objs.size := Heap.lt_size he
    have hil : it < s.heap.objs.size := by obtain ⟨_, q, _⟩ := hit; exact Heap.lt_size q
    have nai : a ≠ it := by
      obtain ⟨o, ho, hcl, _⟩ := id hit
      exact tup_ne p ho (by rw [hcl]; decide)
    have hlt : i < its.toArray.size := by
      rw [List.size_toArray]
      exact (List.getElem?_eq_some_iff.mp hu).1
    have nea : e ≠ a := fun z => tup_ne p he (by show Value.type "enumerate" ≠ Value.type "tuple"; decide) z.symm
    refine PySem.wpAny_pyNext_enum_itemC (Draws.tuple (A := X.A.in1) (I.ok.hd hc) it a nai its.toArray) he ⟨hit, p⟩ hlt hne (by simp [hne, nea]) fun y h' tk hy ho hst hT hsz hk => ?_
    have ey : y = u := by
      have : its.toArray[i]? = some y := hy
      rw [List.getElem?_toArray, hu] at this
      exact (Option.some.inj this).symm
    subst ey
    refine ⟨_, rfl, wpAny_letOwnedTupleGo_enum (s := { s with heap := h', toks := tk + 1 }) ho fun h'' he' sb => ?_⟩
    have hT2 : h''.get? s.heap.objs.size = some { cls := .type "tuple", data := .seq #[.int i tk, y] } := (sb.2 _ (Nat.ne_of_gt hel)).trans hT
    have new : ObjOk X.prog X.w (upd H s.heap.objs.size (.tup [.int (i : Nat), x])) h'' s.heap.objs.size (.tup [.int (i : Nat), x]) :=
      ⟨by show 2 ≤ sizeLine; decide, [.int i tk, y], .cons ⟨_, rfl⟩ (.cons ru .nil), ⟨_, hT2, rfl, _, rfl⟩⟩
    have I1 : Inv X pins σ (upd H s.heap.objs.size (.tup [.int (i : Nat), x])) { s with heap := h'', toks := tk + 1 } :=
      I.turnedNew (ch := [e, it]) (fun b ob hb q => (sb.2 b (fun z => hb (by simp [z]))).trans (hk b ob (fun z => hb (by simp [z])) (fun z => hb (by simp [z])) q)) hf (Nat.le_refl _) new
    refine ⟨.ref s.heap.objs.size, _, I1, rfl, ⟨_, x, rfl, I.hok.fresh (Nat.le_refl _), rfl, fun ys hy => by rw [I.tuple_inj hy hq]; exact hx⟩, ⟨⟨y, ?_⟩, hst.1.at fun o q => (sb.2 it (Ne.symm hne)).trans q, hne⟩, fun b hb => ?_⟩
    · rw [show ((i + 1 : Nat) : Int) = (i : Int) + 1 by omega]
      exact he'
    · have hb' : b < s.heap.objs.size := by
        rcases (show b = e ∨ b = it by simpa using hb) with z | z
        · rw [z]; exact hel
        · rw [z]; exact hil
      rw [upd_ne (Nat.ne_of_lt hb')]
      exact (hf b hb).1
  done := by
    intro X hP hw hK hc i pins s σ H E I hf st hg
    subst hP hw hK
    obtain ⟨⟨old, he⟩, hit, hne⟩ := st
    obtain ⟨xs, hq, hx⟩ := hg
    obtain ⟨its, rv, p, hz⟩ := I.tuple hq
    obtain ⟨f0, f1, f2, f3, f4, f5⟩ := hf it (by simp)
    have nai : a ≠ it := by
      obtain ⟨o, ho, hcl, _⟩ := id hit
      exact tup_ne p ho (by rw [hcl]; decide)
    have ez : its.toArray.size = i := by
      rw [List.size_toArray, ← rv.length, hx]
    refine PySem.wpAny_pyNext_enum_endD (Draws.tuple (A := X.A.in1) (I.ok.hd hc) it a nai its.toArray) he ?_ fun h' eb => ⟨rfl, I.turned (t' := s.toks) (fun b o hb q => eb b o hb q) f0 f1 f3 f4 f5⟩
    rw [ez]
    exact ⟨hit, p⟩
  self := fun A i s Q E st h => let ⟨⟨_, he⟩, _⟩ := st; wpAny_pyIter_enum he h
def iEnumT (K : PySem.W.Frag) (ta : TA) : TI := fun σ H R => ta σ H fun vs H1 => ∃ a xs, vs = [.ref a] ∧ SqT K H1 a xs ∧ R (Itet K a) H1
theorem pi_enumT {X : Cx} {e : Expr} {ta : TA} {p pos tpos : Pos} {elts : List Expr} {kk : Nat} (hg : Gl X "enumerate") (hm : X.mg "enumerate" = none) (ha : PA X [e] ta) (hs : starEach [e] X.env = [(false, eval e X.env)] := by rfl) :
    PI X (.Tuple elts kk tpos) (.Call (.Name "enumerate" p) [e] [] pos) (iEnumT X.K ta) := by
  refine ⟨fun pins s σ H R I h => Call_ (ld_blt I hg hm boot_enumerate (PyProof.Rows.callWith_type1 (thn (ha.run pos pins s σ H _ I h) fun us s1 ⟨vs, H1, I1, r1, q1⟩ => ?_) hs rfl))⟩
  obtain ⟨a, xs, rfl, hq, q⟩ := q1
  obtain rfl := Vals.ref1 r1
  obtain ⟨its, rv, p', hz⟩ := I1.tuple hq
  refine enum_call_tup p' fun h' he hit hsz hk => wpAny_pyIter_enum he ?_
  have I2 : Inv X pins σ H1 { s1 with heap := h' } := I1.kept (t' := s1.toks) hk
  refine ⟨s1.heap.objs.size + 1, [s1.heap.objs.size + 1, s1.heap.objs.size], _, _, H1, rfl, I2, turn_enumT a (s1.heap.objs.size + 1) s1.heap.objs.size, ⟨⟨.none, he⟩, hit, Nat.succ_ne_self _⟩, fun b hb => ?_, q⟩
  have hle : s1.heap.objs.size ≤ b := by
    rcases (show b = s1.heap.objs.size + 1 ∨ b = s1.heap.objs.size by simpa using hb) with z | z <;> rw [z]
    · exact Nat.le_succ _
    · exact Nat.le_refl _
  exact I1.fpOk hle (I1.hok.fresh hle)

theorem walk_enumT {K : PySem.W.Frag} {a : Addr} {xs : List V} : Walk (Itet K a) xs.length (fun H => SqT K H a xs) (YPair (fun i => some (.int (i : Nat))) (fun i => xs[i]?)) := by
  refine ⟨fun i _ hi q => ⟨xs, xs[i], q, List.getElem?_eq_getElem hi⟩, fun _ q => ⟨xs, q, rfl⟩, fun i H v H' _ q y => ?_⟩
  obtain ⟨T, x, e1, e2, e3, e4⟩ := y
  exact ⟨T, _, x, e1, e2, e3, rfl, e4 xs q⟩
end Kr

namespace Kr
open PySem PySem.Spec PyProof.Rows L2 HT
theorem adj_rev (n : Nat) : Builtin.Slice.sliceAdjust none none (-1) (n : Int) = ((n : Int) - 1, -1) := by
  unfold Builtin.Slice.sliceAdjust
  simp
theorem pla_rev (n : Nat) : Builtin.Slice.slicePlaces ((n : Int) - 1) (-1) (-1) = n := by
  unfold Builtin.Slice.slicePlaces
  simp
  omega
theorem pick_rev (xs : Array Value) : ((List.range xs.size).filterMap fun (m : Nat) => xs[(((xs.size : Nat) : Int) - 1 + (m : Int) * (-1)).toNat]?).toArray = xs.toList.reverse.toArray := by
  have e : (fun (m : Nat) => xs[(((xs.size : Nat) : Int) - 1 + (m : Int) * (-1)).toNat]?) = (fun k => xs[k]?) ∘ fun (m : Nat) => xs.size - 1 - m := by
    funext m
    show _ = xs[xs.size - 1 - m]?
    rw [show (((xs.size : Nat) : Int) - 1 + (m : Int) * (-1)).toNat = xs.size - 1 - m by omega]
  rw [e, ← List.filterMap_map, PySem.W.krv_range, List.filterMap_reverse, PySem.W.krv_all]
section
variable {prog : Program} {w : World} {A : Around} {E : Value → Shared → Prop} {s : Shared}
theorem applied_rev {sl : Addr} {vk : Value} {n : Nat} {Q : Int × Int × Nat → Shared → Prop} (hs : s.heap.IsSliceOf sl .none .none vk) (pk : IsPart vk (some (-1)))
    (h : Q ((n : Int) - 1, -1, n) s) : wpAny (model prog w) A (Builtin.Slice.sliceApplied (.ref sl) (pure (n : Int))) Q E s := by
  obtain ⟨os, hos, hcs, hds⟩ := id hs
  unfold Builtin.Slice.sliceApplied Builtin.Slice.sliceFields
  refine wpAny_bind (wpAny_bind (wpAny_field hos hds (x := .none) rfl (wpAny_bind (wpAny_field hos hds (x := .none) rfl (wpAny_bind (wpAny_field hos hds (x := vk) rfl (wpAny_pure ?_)))))))
  refine wpAny_bind (slicePart_ pk ?_)
  show wpAny _ _ (if ((-1 : Int) == 0) = true then _ else _) _ _ s
  rw [if_neg (by decide)]
  refine wpAny_bind (slicePart_none (wpAny_bind (slicePart_none (wpAny_bind (wpAny_pure ?_)))))
  show wpAny _ _ (match Builtin.Slice.sliceAdjust none none (-1) (n : Int) with | (lo, hi) => pure (lo, (-1 : Int), Builtin.Slice.slicePlaces lo hi (-1))) _ _ s
  rw [adj_rev n]
  show wpAny _ _ (pure ((n : Int) - 1, (-1 : Int), Builtin.Slice.slicePlaces ((n : Int) - 1) (-1) (-1))) _ _ s
  rw [pla_rev]
  exact wpAny_pure h
theorem tuple_rev {t sl : Addr} {items : Array Value} {vk : Value} {Q : Value → Shared → Prop} (ht : IsTup s.heap t items) (hs : s.heap.IsSliceOf sl .none .none vk) (pk : IsPart vk (some (-1)))
    (h : Q (.ref s.heap.objs.size) { s with heap := s.heap.push { cls := .type "tuple", data := .seq items.toList.reverse.toArray } })
    (hsz : items.size ≤ sizeLine) : wpAny (model prog w) A (getItem (.ref t) (.ref sl)) Q E s := by
  have hok : sizeOk (.seq items.toList.reverse.toArray) := by
    show items.toList.reverse.toArray.size ≤ sizeLine
    rw [List.size_toArray, List.length_reverse, Array.length_toList]
    exact hsz
  obtain ⟨os, hos, hcs, hds⟩ := id hs
  have hTs : s.TypeIs (.ref sl) "slice" := ⟨os, hos, hcs⟩
  unfold getItem
  try with_reducible refine wpAny_holding ?_
  first | refine wpAny_bind (wpAny_pure ?_) | skip
  refine wpAny_bind (wpAny_sequenceKey ht.typeIs (by decide) ?_)
  refine wpAny_bind (wpAny_callSpecial?_slot (name := Str.ofString "__getitem__") ht.typeIs PyProof.Rows.slot_tuple_getitem
    (wpAny_call_entry PyProof.Rows.slot_tuple_getitem ht.typeIs entry_tuple_getitem ?_ (args_tuple_getitem _ _)))
  show wpAny _ _ (Builtin.Tuple.tupleItemsOf (.ref t) >>= _) _ _ s
  refine wpAny_bind (tupleItemsOf_ ht (wpAny_bind (wpAny_typeOf hTs ?_)))
  rw [if_pos (by decide)]
  refine wpAny_bind (applied_rev hs pk ?_)
  have hno : ¬ (((((items.size : Nat) : Int) - 1) == 0 && (-1 : Int) == 1 && items.size == items.size) = true) := by
    rw [show ((-1 : Int) == 1) = false by decide, Bool.and_false, Bool.false_and]
    exact Bool.false_ne_true
  show wpAny _ _ (if ((((items.size : Nat) : Int) - 1) == 0 && (-1 : Int) == 1 && items.size == items.size) = true then _ else _) _ _ s
  rw [if_neg hno, pick_rev]
  first
    | exact wpAny_bind (wpAny_bind (m := Builtin.Tuple.tupleExact _) (wpAny_newObj_type (wpAny_pure ⟨_, rfl, wpAny_pure h⟩) hok))
    | exact wpAny_bind (m := Builtin.Tuple.tupleExact _) (wpAny_newObj_type (wpAny_pure ⟨_, rfl, wpAny_pure h⟩) hok)
    | exact wpAny_bind (m := Builtin.Tuple.tupleExact _) (wpAny_newObj_type (wpAny_bind (wpAny_pure (wpAny_pure ⟨_, rfl, wpAny_pure h⟩))) hok)
    | exact wpAny_bind (wpAny_bind (m := Builtin.Tuple.tupleExact _) (wpAny_newObj_type (wpAny_pure (wpAny_pure ⟨_, rfl, wpAny_pure h⟩)) hok))
end
section
variable {X : Cx}
/-- t[::-1] of a tuple -/
def tRevT (K : PySem.W.Frag) (te : TE) : TE := fun σ H Q => te σ H fun x H1 => ∃ a xs, x = .ref a ∧ SqT K H1 a xs ∧ ∀ p, H1 p = none → Q (.ref p) (upd H1 p (.tup xs.reverse))
theorem pe_revT {e : Expr} {te : TE} {k : Nat} {p1 p2 p3 pos : Pos} (he : PE X e te) : PE X (.Subscript e (.Slice none none (some (.UnaryOp .USub (.Constant (.int 1) k p1) p2)) p3) pos) (tRevT X.K te) := by
  refine ⟨fun pins s σ H Q I h => Subscript_ (thn (he.run pins s σ H _ I h) fun v s1 ⟨x, H1, I1, r1, q1⟩ => ?_)⟩
  obtain ⟨a, xs, rfl, hx, q⟩ := q1
  cases r1
  have hst : PO X (some (.UnaryOp .USub (.Constant (.int 1) k p1) p2)) (tPart (tUn (rU fun i => .int (-i)) (tC (.int 1)))) := po_some (pe_un un_neg pe_int)
  refine wpAny_Slice (thn (po_none.run pins s1 σ H1 (fun o H2 => o = none ∧ H2 = H1) I1 ⟨rfl, rfl⟩) fun vl s2 ⟨l, H2, I2, pl, el, e2⟩ => ?_)
  subst el e2
  refine thn (po_none.run pins s2 σ H2 (fun o H3 => o = none ∧ H3 = H2) I2 ⟨rfl, rfl⟩) fun vu s3 ⟨u, H3, I3, pu, eu, e3⟩ => ?_
  subst eu e3
  refine thn (hst.run pins s3 σ H3 (fun o H4 => o = some (-1) ∧ H4 = H3) I3 ⟨1, rfl, -1, rfl, rfl, rfl⟩) fun vs s4 ⟨o, H4, I4, ps, eo, e4⟩ => ?_
  subst eo e4
  cases pl
  cases pu
  have I5 : Inv X pins σ H4 { s4 with heap := s4.heap.push { cls := .type "slice", data := .fields #[.none, .none, vs] } } := I4.kept (t' := s4.toks) fun b ob q => Heap.get?_push_of_some _ q
  obtain ⟨its, r, ht, hz⟩ := I5.tuple hx
  have hlen := r.length
  show wpAny (model X.prog X.w) X.A (subscriptTail e (.Slice none none (some (.UnaryOp .USub (.Constant (.int 1) k p1) p2)) p3) (.ref a) (.ref s4.heap.objs.size)) (EP X pins σ Q) X.xe { s4 with heap := s4.heap.push { cls := .type "slice", data := .fields #[.none, .none, vs] } }
  refine tail_any (ops := [.ref a, .ref s4.heap.objs.size]) ht.typeIs (PyProof.Rows.slot_tuple_getitem.lookup) ?_ (by with_unfolding_all rfl)
  refine tuple_rev ht (Heap.IsSliceOf.new _ .none .none vs) ps ?_ (by rw [List.size_toArray]; omega)
  refine ⟨.ref _, _, I5.laid (t' := s4.toks) (o := .tup xs.reverse) (fun b ob q => Heap.get?_push_of_some _ q) (Nat.le_refl _) ?_, rfl, q _ (I5.hok.fresh (Nat.le_refl _))⟩
  exact ⟨by rw [List.length_reverse]; exact hz, _, r.reverse, IsTup.new _ _⟩
end
end Kr

namespace Kr
open PySem PySem.Spec PyProof.Rows L2
/-! ### data over the abstract heap: None, bools, ints, texts, lists, tuples, {} -/
mutual
inductive Dq (H : Hp) : V → PyData → Prop
  | non : Dq H .non .none
  | bl (b : Bool) : Dq H (.bl b) (.bool b)
  | int (i : Int) : Dq H (.int i) (.int i)
  | str (x : Str) : Dq H (.str x) (.str x)
  | lst {a : Addr} {xs : List V} {ds : List PyData} (e : H a = some (.lst xs)) (q : DqA H xs ds) : Dq H (.ref a) (.list ds)
  | tup {a : Addr} {xs : List V} {ds : List PyData} (e : H a = some (.tup xs)) (q : DqA H xs ds) : Dq H (.ref a) (.tuple ds)
  | dic {a : Addr} (e : H a = some (.dK [])) : Dq H (.ref a) (.dict [])
inductive DqA (H : Hp) : List V → List PyData → Prop
  | nil : DqA H [] []
  | cons {v : V} {vs : List V} {d : PyData} {ds : List PyData} (h : Dq H v d) (t : DqA H vs ds) : DqA H (v :: vs) (d :: ds)
end
mutual
theorem Dq.up {H H' : Hp} (s : Same H H') : ∀ {v : V} {d : PyData}, Dq H v d → Dq H' v d
  | _, _, .non => .non
  | _, _, .bl b => .bl b
  | _, _, .int i => .int i
  | _, _, .str x => .str x
  | _, _, .lst e q => .lst (s _ _ e) (DqA.up s q)
  | _, _, .tup e q => .tup (s _ _ e) (DqA.up s q)
  | _, _, .dic e => .dic (s _ _ e)
theorem DqA.up {H H' : Hp} (s : Same H H') : ∀ {vs : List V} {ds : List PyData}, DqA H vs ds → DqA H' vs ds
  | _, _, .nil => .nil
  | _, _, .cons h t => .cons (Dq.up s h) (DqA.up s t)
end
theorem DqA.len {H : Hp} : ∀ {vs : List V} {ds : List PyData}, DqA H vs ds → vs.length = ds.length
  | _, _, .nil => rfl
  | _, _, .cons _ t => by rw [List.length_cons, List.length_cons, DqA.len t]
theorem DqA.get {H : Hp} : ∀ {vs : List V} {ds : List PyData} {i : Nat} {v : V}, DqA H vs ds → vs[i]? = some v → ∃ d, ds[i]? = some d ∧ Dq H v d
  | _, _, _, _, .nil, e => by simp at e
  | _, _, 0, _, .cons h _, e => by
    simp at e
    subst e
    exact ⟨_, rfl, h⟩
  | _, _, i + 1, _, .cons _ t, e => by
    obtain ⟨d, h1, h2⟩ := DqA.get (i := i) t (by simpa using e)
    exact ⟨d, by simpa using h1, h2⟩
theorem DqA.app {H : Hp} : ∀ {vs us : List V} {ds es : List PyData}, DqA H vs ds → DqA H us es → DqA H (vs ++ us) (ds ++ es)
  | _, _, _, _, .nil, q => q
  | _, _, _, _, .cons h t, q => .cons h (DqA.app t q)
theorem DqA.take {H : Hp} : ∀ {vs : List V} {ds : List PyData} (n : Nat), DqA H vs ds → DqA H (vs.take n) (ds.take n)
  | _, _, 0, _ => .nil
  | _, _, _ + 1, .nil => .nil
  | _, _, n + 1, .cons h t => .cons h (DqA.take n t)
theorem DqA.drop {H : Hp} : ∀ {vs : List V} {ds : List PyData} (n : Nat), DqA H vs ds → DqA H (vs.drop n) (ds.drop n)
  | _, _, 0, q => q
  | _, _, _ + 1, .nil => .nil
  | _, _, n + 1, .cons _ t => DqA.drop n t
theorem DqA.set {H : Hp} {v : V} {d : PyData} (q : Dq H v d) : ∀ {vs : List V} {ds : List PyData} (i : Nat), DqA H vs ds → DqA H (vs.set i v) (ds.set i d)
  | _, _, _, .nil => .nil
  | _, _, 0, .cons _ t => .cons q t
  | _, _, i + 1, .cons h t => .cons h (DqA.set q i t)
theorem DqA.one {H : Hp} {v : V} {d : PyData} (q : Dq H v d) : DqA H [v] [d] := .cons q .nil
theorem DqA.rev {H : Hp} : ∀ {vs : List V} {ds : List PyData}, DqA H vs ds → DqA H vs.reverse ds.reverse
  | _, _, .nil => .nil
  | _, _, .cons h t => by
    rw [List.reverse_cons, List.reverse_cons]
    exact DqA.app (DqA.rev t) (.one h)
theorem DqA.ints {H : Hp} : ∀ ns : List Int, DqA H (ns.map V.int) (ns.map PyData.int)
  | [] => .nil
  | n :: r => .cons (.int n) (DqA.ints r)
theorem DqA.rep {H : Hp} {v : V} {d : PyData} (q : Dq H v d) : ∀ n : Nat, DqA H (List.replicate n v) (List.replicate n d)
  | 0 => .nil
  | n + 1 => .cons q (DqA.rep q n)
theorem Dq.tup_inv {H : Hp} {v : V} {ds : List PyData} (q : Dq H v (.tuple ds)) : ∃ a xs, v = .ref a ∧ H a = some (.tup xs) ∧ DqA H xs ds := by
  cases q with
  | tup e h => exact ⟨_, _, rfl, e, h⟩

/-! ### how long what is shown is -/
mutual
def big : PyData → Nat
  | .none | .bool _ => 5
  | .int i => (toString i : Str).length
  | .str x => (reprText x).length
  | .list xs | .tuple xs => bigA xs + 3
  | .dict _ => 2
def bigA : List PyData → Nat
  | [] => 0
  | x :: xs => big x + 2 + bigA xs
end

section
variable {X : Cx} {pins : List (Addr × Obj)} {σ : L2.St} {H : Hp} {s : Shared}
mutual
theorem Dq.reprs (I : Inv X pins σ H s) : ∀ (d : PyData) (v : V) (u : Value), Dq H v d → RelV v u → d.showable = true → d.shown.length ≤ sizeLine →
    ∃ as, Reads s.heap u d as ∧ ∃ bs, ReadAtMost s.heap d.depth bs ∧ ReprK X.prog X.w bs s.heap d.depth u d.shown
  | .none, _, _, h, r, _, _ => by
    cases h
    cases r
    exact ⟨_, .none, [], (fun _ h => nomatch h), by simp only [PyData.shown]; exact .of_is ReprIs.none _ _ _⟩
  | .bool b, _, _, h, r, _, _ => by
    cases h
    cases r
    exact ⟨_, .bool b, [], (fun _ h => nomatch h), by simp only [PyData.shown]; exact .of_is (ReprIs.bool b) _ _ _⟩
  | .int i, _, _, h, r, hs, _ => by
    cases h
    obtain ⟨t, rfl⟩ := r
    exact ⟨_, .int i t, [], (fun _ h => nomatch h), by simp only [PyData.shown]; exact .of_is (ReprIs.int t (by simpa [PyData.showable] using hs)) _ _ _⟩
  | .str x, _, _, h, r, _, hz => by
    cases h
    obtain ⟨t, rfl⟩ := r
    exact ⟨_, .str x t, [], (fun _ h => nomatch h), by simp only [PyData.shown]; exact .of_is (ReprIs.str x t (by simpa only [PyData.shown] using hz)) _ _ _⟩
  | .list ds, _, _, h, r, hs, hz => by
    cases h with
    | @lst a xs _ e ha =>
      cases r
      have hz' : (listText (PyData.shownAll ds)).length ≤ sizeLine := by simpa only [PyData.shown] using hz
      obtain ⟨its, rv, ⟨o, n, ho, hc, _, hd⟩, _⟩ := I.list (SqL.of (K := X.K) e)
      obtain ⟨as, hr, bs, hb, hk⟩ := DqA.reprs I ds _ its ha rv (by simpa [PyData.showable] using hs) fun t ht => Nat.le_trans (listText_mem_le ht) hz'
      have rd : Reads s.heap (.ref a) (.list ds) _ := .list ho hc hd hr
      have hna : a ∉ bs := not_mem_of_deeper rd (by simp only [PyData.depth]; omega) hb
      refine ⟨_, rd, a :: bs, ReadAtMost.cons rd (by simp only [PyData.depth]; omega) hb, ?_⟩
      simp only [PyData.depth, PyData.shown]
      cases its with
      | nil =>
        cases hr
        simp only [PyData.shownAll, listText_nil]
        exact ReprK.listEmpty ho hc hd
      | cons y l => exact ReprK.list ho hc hd hna (by simpa using hk.length_eq) (fun i y e => hk.item i y (by simpa using e))
  | .tuple ds, _, _, h, r, hs, hz => by
    cases h with
    | @tup a xs _ e ha =>
      cases r
      have hz' : (tupleText (PyData.shownAll ds)).length ≤ sizeLine := by simpa only [PyData.shown] using hz
      obtain ⟨its, rv, ⟨o, ho, hc, n, hd⟩, _⟩ := I.tuple (SqT.of (K := X.K) e)
      obtain ⟨as, hr, bs, hb, hk⟩ := DqA.reprs I ds _ its ha rv (by simpa [PyData.showable] using hs) fun t ht => Nat.le_trans (tupleText_mem_le ht) hz'
      have rd : Reads s.heap (.ref a) (.tuple ds) _ := .tuple ho hc hd hr
      have hna : a ∉ bs := not_mem_of_deeper rd (by simp only [PyData.depth]; omega) hb
      refine ⟨_, rd, a :: bs, ReadAtMost.cons rd (by simp only [PyData.depth]; omega) hb, ?_⟩
      simp only [PyData.depth, PyData.shown]
      exact ReprK.tuple ho hc hd hna (by simpa using hk)
  | .dict kv, _, _, h, r, _, _ => by
    cases h with
    | @dic a e =>
      cases r
      obtain ⟨_, hsys, vs, rel, o, es, ep, ho, hx, hd, _, hp, _⟩ := I.hok a _ e
      cases rel
      have hes : es = #[] := by
        obtain ⟨l⟩ := es
        have : l = [] := by
          cases l with
          | nil => rfl
          | cons y l => exact nomatch hp
        rw [this]
      subst hes
      have rd : Reads s.heap (.ref a) (.dict []) _ := .dict ho hx.1 hd .nil .nil
      refine ⟨_, rd, [a], ReadAtMost.cons rd (Nat.zero_le _) (fun _ h => nomatch h), ?_⟩
      have := ReprK.dict (prog := X.prog) (w := X.w) (as := []) (d := 0) ho hx.1 hd hsys (fun h => nomatch h) .nil
      simpa only [PyData.depth, PyData.depthKv, PyData.shown, PyData.shownKv] using this
theorem DqA.reprs (I : Inv X pins σ H s) : ∀ (ds : List PyData) (vs : List V) (us : List Value), DqA H vs ds → Vals vs us → PyData.showableAll ds = true → (∀ t ∈ PyData.shownAll ds, t.length ≤ sizeLine) →
    ∃ as, ReadsAll s.heap us ds as ∧ ∃ bs, ReadAtMost s.heap (PyData.depthAll ds) bs ∧ ReprAllK X.prog X.w bs s.heap (PyData.depthAll ds) us (PyData.shownAll ds)
  | [], _, _, h, r, _, _ => by
    cases h
    cases r
    exact ⟨_, .nil, [], (fun _ h => nomatch h), by simp only [PyData.shownAll]; exact .nil⟩
  | d :: ds, _, _, h, r, hs, hz => by
    cases h with
    | cons h1 h2 =>
      cases r with
      | cons r1 r2 =>
        have hs' : d.showable = true ∧ PyData.showableAll ds = true := by simpa [PyData.showableAll] using hs
        obtain ⟨as, q1, b1, hb1, k1⟩ := Dq.reprs I d _ _ h1 r1 hs'.1 (hz _ (by simp only [PyData.shownAll]; exact List.mem_cons_self ..))
        obtain ⟨cs, q2, b2, hb2, k2⟩ := DqA.reprs I ds _ _ h2 r2 hs'.2 (fun t ht => hz t (by simp only [PyData.shownAll]; exact List.mem_cons_of_mem _ ht))
        refine ⟨_, .cons q1 q2, b1 ++ b2, ?_, ?_⟩
        · simp only [PyData.depthAll]
          exact (hb1.mono (Nat.le_max_left _ _)).append (hb2.mono (Nat.le_max_right _ _))
        · simp only [PyData.depthAll, PyData.shownAll]
          exact .cons ((k1.more fun b hb => List.mem_append_left _ hb).level_le (Nat.le_max_left _ _)) (k2.more_le (fun b hb => List.mem_append_right _ hb) (Nat.le_max_right _ _))
end
end

/-- repr(x) of data, where no repr is under way -/
def rRepr : List V → Hp → VK → Prop := fun xs H Q => ∃ v d, xs = [v] ∧ Dq H v d ∧ d.showable = true ∧ d.depth ≤ 40 ∧ d.shown.length ≤ sizeLine ∧ Q (.str d.shown) H
theorem call_repr {X : Cx} (hg : X.A.guards = some []) (hu : X.A.units + 64 < cLine) : CallR X (.builtin "repr") rRepr := by
  intro pins s σ H xs us Q I r h
  obtain ⟨v, d, rfl, hd, hs, hdep, hz, q⟩ := h
  obtain ⟨u, rfl, r1⟩ : ∃ u, us = [u] ∧ RelV v u := by
    cases r with
    | cons a b =>
      cases b
      exact ⟨_, rfl, a⟩
  have fin : ∀ (h' : Heap) (t : Tok) (tk : Nat), (∀ b o, s.heap.get? b = some o → h'.get? b = some o) → EP X pins σ Q (.str d.shown t) { s with heap := h', toks := tk } :=
    fun h' t tk hk => ⟨.str d.shown, H, I.kept (t' := tk) hk, ⟨t, rfl⟩, q⟩
  cases hd with
  | non =>
    simp only [PyData.shown] at fin
    cases r1
    exact PySem.P.repr_of_none (fin s.heap _ _ fun _ _ e => e)
  | bl b =>
    simp only [PyData.shown] at fin
    cases r1
    have := PySem.P.repr_of_bool (prog := X.prog) (w := X.w) (A := X.A) (E := X.xe) (b := b) (s := s) (Q := EP X pins σ Q)
    refine this ?_
    have f := fin s.heap s.toks (s.toks + 1) fun _ _ e => e
    cases b <;> exact f
  | int i =>
    simp only [PyData.shown] at fin
    obtain ⟨t, rfl⟩ := r1
    exact PySem.P.repr_of_int (by simpa [PyData.showable] using hs) (fin s.heap _ _ fun _ _ e => e)
  | str x =>
    simp only [PyData.shown] at fin hz
    obtain ⟨t, rfl⟩ := r1
    exact PySem.P.repr_of_str (fin s.heap _ _ fun _ _ e => e) hz
  | @lst a xs ds e ha =>
    obtain rfl : u = Value.ref a := r1
    simp only [PyData.depth] at hdep
    have hz' : (listText (PyData.shownAll ds)).length ≤ sizeLine := by simpa only [PyData.shown] using hz
    simp only [PyData.shown] at fin
    obtain ⟨its, rv, ⟨o, n, ho, hc, _, hd⟩, _⟩ := I.list (SqL.of (K := X.K) e)
    obtain ⟨as, hr, bs, hb, hk⟩ := DqA.reprs I ds _ its ha rv (by simpa [PyData.showable] using hs) fun t ht => Nat.le_trans (listText_mem_le ht) hz'
    have rd : Reads s.heap (.ref a) (.list ds) _ := .list ho hc hd hr
    have hna : a ∉ bs := not_mem_of_deeper rd (by simp only [PyData.depth]; omega) hb
    refine call_repr_slot (by omega) ⟨o, ho, hc⟩ F.slot_list_repr.toG ?_
    cases its with
    | nil =>
      cases hr
      have e0 : listText (PyData.shownAll []) = ("[]" : Str) := by simp only [PyData.shownAll, listText_nil]
      rw [e0] at fin
      exact call_list_repr_empty ⟨o, ho, hc⟩ ho hd ⟨_, _, rfl, fin s.heap _ _ fun _ _ e => e⟩
    | cons y l =>
      exact call_list_reprK ho hc hd hna (by simpa using hk.length_eq) (fun i y e => hk.item i y (by simpa using e)) hg (fun b _ => Clear.nil b) (by show X.A.units + 1 + _ < cLine; omega) (fun _ _ e => e) (fun h' t tk hk => ⟨_, _, rfl, fin h' t tk hk⟩) hz'
  | @tup a xs ds e ha =>
    obtain rfl : u = Value.ref a := r1
    simp only [PyData.depth] at hdep
    have hz' : (tupleText (PyData.shownAll ds)).length ≤ sizeLine := by simpa only [PyData.shown] using hz
    simp only [PyData.shown] at fin
    obtain ⟨its, rv, ⟨o, ho, hc, n, hd⟩, _⟩ := I.tuple (SqT.of (K := X.K) e)
    obtain ⟨as, hr, bs, hb, hk⟩ := DqA.reprs I ds _ its ha rv (by simpa [PyData.showable] using hs) fun t ht => Nat.le_trans (tupleText_mem_le ht) hz'
    have rd : Reads s.heap (.ref a) (.tuple ds) _ := .tuple ho hc hd hr
    have hna : a ∉ bs := not_mem_of_deeper rd (by simp only [PyData.depth]; omega) hb
    refine call_repr_slot (by omega) ⟨o, ho, hc⟩ F.slot_tuple_repr ?_
    exact call_tuple_reprK ho hc hd hna (by simpa using hk) hg (fun b _ => Clear.nil b) (by show X.A.units + 1 + _ < cLine; omega) (fun _ _ e => e) (fun h' t tk hk => ⟨_, _, rfl, fin h' t tk hk⟩) hz'
  | @dic a e =>
    obtain rfl : u = Value.ref a := r1
    obtain ⟨_, hsys, vs, rel, o, es, ep, ho, hx, hd, _, hp, _⟩ := I.hok a _ e
    cases rel
    have hes : es = #[] := by
      obtain ⟨l⟩ := es
      have : l = [] := by
        cases l with
        | nil => rfl
        | cons y l => exact nomatch hp
      rw [this]
    subst hes
    simp only [PyData.shown, PyData.shownKv] at fin hz
    refine call_repr_slot (by omega) ⟨o, ho, hx.1⟩ F.slot_dict_repr ?_
    exact call_dict_reprK (as := []) (d := 0) ho hx.1 hd hsys (fun h => nomatch h) .nil hg (fun b _ => Clear.nil b) (by show X.A.units + 1 + _ < cLine; omega) (fun _ _ e => e) (fun h' t tk hk => ⟨_, _, rfl, fin h' t tk hk⟩) hz
end Kr

namespace Kr
open PySem PySem.Spec PyProof.Rows L2
/-! ### defs that are called where no repr is under way -/
structure FnG (P : Program) (w : World) (K : PySem.W.Frag) (mg : Str → Option Value) (base : Heap) (CX : CXT) (k : Nat) (f : Addr) (fd : FuncData) (ps : List Str) (sp : Sp) : Prop where
  len : ∀ vs H Q E, sp vs H Q E → vs.length = ps.length
  run : ∀ (A : Around) (outer : List Env) (s : Shared) (H : Hp) (args : Args) (us : List Value) (vs : List V) (Q : VK) (E : XK), A.guards = some [] → Room k A → Env0 P w K mg base A outer s H → BindsTo s fd args (ps.zip us) → Vals vs us → sp vs H Q E →
    codeAny (model P w) A (.call (.ref f) args) (CR CX outer P w H s Q E) s
section
variable {P : Program} {w : World} {K : PySem.W.Frag} {mg : Str → Option Value} {base : Heap} {CX : CXT}
theorem FnG.mono {j k : Nat} {f : Addr} {fd : FuncData} {ps : List Str} {sp : Sp} (F : FnG P w K mg base CX j f fd ps sp) (h : j ≤ k) : FnG P w K mg base CX k f fd ps sp :=
  ⟨F.len, fun A outer s H args us vs Q E hg hr => F.run A outer s H args us vs Q E hg (hr.mono h)⟩
/-- by the body, as Fun.ok; the body is told that no repr is under way -/
theorem okG {x qual : Str} {st : Stmt} {f : Addr} {fd : FuncData} {N ps : List Str} {k : Nat} {sp : Sp} (F : Fun K x qual st f fd) (S : FnScope N ps (defScope st)) (len : ∀ vs H Q E, sp vs H Q E → vs.length = ps.length)
    (hbody : ∀ (cdv : Value) (A : Around) (outer : List Env) (s : Shared) (H : Hp) (vs : List V) (Q : VK) (E : XK), (A.deeper (envOfC qual (defScope st) s.heap.objs.size f cdv)).guards = some [] → Room k (A.deeper (envOfC qual (defScope st) s.heap.objs.size f cdv)) → sp vs H Q E →
      ∃ t, PSs (cxOf CX0 P w K mg base N qual (defScope st) f cdv A outer s H E).nox (defBody st) t ∧ t { nx := fun _ H' => Q .non H', rt := Q } (start N vs) H) : FnG P w K mg base CX0 (k + 1) f fd ps sp := by
  obtain ⟨oc, od, kV, doc, pm, an, cdv, ct, osl, rfl, lk, hcd⟩ := F.ex
  refine ⟨len, fun A outer s H args us vs Q E hg hr e0 hb r hsp => ?_⟩
  have KX : K.In s.heap := e0.mod.kin.keeps fun b o e => (e0.bs b o e).1
  have lim : s.heap.NoLimit := e0.mod.nolimit.keeps fun b o e => (e0.bs b o e).1
  refine codeAny_call_function hr.depth (KX _ _ lk) rfl S.co S.gen rfl (PySem.W.codeRec_of KX hcd) (hb _ _ _ _ ?_)
  have kinds : ∀ y ∈ ps.zip us, (defScope st).names.lookup y.1 = some .local ∨ ((defScope st).names.lookup y.1 = some .cell ∧ ((cellsFrom (s.heap.objs.size + 1) (defScope st).names []).lookup y.1).isSome = true) := by
    rintro ⟨n, v⟩ hy
    rcases S.par n (List.of_mem_zip hy).1 with q | q
    · exact .inl q
    · exact .inr ⟨q, PySem.W.cellsFrom_some _ _ _ (.inl q)⟩
  refine wpAny_newFunctionEnv_cells S.kind kinds fun env he s1 x => ?_
  subst he
  refine ⟨lim.keeps x.toInCall.keep, codeAny_func ?_⟩
  obtain ⟨t, ht, hq⟩ := hbody cdv A outer s H vs Q E (by first | exact hg | simpa [Around.deeper] using hg) (hr.deeper _) hsp
  have I : Inv (cxOf CX0 P w K mg base N qual (defScope st) f cdv A outer s H E) [] (start N vs) H s1 := inv_start S hr.hd e0 (len _ _ _ _ hsp) r x
  refine wpAny_mono (ht.nox.run [] s1 (start N vs) H _ I hq) (fun fl s' hs => ?_) fun e s' hs => hs
  cases fl with
  | ret u =>
    obtain ⟨v, σ', H', J, rv, q⟩ := hs
    exact ⟨v, H', J.os, J.bare, J.base, J.hok, rv, q⟩
  | next =>
    obtain ⟨σ', H', J, q⟩ := hs
    exact ⟨.non, H', J.os, J.bare, J.base, J.hok, rfl, q⟩
  | brk => exact hs.elim fun _ h => h.elim fun _ h => h.2.elim
  | cont => exact hs.elim fun _ h => h.elim fun _ h => h.2.elim
end
section
variable {X : Cx} {CX : CXT} {k : Nat} {f : Addr} {fd : FuncData} {ps : List Str} {sp : Sp} {dvs : List V} {ds : List Value} {E : XK} {x : Str} {p pos : Pos} {e : Expr} {es : List Expr} {t : TA}
/-- such a def's call, from a body of the same kind -/
theorem pe_callG (F : FnG X.prog X.w X.K X.mg X.base CX k f fd ps sp) (gd : X.A.guards = some []) (hr : Room k X.A) (hg : Gl X x) (hm : X.mg x = some (.ref f)) (hk : PySem.W.keepIn X.K (.ref f) = true) (hb : Binds X.K fd ps ds) (hd : Vals dvs ds) (hx : Passes CX X E)
    (ha : PA X (e :: es) t) (hdb : (x == ("__debug__" : Str)) = false := by decide) (he : starEach (e :: es) X.env = (false, eval e X.env) :: starEach es X.env := by rfl) (hpl : (backTo pos (starEach es X.env)).any (·.1) = false := by rfl) :
    PE X (.Call (.Name x p) (e :: es) [] pos) (tCall sp dvs E t) := by
  refine ⟨fun pins s σ H Q I h => wpAny_Call_Name_kw (ld_glob I hg hm ?_ hdb)⟩
  refine PySem.W.callWith_K (h₀ := X.base) I.ok.mod.kin hk (thn (ha.run pos pins s σ H _ I h) fun us s1 ⟨vs, H1, I1, r, q⟩ => ⟨I1.kIn, ?_⟩) he hpl
  have r2 : Vals (vs ++ dvs) (us ++ ds) := r.append hd
  have hl : (us ++ ds).length = ps.length := r2.length.symm.trans (F.len _ _ _ _ q)
  refine wpAny_call (codeAny_mono (F.run X.A X.stack s1 H1 ⟨us, []⟩ (us ++ ds) (vs ++ dvs) Q E gd hr I1.env0 (hb s1 us I1.kIn hl) r2 q) fun r s' hq => ?_)
  cases r with
  | error e => exact hx pins σ H1 s1 e s' I1 hq
  | ok fl =>
    cases fl with
    | ret u => exact I1.after hq
    | next => exact hq.elim
    | brk => exact hq.elim
    | cont => exact hq.elim
end

/-! ### the head: the law is called where nothing is under way -/
theorem law_callG {P : Program} {w : World} {K : PySem.W.Frag} {mg mb : Str → Option Value} {k : Nat} {fa a : Addr} {fd : FuncData} {x : Str} {sp : Sp} {s₁ : Shared} {vs : List Value} {ns : List Int}
    (KX : K.In s₁.heap) (hns : s₁.heap.Ns mainGlobals mg) (hb : s₁.heap.Ns builtinsNs mb) (hbb : ∀ x : Str, x ≠ "__name__" → mb x = bootBuiltins x) (hlim : s₁.heap.NoLimit) (hg : s₁.gens = #[])
    (ha : s₁.heap.get? a = some { cls := .type "list", data := .seq vs.toArray }) (hi : IntsAre vs ns) (hl : ns.length ≤ sizeLine) (hr : Room k callerA)
    (F : ∀ base : Heap, K.In base → base.Ns mainGlobals mg → FnG P w K mg base CX0 k fa fd [x] sp) (hbind : ∀ (s : Shared) (u : Value), BindsTo s fd ⟨[u], []⟩ [(x, u)])
    (hsp : ∀ H : Hp, Only H → SqL K H a (ns.map V.int) → sp [.ref a] H (fun v _ => v = .bl true) fun _ _ _ => False) :
    codeAny (model P w) callerA (.call (.ref fa) ⟨[.ref a], []⟩) (fun r s' => r = .ok (.ret (.bool true)) ∧ OldK s₁.heap s'.heap ∧ s'.os = s₁.os ∧ AllBare s'.gens) s₁ := by
  have rv := vals_ints hi
  have lenV := hi.length
  have step : ∀ H : Hp, Only H → SqL K H a (ns.map V.int) → HOk P w H s₁.heap → (∀ b, H b ≠ none → b = a) → (H a ≠ none → K.lookup a = none) →
      codeAny (model P w) callerA (.call (.ref fa) ⟨[.ref a], []⟩) (fun r s' => r = .ok (.ret (.bool true)) ∧ OldK s₁.heap s'.heap ∧ s'.os = s₁.os ∧ AllBare s'.gens) s₁ := by
    intro H hO hS hok only hK
    have free : ∀ {b : Addr} {o : Obj}, s₁.heap.get? b = some o → (b = a → H b = none) → (hidT s₁.heap H).get? b = some o := fun {b o} e n => hidT_get e (by
      cases q : H b with
      | none => rfl
      | some u => rw [n (only b (by rw [q]; simp))] at q; cases q)
    have ns2 : ∀ {b : Addr} {m : Str → Option Value}, s₁.heap.Ns b m → (hidT s₁.heap H).Ns b m := by
      rintro b m ⟨o, es, ep, e, d, r⟩
      refine ⟨o, es, ep, free e fun z => ?_, d, r⟩
      subst z
      rw [ha] at e
      cases e
      cases (show Data.seq vs.toArray _ = Data.dict es ep from d)
    have kin : K.In (hidT s₁.heap H) := fun b o e => free (KX b o e) fun z => by
      subst z
      cases q : H b with
      | none => rfl
      | some u => rw [hK (by rw [q]; simp)] at e; cases e
    have md : Mod K mg (hidT s₁.heap H) := ⟨kin, ns2 hns, ⟨mb, ns2 hb, hbb⟩, hlim.elim fun mc h => ⟨mc, ns2 h.1, h.2⟩⟩
    have e0 : Env0 P w K mg (hidT s₁.heap H) callerA [] s₁ H :=
      ⟨rfl, md, fun b o e => of_hidT e, Nat.le_of_eq (hidT_size _ _), trivial, fun b hb => absurd (show b ∈ ([] : List Addr) from hb) (by simp), hok, .of_eq hg⟩
    refine codeAny_mono ((F _ kin (ns2 hns)).run callerA [] s₁ H ⟨[.ref a], []⟩ [.ref a] [.ref a] _ _ rfl hr e0 (hbind s₁ (.ref a)) (.cons rfl .nil) (hsp H hO hS)) fun r s' h => ?_
    cases r with
    | error e => exact h.elim
    | ok fl =>
      cases fl with
      | next => exact h.elim
      | brk => exact h.elim
      | cont => exact h.elim
      | ret u =>
        obtain ⟨v, H', os, bare, un, hok', r', q⟩ := h
        obtain rfl : v = .bl true := q
        obtain rfl : u = Value.bool true := r'
        refine ⟨rfl, OldK.of_keep fun b o e => ?_, os, bare⟩
        rcases hO b with z | ⟨ob, xs, z⟩
        · exact un.keep b o e z (fun q => absurd (show b ∈ ([] : List Addr) from q) (by simp)) (by simp)
        · have e1 := (hok b _ z).1
          have e2 := (hok' b _ (un.frzs b ob _ z)).1
          rw [e] at e1
          cases e1
          exact e2
  cases hk : K.lookup a with
  | some o =>
    have e := KX a o hk
    rw [ha] at e
    cases e
    exact step (fun _ => none) (fun _ => .inl rfl) (.inr ⟨_, vs.toArray, _, hk, rfl, rfl, rfl, by rw [List.size_toArray, lenV]; exact hl, by simpa using rv⟩) (fun b u z => nomatch (show (none : Option HO) = some u from z)) (fun b z => absurd rfl z) fun z => absurd rfl z
  | none =>
    refine step (fun b => if b = a then some (.frz { cls := .type "list", data := .seq vs.toArray } (.lst (ns.map V.int))) else none) (fun b => ?_) (.inl (.inr ⟨_, if_pos rfl⟩)) (fun b u z => ?_) (fun b z => ?_) fun _ => hk
    · by_cases q : b = a
      · exact .inr ⟨_, _, if_pos q⟩
      · exact .inl (if_neg q)
    · by_cases q : b = a
      · cases (if_pos q).symm.trans z
        subst q
        exact ⟨ha, by rw [List.length_map]; exact hl, vs, _, rv, ha⟩
      · cases (if_neg q).symm.trans z
    · by_cases q : b = a
      · exact q
      · exact absurd (if_neg q) z
theorem walkG {l : PySem.W.OpenLaw} {n k : Nat} {q : Program} {loose : List Str} {XP : (Str → Option Value) → Heap → Prop} {YP : World → Heap → Prop} {d : DefRec} {K : Params → PySem.W.Frag} {sp : PySem.W.Frag → Sp} {x : Str}
    (hn : l.most = some n) (hn2 : n ≤ sizeLine) (hdf : d.params.defaults = []) (hr : Room k callerA) (hY : ∀ (w : World) (h : Heap), YP w h → (K w.params).In h)
    (F : ∀ (w : World) (mg : Str → Option Value) (fa : Addr) (h : Heap), (K w.params).In h → h.Ns mainGlobals mg → mg d.name = some (.ref fa) →
      ∃ fd : FuncData, (∀ (s : Shared) (u : Value), BindsTo s fd ⟨[u], []⟩ [(x, u)]) ∧ ∀ base : Heap, (K w.params).In base → base.Ns mainGlobals mg → FnG l.prog w (K w.params) mg base CX0 k fa fd [x] (sp (K w.params)))
    (hsp : ∀ (K : PySem.W.Frag) (H : Hp) (a : Addr) (ns : List Int), ns.length ≤ n → Only H → SqL K H a (ns.map V.int) → sp K [.ref a] H (fun v _ => v = .bl true) fun _ _ _ => False) :
    PySem.W.WalkO q loose XP YP l.row.toRowW d [] (fun f vs => PySem.call f vs) := by
  refine Att.attach_call hn hdf fun w s₀ s₁ mg mb fa o pm cd doc a vs ns G Y ho hd hcd hmg hobj hints hlen hg => ?_
  obtain ⟨fd, hb, hF⟩ := F w mg fa _ (hY w _ Y) G.T.g hmg
  exact law_callG (hY w _ Y) G.T.g G.T.b G.T.builtins G.T.nolimit hg hobj hints (Nat.le_trans hlen hn2) hr hF hb fun H hO hS => hsp _ H a ns hlen hO hS
end Kr

namespace Kr
open PySem PySem.Spec PyProof.Rows L2
/-- f(k = v, ..), names alone: how they bind -/
theorem kbn_of {K : PySem.W.Frag} {x qual : Str} {st : Stmt} {f : Addr} {fd : FuncData} {ps ks : List Str} (F : Fun K x qual st f fd) (g : {α : Type} → List α → List α)
    (hrel : ∀ {zs : List V} {ws : List Value}, Vals zs ws → Vals (g zs) (g ws))
    (h : ∀ (kV doc pm : Value) (an : Option Addr) (cdv ct : Value) (ws : List Value), ws.length = ks.length → bindArgs (PySem.W.fnOf x qual (defArgs st) (defBody st) (defScope st) .none kV doc pm an cdv ct) ⟨[], ks.zip ws⟩ = pure (ps.zip (g ws))) :
    KBn K fd ps 0 ks (fun _ ws => g ws) (fun _ zs => g zs) := by
  obtain ⟨oc, od, kV, doc, pm, an, cdv, ct, osl, rfl, lk, hcd⟩ := F.ex
  refine ⟨fun s us ws _ hu hw => ?_, fun _ r => hrel r⟩
  obtain rfl : us = [] := List.length_eq_zero_iff.mp hu
  exact .of_eq (h kV doc pm an cdv ct ws hw)
theorem vals_swap {zs : List V} {ws : List Value} (r : Vals zs ws) : Vals zs.reverse ws.reverse := r.reverse
section
variable {X : Cx} {CX : CXT} {k : Nat} {f : Addr} {fd : FuncData} {ps ks : List Str} {sp : Sp} {E : XK} {x : Str} {p pos : Pos} {kws : List Keyword} {tk : TA} {g : List Value → List Value → List Value} {gV : List V → List V → List V}
def tCallN (m : Nat) (sp : Sp) (gV : List V → List V → List V) (E : XK) (tk : TA) : TE := fun σ H Q => tk σ H fun zs H1 => zs.length = m ∧ sp (gV [] zs) H1 Q E
theorem pe_callN (F : FnOk X.prog X.w X.K X.mg X.base CX k f fd ps sp) (hr : Room k X.A) (hg : Gl X x) (hm : X.mg x = some (.ref f)) (hk : PySem.W.keepIn X.K (.ref f) = true) (hb : KBn X.K fd ps 0 ks g gV) (hx : Passes CX X E) (hkw : PK X kws tk)
    (hall : (backToKw pos (keywordEach kws X.env)).all (·.1.isSome) = true := by rfl) (hks : (backToKw pos (keywordEach kws X.env)).filterMap (·.1) = ks := by rfl) (hdb : (x == ("__debug__" : Str)) = false := by decide)
    (hpl : ((backTo pos (starEach [] X.env)).any (·.1) || (backToKw pos (keywordEach kws X.env)).any (·.1.isNone)) = false := by rfl) :
    PE X (.Call (.Name x p) [] kws pos) (tCallN ks.length sp gV E tk) := by
  refine ⟨fun pins s σ H Q I h => wpAny_Call_Name_kw (ld_glob I hg hm ?_ hdb)⟩
  refine PySem.W.callWith_KW0 (h₀ := X.base) I.ok.mod.kin hk hall ?_ hpl
  refine thn (hkw.run pos pins s σ H _ I h) fun ws s2 ⟨zs, H2, I2, rz, l2, q2⟩ => ⟨I2.kIn, ?_⟩
  rw [hks]
  have r2 := hb.rel .nil rz
  refine wpAny_call (codeAny_mono (F.run X.A X.stack s2 H2 ⟨[], ks.zip ws⟩ (g [] ws) (gV [] zs) _ E hr I2.env0 (hb.to s2 [] ws I2.kIn rfl (rz.length.symm.trans l2)) r2 q2) fun r s' hq => ?_)
  cases r with
  | error e => exact hx pins σ _ _ e s' I2 hq
  | ok fl =>
    cases fl with
    | ret u => exact I2.after hq
    | next => exact hq.elim
    | brk => exact hq.elim
    | cont => exact hq.elim
end
end Kr

namespace Kr
open PySem L2
def top (i : Nat) : Stmt := PySem.Challenge.pw_keyriders_k03_whole_texts_of_standings.main.body.getD i (.Pass ⟨0, 0, 0, 0⟩)
abbrev sBetween : Stmt := top 5
abbrev sTupleOf : Stmt := top 6
abbrev sReadNum : Stmt := top 7
abbrev sStandErr : Stmt := top 9
abbrev sText : Stmt := top 11
abbrev sRead : Stmt := top 12
abbrev sDeck : Stmt := top 14
abbrev sDraw : Stmt := top 15
abbrev sPick : Stmt := top 16
abbrev sMixed : Stmt := top 17
abbrev sStanding : Stmt := top 18
abbrev sLawText : Stmt := top 19
abbrev sDue : Stmt := top 20
abbrev sTold : Stmt := top 21
abbrev sSpoilt : Stmt := top 22
abbrev sLaw : Stmt := top 23
end Kr

namespace Kr
open PySem PySem.Spec PyProof.Rows L2
/-! ### the deck: a dict of a list and a number, apart from all else -/
def hid (p l : Addr) (H : Hp) : Hp := fun b => if b = p ∨ b = l then none else H b
theorem hid_ne {p l b : Addr} {H : Hp} (h1 : b ≠ p) (h2 : b ≠ l) : hid p l H b = H b := by
  unfold hid
  rw [if_neg (fun h => h.elim h1 h2)]
theorem hid_some {p l b : Addr} {H : Hp} {o : HO} (h : hid p l H b = some o) : b ≠ p ∧ b ≠ l ∧ H b = some o := by
  unfold hid at h
  by_cases e : b = p ∨ b = l
  · rw [if_pos e] at h
    cases h
  · rw [if_neg e] at h
    exact ⟨fun z => e (.inl z), fun z => e (.inr z), h⟩
theorem hid_same (p l : Addr) (H : Hp) : Same (hid p l H) H := fun _ _ h => (hid_some h).2.2
abbrev Ext (p l : Addr) (H H' : Hp) : Prop := Same (hid p l H) (hid p l H')
theorem Ext.of {p l : Addr} {H H' : Hp} (s : Same H H') : Ext p l H H' := fun b o h => by
  obtain ⟨h1, h2, h3⟩ := hid_some h
  rw [hid_ne h1 h2]
  exact s _ _ h3
theorem Ext.rfl {p l : Addr} {H : Hp} : Ext p l H H := Same.refl _
abbrev kD : Key := Sum.inr ("deep" : Str)
abbrev kS : Key := Sum.inr ("state" : Str)
theorem kDS : ¬ kD = kS := by
  intro z
  exact absurd (Sum.inr.inj z) (by decide +kernel)
def dkv (x y : V) : List (Key × V) := [(kD, x), (kS, y)]
theorem dkv_d (x y : V) : valV (dkv x y) kD = some x := valV_pos rfl
theorem dkv_s (x y : V) : valV (dkv x y) kS = some y := (valV_neg kDS).trans (valV_pos rfl)
theorem kds : ¬ ("deep" : Str) = "state" := by decide +kernel
theorem ksd : ¬ ("state" : Str) = "deep" := by decide +kernel
theorem dkv_pd (x y z : V) : putK (dkv x y) kD z = dkv z y := by
  simp [putK, dkv, kds, ksd]
theorem dkv_ps (x y z : V) : putK (dkv x y) kS z = dkv x z := by
  simp [putK, dkv, kds, ksd]
theorem dkv_m (x y : V) : mergeK [] [(kD, x), (kS, y)] = dkv x y := by
  simp [mergeK, putK, dkv, kds, ksd]
structure Deck (H : Hp) (p l : Addr) : Prop where
  ex : ∃ (ds : List Int) (st : Int), H p = some (.dK (dkv (.ref l) (.int st))) ∧ H l = some (.lst (ds.map V.int)) ∧ ds.length ≤ 63
theorem Deck.ne {H : Hp} {p l : Addr} (d : Deck H p l) : p ≠ l := by
  obtain ⟨ds, st, h1, h2, _⟩ := d.ex
  exact ne_of h1 h2 (by intro z; cases z)
theorem Deck.up {H H' : Hp} {p l : Addr} (d : Deck H p l) (s : Same H H') : Deck H' p l := by
  obtain ⟨ds, st, h1, h2, h3⟩ := d.ex
  exact ⟨ds, st, s _ _ h1, s _ _ h2, h3⟩
/-- a new object stands apart -/
theorem Deck.new {H : Hp} {p l q : Addr} (d : Deck H p l) (h : H q = none) : q ≠ p ∧ q ≠ l := by
  obtain ⟨ds, st, h1, h2, h3⟩ := d.ex
  exact ⟨(ne_of_none h1 h).symm, (ne_of_none h2 h).symm⟩
theorem same_new {H : Hp} {q : Addr} {o : HO} (h : H q = none) : Same H (upd H q o) := fun b x e => by
  rw [upd_ne (ne_of_none e h)]
  exact e
theorem hid_upd {H : Hp} {p l q : Addr} {o : HO} (h1 : q ≠ p) (h2 : q ≠ l) : hid p l (upd H q o) q = some o := by
  rw [hid_ne h1 h2, upd_same]
/-- the names of the built-ins are theirs -/
structure Bi (mg : Str → Option Value) : Prop where
  len : mg "len" = none
  abs : mg "abs" = none
  int : mg "int" = none
  bool : mg "bool" = none
  tuple : mg "tuple" = none
  list : mg "list" = none
  range : mg "range" = none
  enumerate : mg "enumerate" = none
  isinstance : mg "isinstance" = none
  repr : mg "repr" = none
  sorted : mg "sorted" = none
  min : mg "min" = none
  max : mg "max" = none
  any : mg "any" = none
  zip : mg "zip" = none
  str : mg "str" = none
theorem sz {n : Nat} (h : n ≤ 100000) : n ≤ sizeLine := Nat.le_trans h (by decide)
theorem szl {n : Nat} (h : n < 100000) : n < sizeLine := Nat.lt_of_lt_of_le h (by decide)
/-- two ways that meet again -/
theorem join2 {c A : Prop} [Decidable c] {G R : Hp → Prop} {H2 : Hp} (tail : ∀ H3, R H3 → G H3) (h2 : ¬ c → R H2) (h1 : c → (∀ H3, R H3 → G H3) → A) : if c then A else G H2 :=
  ite2 (fun h => h1 h tail) fun h => tail _ (h2 h)
def spDeck (K : PySem.W.Frag) : Sp := fun vs H Q _ => ∃ (a : Addr) (ns : List Int), vs = [.ref a] ∧ SqL K H a (ns.map V.int) ∧ ns.length ≤ 63 ∧ ∀ H' p l, Same H H' → H p = none → H l = none → Deck H' p l → Q (.ref p) H'
section
variable {P : Program} {w : World} {K : PySem.W.Frag} {mg : Str → Option Value} {base : Heap}
theorem scDeck : FnScope ["script", "deck", "cell", "whole", "state"] ["script"] (defScope sDeck) := ⟨rfl, rfl, rfl, by decide +kernel, rfl, by decide +kernel, by decide +kernel⟩
theorem ok_deck {f : Addr} {fd : FuncData} {k : Nat} (F : Fun K "_law_deck" "_law_deck" sDeck f fd) (B : Bi mg) : FnOk P w K mg base CX0 (k + 1) f fd ["script"] (spDeck K) := by
  refine F.ok scDeck (fun vs H Q E h => ?_) (fun cdv A outer s H vs Q E hr h => ?_)
  · obtain ⟨a, ns, rfl, _⟩ := h
    rfl
  · obtain ⟨a, ns, rfl, hS, hlen, q⟩ := h
    have hu := hu_of hr
    refine ⟨_, pss_cons (ps_set (i := 1) scDeck.nd rfl (.inl rfl) (pe_disp (pps_cons pe_str (pe_lst pa_nil) (pps_cons pe_str (pe_op op_add pe_int (pe_callB call_len_seq (by rfl) B.len boot_len (pa_cons (pe_slice sl_list (pv 0) po_none (po_some pe_int)) pa_nil))) pps_nil)) (by rfl) (by rfl) (fun z => by cases z) (by decide)))
      (pss_cons (ps_for PassesOwn.never rfl (pi_list (pe_slice sl_list (pv 0) po_none (po_some pe_int))) (pg_name (i := 2) scDeck.nd rfl (.inl rfl))
        (pss_cons (ps_set (i := 3) scDeck.nd rfl (.inl rfl) (pe_callB call_abs (by rfl) B.abs (by decide +kernel) (pa_cons (pv 2) pa_nil)))
        (pss_cons (ps_if (pt_cmpR op_ge (pv 3) (pe_op op_pow pe_int pe_int) (nomark _)) (pss_one (ps_dput hu (pv 1) pe_str (pe_op op_cat (pe_lst (pa_cons (pv 3) pa_nil)) (pe_dget hu (pv 1) pe_str (fun _ _ => rfl))) rfl)) pss_nil)
        (pss_cons (ps_set (i := 4) scDeck.nd rfl (.inl rfl) (pe_op op_add (pe_op op_mul (pe_op op_add (pe_op op_add (pe_op op_add (pe_dget hu (pv 1) pe_str (fun _ _ => rfl)) (pe_op op_mul pe_int (pv 3))) (pe_callTy call_int1 (by rfl) B.int (by decide +kernel) (pa_cons (pe_cmpR op_lt (pv 2) pe_int (nomark _)) pa_nil))) pe_int) pe_int) pe_int))
        (pss_one (ps_dput hu (pv 1) pe_str (pe_op op_mod (pe_callTy call_int1 (by rfl) B.int (by decide +kernel) (pa_cons (pv 4) pa_nil)) pe_int) rfl))))))
      (pss_one (ps_ret (pv 1)))), ?_⟩
    -- deck = {'deep': [], 'state': .. + len(script[:63])}
    intro p np
    refine ⟨Nat.zero_le _, fun l nl => ?_⟩
    have s0 : Same H (upd (upd H p (.dK [])) l (.lst [])) := (same_new np).trans (same_new nl)
    have nlp : l ≠ p := fun z => by rw [z, upd_same] at nl; cases nl
    have nl0 : H l = none := by rw [upd_ne nlp] at nl; exact nl
    refine ⟨.ref a, rfl, 63, rfl, a, _, rfl, s0.seq hS, fun c nc => ?_⟩
    have ncp : c ≠ p := fun z => by rw [z, upd_ne nlp.symm, upd_same] at nc; cases nc
    have ncl : c ≠ l := fun z => by rw [z, upd_same] at nc; cases nc
    refine ⟨c, _, rfl, .inl (SqL.of upd_same), _, _, rfl, rfl, ?_⟩
    refine ⟨by rw [upd_ne ncp.symm, upd_ne nlp.symm, upd_same], [(kD, V.ref l), (kS, V.int _)], rfl, by show 2 ≤ 15; decide, ?_⟩
    rw [dkv_m]
    generalize (1278713 + ((cutV (ns.map V.int) none (some 63)).length : Int)) = st0
    -- the loop
    have s1 : Same (upd (upd H p (.dK [])) l (.lst [])) (upd (upd (upd H p (.dK [])) l (.lst [])) c (.lst (cutV (ns.map V.int) none (some 63)))) := same_new nc
    generalize hH1 : upd (upd (upd H p (.dK [])) l (.lst [])) c (.lst (cutV (ns.map V.int) none (some 63))) = H1 at s1
    have l1 : H1 l = some (.lst []) := s1 _ _ upd_same
    have s2 : Same H (upd H1 p (.dK (dkv (.ref l) (.int st0)))) := fun b o e => by
      rw [upd_ne (ne_of_none e np)]
      exact s1 _ _ (s0 _ _ e)
    refine ⟨.ref a, rfl, 63, rfl, a, _, rfl, s2.seq hS, fun c2 nc2 => ?_⟩
    have e63 : cutV (ns.map V.int) none (some 63) = ns.map V.int := by
      unfold cutV
      rw [HT.sIx_none, show HT.sIx (ns.map V.int).length (ns.map V.int).length (some 63) = min 63 (ns.map V.int).length from HT.sIx_nat _ _ 63, List.drop_zero, Nat.sub_zero, List.length_map]
      exact List.take_of_length_le (by rw [List.length_map]; omega)
    rw [e63]
    have c2p : c2 ≠ p := fun z => by rw [z, upd_same] at nc2; cases nc2
    have c2l : c2 ≠ l := fun z => by rw [z, upd_ne nlp, l1] at nc2; cases nc2
    refine ⟨c2, rfl, ⟨_, SqL.of upd_same⟩, for_list (K := K) (a := c2) (xs := ns.map V.int) (fun i σ H2 => ∃ v2 v3 v4 l ds st, σ = [some (.ref a), some (.ref p), v2, v3, v4] ∧ Same H H2 ∧ H2 c2 = some (.lst (ns.map V.int)) ∧ H2 p = some (.dK (dkv (.ref l) (.int st))) ∧ H2 l = some (.lst (ds.map V.int)) ∧ ds.length ≤ i ∧ H l = none ∧ c2 ≠ l)
      ⟨none, none, none, l, [], st0, rfl, s2.trans (same_new nc2), upd_same, by rw [upd_ne c2p.symm, upd_same], by rw [upd_ne c2l.symm, upd_ne nlp, l1]; rfl, Nat.le_refl _, nl0, c2l⟩ (fun i σ H2 _ ⟨_, _, _, _, _, _, _, _, h, _⟩ => SqL.of h) ?_ ?_⟩
    · rintro i y σ H2 hi ⟨v2, v3, v4, l, ds, st, rfl, sm, hc, hp, hl, hd, nl, ncl⟩
      have hil : i < ns.length := by
        have := (List.getElem?_eq_some_iff.mp hi).1
        rw [List.length_map] at this
        exact this
      obtain ⟨z, rfl⟩ : ∃ z, y = V.int z := by
        rw [List.getElem?_map] at hi
        cases e : ns[i]? with
        | none => rw [e] at hi; cases hi
        | some z => rw [e] at hi; exact ⟨z, (Option.some.inj hi).symm⟩
      have nlp : l ≠ p := ne_of hl hp (by intro z; cases z)
      refine ⟨.int z, rfl, z, rfl, ?_⟩
      generalize (if z < 0 then -z else z) = wz
      refine ⟨.int wz, rfl, _, _, rfl, rfl, ⟨by decide, by decide, by decide⟩, wz, _, rfl, rfl, _, rfl, ?_⟩
      refine join2 (H2 := H2) (R := fun H3 => ∃ (l3 : Addr) (ds3 : List Int), Same H H3 ∧ H3 c2 = some (.lst (ns.map V.int)) ∧ H3 p = some (.dK (dkv (.ref l3) (.int st))) ∧ H3 l3 = some (.lst (ds3.map V.int)) ∧ ds3.length ≤ i + 1 ∧ H l3 = none ∧ c2 ≠ l3 ∧ l3 ≠ p)
        (fun H3 hR => ?_) (fun _ => ⟨l, ds, sm, hc, hp, hl, by omega, nl, ncl, nlp⟩) (fun _ tail => ?_)
      rotate_left
      · refine ⟨.int wz, rfl, by show 1 ≤ sizeLine; decide, fun l1 nl1 => ⟨.ref p, rfl, p, .ref l, rfl, ?_⟩⟩
        have n1p : l1 ≠ p := (ne_of_none hp nl1).symm
        have n1l : l1 ≠ l := (ne_of_none hl nl1).symm
        have n1c : l1 ≠ c2 := (ne_of_none hc nl1).symm
        have hp1 : upd H2 l1 (.lst [.int wz]) p = some (.dK (dkv (.ref l) (.int st))) := by rw [upd_ne n1p.symm]; exact hp
        refine ⟨by rw [← dkv_d (.ref l) (.int st)]; exact DGet.k (k := kD) hp1, l1, l, _, _, rfl, rfl, upd_same, by rw [upd_ne n1l.symm]; exact hl, by rw [List.length_map]; exact sz (by show 1 + ds.length ≤ 100000; omega), fun l2 nl2 => ?_⟩
        have n2p : l2 ≠ p := (ne_of_none hp1 nl2).symm
        have n2c : l2 ≠ c2 := fun z => by rw [z, upd_ne n1c.symm, hc] at nl2; cases nl2
        have sm2 : Same H (upd (upd H2 l1 (.lst [.int wz])) l2 (.lst ([.int wz] ++ ds.map V.int))) := (sm.trans (same_new nl1)).trans (same_new nl2)
        have hp2 : (upd (upd H2 l1 (.lst [.int wz])) l2 (.lst ([.int wz] ++ ds.map V.int))) p = some (.dK (dkv (.ref l) (.int st))) := by rw [upd_ne n2p.symm]; exact hp1
        refine ⟨.ref p, rfl, p, _, rfl, DPut.k (k := kD) hp2 (by show 2 < sizeLine; decide), ?_⟩
        rw [dkv_pd]
        have nl2' : H l2 = none := (sm.trans (same_new nl1)).free nl2
        refine tail (upd (upd (upd H2 l1 (.lst [.int wz])) l2 (.lst ([.int wz] ++ ds.map V.int))) p (.dK (dkv (.ref l2) (.int st)))) ⟨l2, wz :: ds, (fun b o e => by rw [upd_ne (ne_of_none e np)]; exact sm2 _ _ e), ?_, upd_same, ?_, (by rw [List.length_cons]; omega), nl2', n2c.symm, n2p⟩
        · rw [upd_ne c2p, upd_ne n2c.symm, upd_ne n1c.symm]
          exact hc
        · rw [upd_ne n2p, upd_same]
          rfl
      · obtain ⟨l3, ds3, sm3, hc3, hp3, hl3, hd3, nl3, ncl3, nlp3⟩ := hR
        refine ⟨.ref p, rfl, p, .int st, rfl, by rw [← dkv_s (.ref l3) (.int st)]; exact DGet.k (k := kS) hp3, ?_⟩
        refine ⟨.int wz, rfl, 2, wz, rfl, rfl, .inl ⟨by decide, by decide⟩, st, 2 * wz, rfl, rfl, ?_⟩
        refine ⟨.int z, rfl, z, 0, rfl, rfl, .inr ⟨_, rfl, ?_⟩⟩
        refine ⟨_, _, rfl, rfl, _, 1, rfl, rfl, _, 1181783497276652981, rfl, rfl, .inr ⟨by decide, by decide⟩, _, 521288629, rfl, rfl, ?_⟩
        refine ⟨_, rfl, .inl ⟨_, rfl, ?_⟩⟩
        refine ⟨_, 2305843009213693951, rfl, rfl, by show (0 : Int) < 2305843009213693951; decide, .ref p, rfl, p, _, rfl, DPut.k (k := kS) hp3 (by show 2 < sizeLine; decide), ?_⟩
        rw [dkv_ps]
        refine ⟨_, _, _, l3, ds3, _, rfl, fun b o e => ?_, ?_, upd_same, ?_, hd3, nl3, ncl3⟩
        · rw [upd_ne (ne_of_none e np)]
          exact sm3 _ _ e
        · rw [upd_ne c2p]
          exact hc3
        · rw [upd_ne nlp3]
          exact hl3
    · rintro σ H2 ⟨v2, v3, v4, l, ds, st, rfl, sm, hc, hp, hl, hd, nl, ncl⟩
      rw [List.length_map] at hd
      exact ⟨.ref p, rfl, q H2 p l sm np nl ⟨ds, st, hp, hl, by omega⟩⟩
end
end Kr

namespace Kr
open PySem PySem.Spec PyProof.Rows L2
def spDraw : Sp := fun vs H Q _ => ∃ (p l : Addr) (m : Int), vs = [.ref p, .int m] ∧ Deck H p l ∧ m < 1073741824 ∧ ∀ H' r, Deck H' p l → Ext p l H H' → 0 ≤ r → (r < m ∨ r = 0) → Q (.int r) H'
theorem dp_ints {K : PySem.W.Frag} {H : Hp} : ∀ ds : List Int, DpAll K H (ds.map V.int) (ds.map PyData.int)
  | [] => .nil
  | d :: ds => .cons (.int d) (dp_ints ds)
theorem lay_ints : ∀ ds : List Int, PyData.canLayAll0 (ds.map PyData.int) = true
  | [] => by simp [PyData.canLayAll0]
  | d :: ds => by simp [PyData.canLayAll0, PyData.canLay0, lay_ints ds]
theorem dep_ints : ∀ ds : List Int, PyData.depthAll (ds.map PyData.int) ≤ 1
  | [] => by simp [PyData.depthAll]
  | d :: ds => by
    have := dep_ints ds
    simp [PyData.depthAll, PyData.depth]
    omega
theorem shaped_ints (ds : List Int) : SeqAt.shaped (.list (ds.map PyData.int)) = true := by
  unfold SeqAt.shaped
  have := dep_ints ds
  simp [PyData.canLay0, lay_ints ds, PyData.depth]
  omega
theorem eqv_ints_nil (ds : List Int) : PyData.eqv (.list (ds.map PyData.int)) (.list []) = decide (ds = []) := by
  cases ds <;> simp [PyData.eqv, PyData.eqvAll]
theorem Ext.new {p l q : Addr} {H H' : Hp} {o : HO} (e : Ext p l H H') (h : H' q = none) : Ext p l H (upd H' q o) := fun b x hb => by
  have h2 := e b x hb
  obtain ⟨h3, h4, h5⟩ := hid_some h2
  rw [hid_ne h3 h4, upd_ne (ne_of_none h5 h)]
  exact h5
theorem Ext.at {p l q : Addr} {H H' : Hp} {o : HO} (e : Ext p l H H') (h : q = p ∨ q = l) : Ext p l H (upd H' q o) := fun b x hb => by
  have h2 := e b x hb
  obtain ⟨h3, h4, h5⟩ := hid_some h2
  have hq : b ≠ q := fun z => h.elim (fun w => h3 (z.trans w)) fun w => h4 (z.trans w)
  rw [hid_ne h3 h4, upd_ne hq]
  exact h5
section
variable {P : Program} {w : World} {K : PySem.W.Frag} {mg : Str → Option Value} {base : Heap}
theorem scDraw : FnScope ["deck", "many", "whole", "one", "two"] ["deck", "many"] (defScope sDraw) := ⟨rfl, rfl, rfl, by decide +kernel, rfl, by decide +kernel, by decide +kernel⟩
theorem ok_draw {f : Addr} {fd : FuncData} {k : Nat} (F : Fun K "_law_draw" "_law_draw" sDraw f fd) (B : Bi mg) : FnOk P w K mg base CX0 (k + 1) f fd ["deck", "many"] spDraw := by
  refine F.ok scDraw (fun vs H Q E h => ?_) (fun cdv A outer s H vs Q E hr h => ?_)
  · obtain ⟨p, l, m, rfl, _⟩ := h
    rfl
  · obtain ⟨p, l, m, rfl, D, hm, q⟩ := h
    have hu := hu_of hr
    refine ⟨_, pss_cons (ps_if (pt_cmpR op_lt (pv 1) pe_int (nomark _)) (pss_one (ps_ret pe_int)) pss_nil)
      (pss_cons (ps_if (pt_cmpR (op_neD hr.units) (pe_dget hu (pv 0) pe_str (fun _ _ => rfl)) (pe_lst pa_nil) (nomark _))
        (pss_cons (ps_set (i := 2) scDraw.nd rfl (.inl rfl) (pe_bm0 PySem.F.plainAttrs_list PySem.F.slot_list_pop PySem.F.type_list_pop mt_pop (pe_dget hu (pv 0) pe_str (fun _ _ => rfl))))
        (pss_cons (ps_if (pt_cmpR op_ge (pv 2) (pv 1) (nomark _)) (pss_one (ps_expr (pe_bm PySem.F.plainAttrs_list PySem.F.slot_list_append PySem.F.type_list_append mt_append (pe_dget hu (pv 0) pe_str (fun _ _ => rfl)) (pa_cons (pe_op op_fdiv (pv 2) (pv 1)) pa_nil)))) pss_nil)
        (pss_one (ps_ret (pe_op op_mod (pe_callTy call_int1 (by rfl) B.int (by decide +kernel) (pa_cons (pv 2) pa_nil)) (pv 1)))))) pss_nil)
      (pss_cons (ps_set (i := 3) scDraw.nd rfl (.inl rfl) (pe_op op_mod (pe_callTy call_int1 (by rfl) B.int (by decide +kernel) (pa_cons (pe_op op_add (pe_op op_mul (pe_dget hu (pv 0) pe_str (fun _ _ => rfl)) pe_int) pe_int) pa_nil)) pe_int))
      (pss_cons (ps_dput hu (pv 0) pe_str (pv 3) rfl)
      (pss_cons (ps_set (i := 4) scDraw.nd rfl (.inl rfl) (pe_op op_mod (pe_callTy call_int1 (by rfl) B.int (by decide +kernel) (pa_cons (pe_op op_add (pe_op op_add (pe_op op_mul (pv 3) (pv 3)) (pe_op op_mul pe_int (pv 3))) pe_int) pa_nil)) pe_int))
      (pss_one (ps_ret (pe_op op_mod (pe_callTy call_int1 (by rfl) B.int (by decide +kernel) (pa_cons (pe_op op_fdiv (pv 4) pe_int) pa_nil)) (pv 1)))))))), ?_⟩
    refine ⟨.int m, rfl, m, 2, rfl, rfl, _, rfl, ite2 (fun _ => ?_) (fun hm2 => ?_)⟩
    · exact q H 0 D Ext.rfl (Int.le_refl _) (.inr rfl)
    have hm1 : ¬ m < 2 := fun z => hm2 (decide_eq_true z)
    obtain ⟨ds, st, hp, hl, hd⟩ := id D.ex
    have hgd : DGet H p (V.str "deep") (some (.ref l)) := by rw [← dkv_d (.ref l) (.int st)]; exact DGet.k (k := kD) hp
    refine ⟨.ref p, rfl, p, .ref l, rfl, hgd, by show 0 ≤ sizeLine; decide, fun e ne => ?_⟩
    have nep : e ≠ p := (ne_of_none hp ne).symm
    have nel : e ≠ l := (ne_of_none hl ne).symm
    have nlp : l ≠ p := D.ne.symm
    refine ⟨.list (ds.map PyData.int), .list [], .lst (SqL.of (by rw [upd_ne nel.symm]; exact hl)) (dp_ints ds), .lst (SqL.of upd_same) .nil, shaped_ints ds, shaped_ints [], ?_⟩
    rw [eqv_ints_nil]
    have hp1 : upd H e (.lst []) p = some (.dK (dkv (.ref l) (.int st))) := by rw [upd_ne nep.symm]; exact hp
    have hl1 : upd H e (.lst []) l = some (.lst (ds.map V.int)) := by rw [upd_ne nel.symm]; exact hl
    have E1 : Ext p l H (upd H e (.lst [])) := Ext.rfl.new ne
    generalize upd H e (.lst []) = H1 at hp1 hl1 E1
    have hgd1 : DGet H1 p (V.str "deep") (some (.ref l)) := by rw [← dkv_d (.ref l) (.int st)]; exact DGet.k (k := kD) hp1
    have hgs1 : DGet H1 p (V.str "state") (some (.int st)) := by rw [← dkv_s (.ref l) (.int st)]; exact DGet.k (k := kS) hp1
    refine ⟨_, rfl, ?_⟩
    by_cases hds : ds = []
    · -- mixed numbers
      rw [decide_eq_true hds]
      refine iteF ?_
      refine ⟨.ref p, rfl, p, .int st, rfl, hgs1, _, _, rfl, rfl, .inr ⟨by decide, by decide⟩, _, _, rfl, rfl, .inl ⟨_, rfl, _, _, rfl, rfl, (by show (0 : Int) < 2305843009213693951; decide), ?_⟩⟩
      dsimp only
      have o0 : 0 ≤ ((st * 1181783497276652981 + 88172645463325) % 2305843009213693951 : Int) := Int.emod_nonneg _ (by decide)
      have o1 : ((st * 1181783497276652981 + 88172645463325) % 2305843009213693951 : Int) < 2305843009213693951 := Int.emod_lt_of_pos _ (by decide)
      generalize ((st * 1181783497276652981 + 88172645463325) % 2305843009213693951 : Int) = one at o0 o1
      refine ⟨.int one, rfl, .ref p, rfl, p, _, rfl, DPut.k (k := kS) hp1 (by show 2 < sizeLine; decide), ?_⟩
      rw [dkv_ps]
      refine ⟨.int one, rfl, .int one, rfl, _, _, rfl, rfl, .inl ⟨by omega, by omega⟩, .int one, rfl, _, _, rfl, rfl, .inl ⟨by decide, by decide⟩, _, _, rfl, rfl, _, _, rfl, rfl, .inl ⟨_, rfl, _, _, rfl, rfl, (by show (0 : Int) < 2305843009213693921; decide), ?_⟩⟩
      dsimp only
      generalize ((one * one + 374761393 * one + 11) % 2305843009213693921 : Int) = two
      refine ⟨.int two, rfl, _, _, rfl, rfl, ⟨by decide, by decide⟩, .inl ⟨_, rfl, .int m, rfl, _, _, rfl, rfl, (by show 0 < m; omega), ?_⟩⟩
      refine q _ _ ⟨ds, one, upd_same, by rw [upd_ne nlp]; exact hl1, hd⟩ (E1.at (.inl rfl)) (Int.emod_nonneg _ (by omega)) (.inl (Int.emod_lt_of_pos _ (by omega)))
    · -- a digit of a great cell
      rw [decide_eq_false hds]
      refine iteT ?_
      obtain ⟨last, hlast⟩ : ∃ y, ds[ds.length - 1]? = some y := ⟨_, List.getElem?_eq_getElem (by
        have := List.length_pos_iff.mpr hds
        omega)⟩
      refine ⟨.ref p, rfl, p, .ref l, rfl, hgd1, .inl ⟨rfl, _, SqL.of hl1⟩, l, _, .int last, rfl, rfl, hl1, by rw [List.length_map, List.getElem?_map, hlast]; rfl, ?_⟩
      rw [← List.map_dropLast]
      have hdl : ds.dropLast.length ≤ 62 := by rw [List.length_dropLast]; omega
      have hp2 : upd H1 l (.lst (ds.dropLast.map V.int)) p = some (.dK (dkv (.ref l) (.int st))) := by rw [upd_ne nlp.symm]; exact hp1
      have hl2 : upd H1 l (.lst (ds.dropLast.map V.int)) l = some (.lst (ds.dropLast.map V.int)) := upd_same
      have E2 : Ext p l H (upd H1 l (.lst (ds.dropLast.map V.int))) := E1.at (.inr rfl)
      generalize ds.dropLast = ds2 at hdl hp2 hl2 E2
      generalize upd H1 l (.lst (ds2.map V.int)) = H2 at hp2 hl2 E2
      have hgd2 : DGet H2 p (V.str "deep") (some (.ref l)) := by rw [← dkv_d (.ref l) (.int st)]; exact DGet.k (k := kD) hp2
      refine ⟨.int last, rfl, .int m, rfl, _, _, rfl, rfl, _, rfl, ?_⟩
      refine join2 (H2 := H2) (R := fun H3 => ∃ ds3 : List Int, H3 p = some (.dK (dkv (.ref l) (.int st))) ∧ H3 l = some (.lst (ds3.map V.int)) ∧ ds3.length ≤ 63 ∧ Ext p l H H3)
        (fun H3 hR => ?_) (fun _ => ⟨ds2, hp2, hl2, by omega, E2⟩) (fun _ tail => ?_)
      · obtain ⟨ds3, hp3, hl3, hd3, E3⟩ := hR
        refine ⟨.int last, rfl, .inl ⟨_, rfl, .int m, rfl, _, _, rfl, rfl, (by show 0 < m; omega), ?_⟩⟩
        exact q _ _ ⟨ds3, st, hp3, hl3, hd3⟩ E3 (Int.emod_nonneg _ (by omega)) (.inl (Int.emod_lt_of_pos _ (by omega)))
      · refine ⟨.ref p, rfl, p, .ref l, rfl, hgd2, .inl ⟨rfl, _, SqL.of hl2⟩, .int last, rfl, .int m, rfl, _, _, rfl, rfl, ⟨by omega, hm⟩, l, _, _, rfl, rfl, hl2, szl (by rw [List.length_map]; omega), ?_⟩
        refine tail _ ⟨ds2 ++ [last / m], by rw [upd_ne nlp.symm]; exact hp2, ?_, by rw [List.length_append]; show _ + 1 ≤ 63; omega, E2.at (.inr rfl)⟩
        rw [upd_same, List.map_append]
        rfl
end
end Kr

namespace Kr
open PySem PySem.Spec PyProof.Rows L2
/-! ### defs by their names -/
structure Df (K : PySem.W.Frag) (mg : Str → Option Value) (x : Str) (st : Stmt) (ps : List Str) : Prop where
  ex : ∃ f fd, Fun K x x st f fd ∧ Binds K fd ps [] ∧ mg x = some (.ref f)
structure Ok (P : Program) (w : World) (K : PySem.W.Frag) (mg : Str → Option Value) (base : Heap) (k : Nat) (x : Str) (ps : List Str) (sp : Sp) : Prop where
  ex : ∃ f fd, FnOk P w K mg base CX0 k f fd ps sp ∧ PySem.W.keepIn K (.ref f) = true ∧ mg x = some (.ref f) ∧ Binds K fd ps []
section
variable {P : Program} {w : World} {K : PySem.W.Frag} {mg : Str → Option Value} {base : Heap}
theorem Df.ok {x : Str} {st : Stmt} {ps : List Str} {k : Nat} {sp : Sp} (D : Df K mg x st ps) (h : ∀ f fd, Fun K x x st f fd → FnOk P w K mg base CX0 k f fd ps sp) : Ok P w K mg base k x ps sp := by
  obtain ⟨f, fd, F, b, g⟩ := D.ex
  exact ⟨f, fd, h f fd F, F.kp, g, b⟩
theorem Ok.mono {x : Str} {ps : List Str} {j k : Nat} {sp : Sp} (D : Ok P w K mg base j x ps sp) (h : j ≤ k) : Ok P w K mg base k x ps sp := by
  obtain ⟨f, fd, F, r⟩ := D.ex
  exact ⟨f, fd, F.mono h, r⟩
end
theorem pe_fn {X : Cx} {k : Nat} {x : Str} {ps : List Str} {sp : Sp} {p pos : Pos} {e : Expr} {es : List Expr} {t : TA} (D : Ok X.prog X.w X.K X.mg X.base k x ps sp) (hr : Room k X.A) (hg : Gl X x) (ha : PA X (e :: es) t)
    (hdb : (x == ("__debug__" : Str)) = false := by decide) (he : starEach (e :: es) X.env = (false, eval e X.env) :: starEach es X.env := by rfl) (hpl : (backTo pos (starEach es X.env)).any (·.1) = false := by rfl) :
    PE X (.Call (.Name x p) (e :: es) [] pos) (tCall sp [] E0 t) := by
  obtain ⟨f, fd, F, kp, g, b⟩ := D.ex
  exact pe_call F hr hg g kp b .nil pass0 ha hdb he hpl
theorem atI_int {α : Type} {xs : List α} {r : Int} {v : α} (h0 : 0 ≤ r) (h : xs[r.toNat]? = some v) : atI xs r = some v := by
  have e : r = ((r.toNat : Nat) : Int) := by omega
  rw [e]
  exact atI_nat h
/-- one of some items -/
def spPick : Sp := fun vs H Q _ => ∃ (p l a : Addr) (xs : List V), vs = [.ref p, .ref a] ∧ Deck H p l ∧ hid p l H a = some (.lst xs) ∧ xs ≠ [] ∧ xs.length < 1000000 ∧ ∀ H' v, Deck H' p l → Ext p l H H' → v ∈ xs → Q v H'
section
variable {P : Program} {w : World} {K : PySem.W.Frag} {mg : Str → Option Value} {base : Heap}
theorem o_draw (D : Df K mg "_law_draw" sDraw ["deck", "many"]) (B : Bi mg) : Ok P w K mg base 1 "_law_draw" ["deck", "many"] spDraw := D.ok fun _ _ F => ok_draw F B
theorem o_deck (D : Df K mg "_law_deck" sDeck ["script"]) (B : Bi mg) : Ok P w K mg base 1 "_law_deck" ["script"] (spDeck K) := D.ok fun _ _ F => ok_deck F B
theorem scPick : FnScope ["deck", "items"] ["deck", "items"] (defScope sPick) := ⟨rfl, rfl, rfl, by decide +kernel, rfl, by decide +kernel, by decide +kernel⟩
theorem o_pick (D : Df K mg "_law_pick" sPick ["deck", "items"]) (B : Bi mg) (d : Ok P w K mg base 1 "_law_draw" ["deck", "many"] spDraw) : Ok P w K mg base 2 "_law_pick" ["deck", "items"] spPick := by
  refine D.ok fun f fd F => F.ok scPick (fun vs H Q E h => ?_) (fun cdv A outer s H vs Q E hr h => ?_)
  · obtain ⟨p, l, a, xs, rfl, _⟩ := h
    rfl
  · obtain ⟨p, l, a, xs, rfl, Dk, ha, hne, hlen, q⟩ := h
    refine ⟨_, pss_one (ps_ret (pe_ix ix_list (pv 1) (pe_fn d hr (by rfl) (pa_cons (pv 0) (pa_cons (pe_callB call_len_seq (by rfl) B.len boot_len (pa_cons (pv 1) pa_nil)) pa_nil))) (fun _ _ => rfl))), ?_⟩
    have hpos := List.length_pos_iff.mpr hne
    refine ⟨.ref a, rfl, .ref p, rfl, .ref a, rfl, a, xs, rfl, .inl (SqL.of (hid_same p l H _ _ ha)), p, l, _, rfl, Dk, by show (xs.length : Int) < 1073741824; omega, fun H' r Dk' e h0 h1 => ?_⟩
    have hr2 : r.toNat < xs.length := by omega
    refine ⟨a, xs, r, xs[r.toNat], rfl, rfl, SqL.of (hid_same p l H' _ _ (e _ _ ha)), ?_, q H' _ Dk' e (List.getElem_mem hr2)⟩
    exact atI_int h0 (List.getElem?_eq_getElem hr2)
end
end Kr

namespace Kr
open PySem PySem.Spec PyProof.Rows L2
theorem free_of : ∀ (n : Nat) (L : List Int), L.length < n → ∃ v : Int, 1 ≤ v ∧ v ≤ n ∧ v ∉ L
  | 0, L, h => absurd h (Nat.not_lt_zero _)
  | n + 1, L, h => by
    by_cases hm : ((n + 1 : Nat) : Int) ∈ L
    · have hl : (L.erase ((n + 1 : Nat) : Int)).length < n := by
        rw [List.length_erase_of_mem hm]
        have := List.length_pos_of_mem hm
        omega
      obtain ⟨v, h1, h2, h3⟩ := free_of n _ hl
      refine ⟨v, h1, by omega, fun hv => h3 ?_⟩
      exact (List.mem_erase_of_ne (by omega)).mpr hv
    · exact ⟨_, by omega, Int.le_refl _, hm⟩
theorem inV_ints (r : Int) (ns : List Int) : inV (.int r) (ns.map V.int) = decide (r ∈ ns) := by
  unfold inV
  rw [Bool.eq_iff_iff]
  simp [eqV]
theorem flat_ints (ns : List Int) : (ns.map V.int).all flatV = true := by
  simp [flatV]
theorem Ext.mut {p l f : Addr} {H H' : Hp} {o : HO} (e : Ext p l H H') (h : H f = none) : Ext p l H (upd H' f o) := fun b x hb => by
  obtain ⟨_, _, h5⟩ := hid_some hb
  obtain ⟨h1, h2, h3⟩ := hid_some (e b x hb)
  rw [hid_ne h1 h2, upd_ne (ne_of_none h5 h)]
  exact h3
theorem Deck.mut {H : Hp} {p l f : Addr} {o : HO} (d : Deck H p l) (h1 : f ≠ p) (h2 : f ≠ l) : Deck (upd H f o) p l := by
  obtain ⟨ds, st, a, b, c⟩ := d.ex
  exact ⟨ds, st, by rw [upd_ne h1.symm]; exact a, by rw [upd_ne h2.symm]; exact b, c⟩
theorem Ext.free {p l f : Addr} {H H' : Hp} (e : Ext p l H H') (h : H' f = none) (h1 : f ≠ p) (h2 : f ≠ l) : H f = none := by
  cases q : H f with
  | none => rfl
  | some o =>
    have := (hid_some (e f o (by rw [hid_ne h1 h2]; exact q))).2.2
    rw [h] at this
    cases this
/-- a standing: whole numbers from 0 to 99 -/
def spStanding : Sp := fun vs H Q _ => ∃ (p l : Addr) (m : Int), vs = [.ref p, .int m] ∧ Deck H p l ∧ 0 ≤ m ∧ m ≤ 90 ∧
  ∀ (H' : Hp) (t : Addr) (ns : List Int), Deck H' p l → Ext p l H H' → hid p l H' t = some (.tup (ns.map V.int)) → ns.length = m.toNat → (∀ n ∈ ns, 0 ≤ n ∧ n ≤ 99) → Q (.ref t) H'
section
variable {P : Program} {w : World} {K : PySem.W.Frag} {mg : Str → Option Value} {base : Heap}
theorem scStanding : FnScope ["deck", "many", "share", "found", "place", "rider"] ["deck", "many"] (defScope sStanding) := ⟨rfl, rfl, rfl, by decide +kernel, rfl, by decide +kernel, by decide +kernel⟩
theorem o_standing (D : Df K mg "_law_standing" sStanding ["deck", "many"]) (B : Bi mg) (d : Ok P w K mg base 1 "_law_draw" ["deck", "many"] spDraw) (dp : Ok P w K mg base 2 "_law_pick" ["deck", "items"] spPick) :
    Ok P w K mg base 3 "_law_standing" ["deck", "many"] spStanding := by
  refine D.ok fun f fd F => F.ok scStanding (fun vs H Q E h => ?_) (fun cdv A outer s H vs Q E hr h => ?_)
  · obtain ⟨p, l, m, rfl, _⟩ := h
    rfl
  · obtain ⟨p, l, m, rfl, Dk, hm0, hm1, q⟩ := h
    have hr1 := hr.mono (show 1 ≤ 2 by decide)
    refine ⟨_, pss_cons (ps_par (i := 2) (j := 3) rfl scStanding.nd rfl rfl (by decide) rfl rfl (pa_cons (pe_fn dp hr (by rfl) (pa_cons (pv 0) (pa_cons (pe_lst (pa_cons pe_int (pa_cons pe_int (pa_cons pe_int (pa_cons pe_int (pa_cons pe_int (pa_cons pe_int pa_nil))))))) pa_nil))) (pa_cons (pe_lst pa_nil) pa_nil)) (by rfl))
      (pss_cons (ps_for PassesOwn.never rfl (pi_range1 (by rfl) B.range (pa_cons (pv 1) pa_nil)) (pg_name (i := 4) scStanding.nd rfl (.inl rfl))
        (pss_one (ps_if (pt_cmpR op_lt (pe_fn d hr1 (by rfl) (pa_cons (pv 0) (pa_cons pe_int pa_nil))) (pv 2) (nomark _))
          (pss_one (ps_expr (pe_bm PySem.F.plainAttrs_list PySem.F.slot_list_append PySem.F.type_list_append mt_append (pv 3) (pa_cons pe_int pa_nil))))
          (pss_cons (ps_set (i := 5) scStanding.nd rfl (.inl rfl) (pe_op op_add pe_int (pe_fn d hr1 (by rfl) (pa_cons (pv 0) (pa_cons pe_int pa_nil)))))
          (pss_cons (ps_while PassesOwn.never (pt_cmpR op_in_seq (pv 5) (pv 3) rfl) (pss_one (ps_set (i := 5) scStanding.nd rfl (.inl rfl) (pe_op op_add (pe_op op_mod (pe_callTy call_int1 (by rfl) B.int (by decide +kernel) (pa_cons (pv 5) pa_nil)) pe_int) pe_int))))
          (pss_one (ps_expr (pe_bm PySem.F.plainAttrs_list PySem.F.slot_list_append PySem.F.type_list_append mt_append (pv 3) (pa_cons (pv 5) pa_nil)))))))))
      (pss_one (ps_ret (pe_callTy call_tuple_of (by rfl) B.tuple (by decide +kernel) (pa_cons (pv 3) pa_nil))))), ?_⟩
    refine ⟨.ref p, rfl, by show 6 ≤ sizeLine; decide, fun a na => ?_⟩
    have Dk1 := Dk.up (same_new (o := .lst [.int 1, .int 2, .int 3, .int 4, .int 0, .int 5]) na)
    obtain ⟨nap, nal⟩ := Dk.new na
    refine ⟨p, l, a, _, rfl, Dk1, hid_upd nap nal, by simp, by show 6 < 1000000; decide, fun H1 v Dk2 E1 hv => ?_⟩
    obtain ⟨sh, rfl⟩ : ∃ sh : Int, v = .int sh := by
      simp only [List.mem_cons, List.not_mem_nil, or_false] at hv
      rcases hv with rfl | rfl | rfl | rfl | rfl | rfl <;> exact ⟨_, rfl⟩
    refine ⟨by show 0 ≤ sizeLine; decide, fun f nf => ?_⟩
    obtain ⟨nfp, nfl⟩ := Dk2.new nf
    refine ⟨_, _, rfl, ?_⟩
    have E1' : Ext p l H H1 := (Ext.of (same_new na)).trans E1
    have nf0 : H f = none := E1'.free nf nfp nfl
    refine ⟨.int m, rfl, m, rfl, by omega, by omega, for_range (n := m.toNat) (fun i σ H2 => ∃ (v4 v5 : Option V) (ns : List Int), σ = [some (.ref p), some (.int m), some (.int sh), some (.ref f), v4, v5] ∧ Deck H2 p l ∧ Ext p l H H2 ∧ H2 f = some (.lst (ns.map V.int)) ∧ ns.length = i ∧ ∀ n ∈ ns, 0 ≤ n ∧ n ≤ 99)
      ⟨none, none, [], rfl, Dk2.mut nfp nfl, E1'.mut nf0, upd_same, rfl, fun n h => nomatch h⟩ ?_ ?_⟩
    · rintro i σ H2 hi ⟨v4, v5, ns, rfl, Dk3, E3, hf, hn, hb⟩
      refine ⟨.ref p, rfl, p, l, 5, rfl, Dk3, by decide, fun H3 r Dk4 E4 r0 r1 => ?_⟩
      have hf4 : H3 f = some (.lst (ns.map V.int)) := (hid_some (E4 f _ (by rw [hid_ne nfp nfl]; exact hf))).2.2
      have E4' : Ext p l H H3 := E3.trans E4
      refine ⟨.int sh, rfl, _, _, rfl, rfl, _, rfl, ite2 (fun _ => ?_) (fun _ => ?_)⟩
      · refine ⟨.ref f, rfl, .inl ⟨rfl, _, SqL.of hf4⟩, f, _, .int 0, rfl, rfl, hf4, szl (by rw [List.length_map]; omega), ?_⟩
        refine ⟨_, _, ns ++ [0], rfl, Dk4.mut nfp nfl, E4'.mut nf0, by rw [upd_same, List.map_append]; rfl, by rw [List.length_append, hn]; rfl, fun n h => ?_⟩
        rcases List.mem_append.mp h with h | h
        · exact hb n h
        · rw [List.mem_singleton.mp h]; omega
      · refine ⟨.ref p, rfl, p, l, 99, rfl, Dk4, by decide, fun H5 r' Dk5 E5 r0' r1' => ⟨_, _, rfl, rfl, ?_⟩⟩
        have hf5 : H5 f = some (.lst (ns.map V.int)) := (hid_some (E5 f _ (by rw [hid_ne nfp nfl]; exact hf4))).2.2
        have E5' : Ext p l H H5 := E4'.trans E5
        obtain ⟨v, w1, w2, w3⟩ := free_of 99 ns (by omega)
        refine while_by (fun σ H6 => ∃ (v4 : Option V) (rd : Int), σ = [some (.ref p), some (.int m), some (.int sh), some (.ref f), v4, some (.int rd)] ∧ H6 = H5 ∧ 1 ≤ rd ∧ rd ≤ 99)
          (fun σ H6 => match σ with | [_, _, _, _, _, some (.int rd)] => ((v - rd) % 99).toNat | _ => 0) ⟨_, _, rfl, rfl, by omega, by omega⟩ ?_ ?_
        · rintro σ H6 ⟨v4, rd, rfl, rfl, d0, d1⟩
          refine ⟨.int rd, rfl, .ref f, rfl, f, _, rfl, .inl (SqL.of hf5), rfl, flat_ints ns, _, rfl, ?_⟩
          rw [show (if false = true then !inV (V.int rd) (ns.map V.int) else inV (V.int rd) (ns.map V.int)) = decide (rd ∈ ns) from inV_ints rd ns]
          refine ite2 (fun hin => ?_) (fun hnin => ?_)
          · refine ⟨.int rd, rfl, .inl ⟨_, rfl, _, _, rfl, rfl, (by show (0 : Int) < 99; decide), _, _, rfl, rfl, ?_⟩⟩
            have hne : rd ≠ v := fun z => w3 (z ▸ of_decide_eq_true hin)
            refine ⟨⟨_, _, rfl, rfl, by omega, by omega⟩, ?_⟩
            show ((v - (rd % 99 + 1)) % 99).toNat < ((v - rd) % 99).toNat
            omega
          · refine ⟨.ref f, rfl, .inl ⟨rfl, _, SqL.of hf5⟩, .int rd, rfl, f, _, .int rd, rfl, rfl, hf5, szl (by rw [List.length_map]; omega), ?_⟩
            refine ⟨_, _, ns ++ [rd], rfl, Dk5.mut nfp nfl, E5'.mut nf0, by rw [upd_same, List.map_append]; rfl, by rw [List.length_append, hn]; rfl, fun n h => ?_⟩
            rcases List.mem_append.mp h with h | h
            · exact hb n h
            · rw [List.mem_singleton.mp h]; omega
        · rintro σ H6 Q1 Q2 hq ⟨x, hx, y, hy, pp, xs, e1, e2, e3, e4, kk, e5, e6⟩
          exact ⟨x, hx, y, hy, pp, xs, e1, e2, e3, e4, kk, e5, hq _ _ e6⟩
    · rintro σ H2 ⟨v4, v5, ns, rfl, Dk3, E3, hf, hn, hb⟩
      refine ⟨.ref f, rfl, f, _, rfl, .inl ⟨SqL.of hf, fun t nt => ?_⟩⟩
      obtain ⟨ntp, ntl⟩ := Dk3.new nt
      exact q _ t ns (Dk3.mut ntp ntl) (E3.new nt) (hid_upd ntp ntl) hn hb
end
end Kr

namespace Kr
open PySem PySem.Spec PyProof.Rows L2
/-- a standing: whole numbers from 0 to 99 -/
def spStand2 : Sp := fun vs H Q _ => ∃ (p l : Addr) (m : Int), vs = [.ref p, .int m] ∧ Deck H p l ∧ 0 ≤ m ∧ m ≤ 90 ∧
  ∀ (H' : Hp) (t : Addr) (ns : List Int), Deck H' p l → Ext p l H H' → hid p l H' t = some (.tup (ns.map V.int)) → ns.length = m.toNat → (∀ n ∈ ns, 0 ≤ n ∧ n ≤ 99) → (ns.filter fun z => decide (0 < z)).Nodup → Q (.ref t) H'
section
variable {P : Program} {w : World} {K : PySem.W.Frag} {mg : Str → Option Value} {base : Heap}
theorem scStand2 : FnScope ["deck", "many", "share", "found", "place", "rider"] ["deck", "many"] (defScope sStanding) := ⟨rfl, rfl, rfl, by decide +kernel, rfl, by decide +kernel, by decide +kernel⟩
theorem o_stand2 (D : Df K mg "_law_standing" sStanding ["deck", "many"]) (B : Bi mg) (d : Ok P w K mg base 1 "_law_draw" ["deck", "many"] spDraw) (dp : Ok P w K mg base 2 "_law_pick" ["deck", "items"] spPick) :
    Ok P w K mg base 3 "_law_standing" ["deck", "many"] spStand2 := by
  refine D.ok fun f fd F => F.ok scStand2 (fun vs H Q E h => ?_) (fun cdv A outer s H vs Q E hr h => ?_)
  · obtain ⟨p, l, m, rfl, _⟩ := h
    rfl
  · obtain ⟨p, l, m, rfl, Dk, hm0, hm1, q⟩ := h
    have hr1 := hr.mono (show 1 ≤ 2 by decide)
    refine ⟨_, pss_cons (ps_par (i := 2) (j := 3) rfl scStand2.nd rfl rfl (by decide) rfl rfl (pa_cons (pe_fn dp hr (by rfl) (pa_cons (pv 0) (pa_cons (pe_lst (pa_cons pe_int (pa_cons pe_int (pa_cons pe_int (pa_cons pe_int (pa_cons pe_int (pa_cons pe_int pa_nil))))))) pa_nil))) (pa_cons (pe_lst pa_nil) pa_nil)) (by rfl))
      (pss_cons (ps_for PassesOwn.never rfl (pi_range1 (by rfl) B.range (pa_cons (pv 1) pa_nil)) (pg_name (i := 4) scStand2.nd rfl (.inl rfl))
        (pss_one (ps_if (pt_cmpR op_lt (pe_fn d hr1 (by rfl) (pa_cons (pv 0) (pa_cons pe_int pa_nil))) (pv 2) (nomark _))
          (pss_one (ps_expr (pe_bm PySem.F.plainAttrs_list PySem.F.slot_list_append PySem.F.type_list_append mt_append (pv 3) (pa_cons pe_int pa_nil))))
          (pss_cons (ps_set (i := 5) scStand2.nd rfl (.inl rfl) (pe_op op_add pe_int (pe_fn d hr1 (by rfl) (pa_cons (pv 0) (pa_cons pe_int pa_nil)))))
          (pss_cons (ps_while PassesOwn.never (pt_cmpR op_in_seq (pv 5) (pv 3) rfl) (pss_one (ps_set (i := 5) scStand2.nd rfl (.inl rfl) (pe_op op_add (pe_op op_mod (pe_callTy call_int1 (by rfl) B.int (by decide +kernel) (pa_cons (pv 5) pa_nil)) pe_int) pe_int))))
          (pss_one (ps_expr (pe_bm PySem.F.plainAttrs_list PySem.F.slot_list_append PySem.F.type_list_append mt_append (pv 3) (pa_cons (pv 5) pa_nil)))))))))
      (pss_one (ps_ret (pe_callTy call_tuple_of (by rfl) B.tuple (by decide +kernel) (pa_cons (pv 3) pa_nil))))), ?_⟩
    refine ⟨.ref p, rfl, by show 6 ≤ sizeLine; decide, fun a na => ?_⟩
    have Dk1 := Dk.up (same_new (o := .lst [.int 1, .int 2, .int 3, .int 4, .int 0, .int 5]) na)
    obtain ⟨nap, nal⟩ := Dk.new na
    refine ⟨p, l, a, _, rfl, Dk1, hid_upd nap nal, by simp, by show 6 < 1000000; decide, fun H1 v Dk2 E1 hv => ?_⟩
    obtain ⟨sh, rfl⟩ : ∃ sh : Int, v = .int sh := by
      simp only [List.mem_cons, List.not_mem_nil, or_false] at hv
      rcases hv with rfl | rfl | rfl | rfl | rfl | rfl <;> exact ⟨_, rfl⟩
    refine ⟨by show 0 ≤ sizeLine; decide, fun f nf => ?_⟩
    obtain ⟨nfp, nfl⟩ := Dk2.new nf
    refine ⟨_, _, rfl, ?_⟩
    have E1' : Ext p l H H1 := (Ext.of (same_new na)).trans E1
    have nf0 : H f = none := E1'.free nf nfp nfl
    refine ⟨.int m, rfl, m, rfl, by omega, by omega, for_range (n := m.toNat) (fun i σ H2 => ∃ (v4 v5 : Option V) (ns : List Int), σ = [some (.ref p), some (.int m), some (.int sh), some (.ref f), v4, v5] ∧ Deck H2 p l ∧ Ext p l H H2 ∧ H2 f = some (.lst (ns.map V.int)) ∧ ns.length = i ∧ (∀ n ∈ ns, 0 ≤ n ∧ n ≤ 99) ∧ (ns.filter fun z => decide (0 < z)).Nodup)
      ⟨none, none, [], rfl, Dk2.mut nfp nfl, E1'.mut nf0, upd_same, rfl, (fun n h => nomatch h), List.nodup_nil⟩ ?_ ?_⟩
    · rintro i σ H2 hi ⟨v4, v5, ns, rfl, Dk3, E3, hf, hn, hb, hnd⟩
      refine ⟨.ref p, rfl, p, l, 5, rfl, Dk3, by decide, fun H3 r Dk4 E4 r0 r1 => ?_⟩
      have hf4 : H3 f = some (.lst (ns.map V.int)) := (hid_some (E4 f _ (by rw [hid_ne nfp nfl]; exact hf))).2.2
      have E4' : Ext p l H H3 := E3.trans E4
      refine ⟨.int sh, rfl, _, _, rfl, rfl, _, rfl, ite2 (fun _ => ?_) (fun _ => ?_)⟩
      · refine ⟨.ref f, rfl, .inl ⟨rfl, _, SqL.of hf4⟩, f, _, .int 0, rfl, rfl, hf4, szl (by rw [List.length_map]; omega), ?_⟩
        refine ⟨_, _, ns ++ [0], rfl, Dk4.mut nfp nfl, E4'.mut nf0, by rw [upd_same, List.map_append]; rfl, by rw [List.length_append, hn]; rfl, fun n h => ?_, ?_⟩
        · rcases List.mem_append.mp h with h | h
          · exact hb n h
          · rw [List.mem_singleton.mp h]; omega
        · rw [List.filter_append]
          simpa using hnd
      · refine ⟨.ref p, rfl, p, l, 99, rfl, Dk4, by decide, fun H5 r' Dk5 E5 r0' r1' => ⟨_, _, rfl, rfl, ?_⟩⟩
        have hf5 : H5 f = some (.lst (ns.map V.int)) := (hid_some (E5 f _ (by rw [hid_ne nfp nfl]; exact hf4))).2.2
        have E5' : Ext p l H H5 := E4'.trans E5
        obtain ⟨v, w1, w2, w3⟩ := free_of 99 ns (by omega)
        refine while_by (fun σ H6 => ∃ (v4 : Option V) (rd : Int), σ = [some (.ref p), some (.int m), some (.int sh), some (.ref f), v4, some (.int rd)] ∧ H6 = H5 ∧ 1 ≤ rd ∧ rd ≤ 99)
          (fun σ H6 => match σ with | [_, _, _, _, _, some (.int rd)] => ((v - rd) % 99).toNat | _ => 0) ⟨_, _, rfl, rfl, by omega, by omega⟩ ?_ ?_
        · rintro σ H6 ⟨v4, rd, rfl, rfl, d0, d1⟩
          refine ⟨.int rd, rfl, .ref f, rfl, f, _, rfl, .inl (SqL.of hf5), rfl, flat_ints ns, _, rfl, ?_⟩
          rw [show (if false = true then !inV (V.int rd) (ns.map V.int) else inV (V.int rd) (ns.map V.int)) = decide (rd ∈ ns) from inV_ints rd ns]
          refine ite2 (fun hin => ?_) (fun hnin => ?_)
          · refine ⟨.int rd, rfl, .inl ⟨_, rfl, _, _, rfl, rfl, (by show (0 : Int) < 99; decide), _, _, rfl, rfl, ?_⟩⟩
            have hne : rd ≠ v := fun z => w3 (z ▸ of_decide_eq_true hin)
            refine ⟨⟨_, _, rfl, rfl, by omega, by omega⟩, ?_⟩
            show ((v - (rd % 99 + 1)) % 99).toNat < ((v - rd) % 99).toNat
            omega
          · refine ⟨.ref f, rfl, .inl ⟨rfl, _, SqL.of hf5⟩, .int rd, rfl, f, _, .int rd, rfl, rfl, hf5, szl (by rw [List.length_map]; omega), ?_⟩
            refine ⟨_, _, ns ++ [rd], rfl, Dk5.mut nfp nfl, E5'.mut nf0, by rw [upd_same, List.map_append]; rfl, by rw [List.length_append, hn]; rfl, fun n h => ?_, ?_⟩
            · rcases List.mem_append.mp h with h | h
              · exact hb n h
              · rw [List.mem_singleton.mp h]; omega
            · have e1 : [rd].filter (fun z => decide (0 < z)) = [rd] := by simp; omega
              rw [List.filter_append, e1, List.nodup_append]
              refine ⟨hnd, by simp, fun a ha b hb' e => ?_⟩
              rw [List.mem_singleton.mp hb'] at e
              subst e
              exact hnin (decide_eq_true (List.mem_filter.mp ha).1)
        · rintro σ H6 Q1 Q2 hq ⟨x, hx, y, hy, pp, xs, e1, e2, e3, e4, kk, e5, e6⟩
          exact ⟨x, hx, y, hy, pp, xs, e1, e2, e3, e4, kk, e5, hq _ _ e6⟩
    · rintro σ H2 ⟨v4, v5, ns, rfl, Dk3, E3, hf, hn, hb, hnd⟩
      refine ⟨.ref f, rfl, f, _, rfl, .inl ⟨SqL.of hf, fun t nt => ?_⟩⟩
      obtain ⟨ntp, ntl⟩ := Dk3.new nt
      exact q _ t ns (Dk3.mut ntp ntl) (E3.new nt) (hid_upd ntp ntl) hn hb hnd
end
end Kr

namespace Kr
open PySem PySem.Spec PyProof.Rows L2
/-! ### the program's tests of single values, over data -/
def tyN : PyData → String
  | .none => "NoneType"
  | .bool _ => "bool"
  | .int _ => "int"
  | .str _ => "str"
  | .list _ => "list"
  | .tuple _ => "tuple"
  | .dict _ => "dict"
theorem Dq.ty {K : PySem.W.Frag} {H : Hp} {v : V} {d : PyData} (h : Dq H v d) : TyX K H v (.type (tyN d)) := by
  cases h with
  | non => exact .base .non
  | bl b => exact .base (.bl b)
  | int i => exact .base (.int i)
  | str x => exact .base (.str x)
  | lst e q => exact .base (.lst e)
  | tup e q => exact .base (.tup e)
  | dic e => exact .base (.dK e)
def isI : PyData → Bool
  | .int _ => true
  | .bool _ => true
  | _ => false
def isBo : PyData → Bool
  | .bool _ => true
  | _ => false
def isTu : PyData → Bool
  | .tuple _ => true
  | _ => false
theorem kit_int {K : PySem.W.Frag} : ∀ d : PyData, PySem.W.kitOne K (.type (tyN d)) (.type "int") = some (isI d)
  | .none => kit_ty (show kitB "NoneType" "int" = some false by decide +kernel)
  | .bool _ => kit_ty (show kitB "bool" "int" = some true by decide +kernel)
  | .int _ => kit_ty (show kitB "int" "int" = some true by decide +kernel)
  | .str _ => kit_ty (show kitB "str" "int" = some false by decide +kernel)
  | .list _ => kit_ty (show kitB "list" "int" = some false by decide +kernel)
  | .tuple _ => kit_ty (show kitB "tuple" "int" = some false by decide +kernel)
  | .dict _ => kit_ty (show kitB "dict" "int" = some false by decide +kernel)
theorem kit_bool {K : PySem.W.Frag} : ∀ d : PyData, PySem.W.kitOne K (.type (tyN d)) (.type "bool") = some (isBo d)
  | .none => kit_ty (show kitB "NoneType" "bool" = some false by decide +kernel)
  | .bool _ => kit_ty (show kitB "bool" "bool" = some true by decide +kernel)
  | .int _ => kit_ty (show kitB "int" "bool" = some false by decide +kernel)
  | .str _ => kit_ty (show kitB "str" "bool" = some false by decide +kernel)
  | .list _ => kit_ty (show kitB "list" "bool" = some false by decide +kernel)
  | .tuple _ => kit_ty (show kitB "tuple" "bool" = some false by decide +kernel)
  | .dict _ => kit_ty (show kitB "dict" "bool" = some false by decide +kernel)
theorem kit_tuple {K : PySem.W.Frag} : ∀ d : PyData, PySem.W.kitOne K (.type (tyN d)) (.type "tuple") = some (isTu d)
  | .none => kit_ty (show kitB "NoneType" "tuple" = some false by decide +kernel)
  | .bool _ => kit_ty (show kitB "bool" "tuple" = some false by decide +kernel)
  | .int _ => kit_ty (show kitB "int" "tuple" = some false by decide +kernel)
  | .str _ => kit_ty (show kitB "str" "tuple" = some false by decide +kernel)
  | .list _ => kit_ty (show kitB "list" "tuple" = some false by decide +kernel)
  | .tuple _ => kit_ty (show kitB "tuple" "tuple" = some true by decide +kernel)
  | .dict _ => kit_ty (show kitB "dict" "tuple" = some false by decide +kernel)
/-- an integer, no bool, within bounds -/
def isB (d : PyData) (lo hi : Int) : Bool := match d with
  | .int i => decide (lo ≤ i) && decide (i ≤ hi)
  | _ => false
/-- a tuple of so many items -/
def isT (d : PyData) (n : Int) : Bool := match d with
  | .tuple xs => decide ((xs.length : Int) = n)
  | _ => false
def spB : Sp := fun vs H Q _ => ∃ (v : V) (d : PyData) (lo hi : Int), vs = [v, .int lo, .int hi] ∧ Dq H v d ∧ Q (.bl (isB d lo hi)) H
def spT : Sp := fun vs H Q _ => ∃ (v : V) (d : PyData) (n : Int), vs = [v, .int n] ∧ Dq H v d ∧ Q (.bl (isT d n)) H
section
variable {P : Program} {w : World} {K : PySem.W.Frag} {mg : Str → Option Value} {base : Heap}
theorem scB : FnScope ["value", "least", "most"] ["value", "least", "most"] (defScope sBetween) := ⟨rfl, rfl, rfl, by decide +kernel, rfl, by decide +kernel, by decide +kernel⟩
theorem o_between (D : Df K mg "is_between" sBetween ["value", "least", "most"]) (B : Bi mg) : Ok P w K mg base 1 "is_between" ["value", "least", "most"] spB := by
  refine D.ok fun f fd F => F.ok scB (fun vs H Q E h => ?_) (fun cdv A outer s H vs Q E hr h => ?_)
  · obtain ⟨v, d, lo, hi, rfl, _⟩ := h
    rfl
  · obtain ⟨v, d, lo, hi, rfl, hd, q⟩ := h
    refine ⟨_, pss_one (ps_ret (pe_and (pe_callB call_isi (by rfl) B.isinstance (by decide +kernel) (pa_cons (pv 0) (pa_cons (pe_bltn (v := .ty "int") (by rfl) B.int boot_int rfl) pa_nil)))
      (pe_and (pe_not (pe_callB call_isi (by rfl) B.isinstance (by decide +kernel) (pa_cons (pv 0) (pa_cons (pe_bltn (v := .ty "bool") (by rfl) B.bool (by decide +kernel) rfl) pa_nil))))
      (pe_one (pe_chain op_le op_le (pv 1) (pv 0) (pv 2)))))), ?_⟩
    refine ⟨v, rfl, v, .ty "int", _, _, isI d, rfl, .ty "int", hd.ty, kit_int d, isI d, rfl, ?_⟩
    by_cases hi1 : isI d = true
    · rw [hi1]
      refine iteT ?_
      refine ⟨v, rfl, v, .ty "bool", _, _, isBo d, rfl, .ty "bool", hd.ty, kit_bool d, isBo d, rfl, !isBo d, rfl, ?_⟩
      cases hd with
      | bl b => exact q
      | int i =>
        refine ⟨.int lo, rfl, .int i, rfl, _, _, rfl, rfl, decide (lo ≤ i), rfl, ?_⟩
        by_cases h1 : lo ≤ i
        · rw [decide_eq_true h1]
          refine iteT ⟨.int hi, rfl, _, _, rfl, rfl, ?_⟩
          have e : isB (.int i) lo hi = decide (i ≤ hi) := by simp [isB, h1]
          rw [e] at q
          exact q
        · rw [decide_eq_false h1]
          have e : isB (.int i) lo hi = false := by simp [isB, h1]
          rw [e] at q
          exact iteF q
      | _ => simp [isI] at hi1
    · rw [Bool.eq_false_iff.mpr hi1]
      have e : isB d lo hi = false := by cases d <;> first | rfl | exact absurd rfl hi1
      rw [e] at q
      exact iteF q
theorem scT : FnScope ["value", "size"] ["value", "size"] (defScope sTupleOf) := ⟨rfl, rfl, rfl, by decide +kernel, rfl, by decide +kernel, by decide +kernel⟩
theorem o_tupleOf (D : Df K mg "is_tuple_of" sTupleOf ["value", "size"]) (B : Bi mg) : Ok P w K mg base 1 "is_tuple_of" ["value", "size"] spT := by
  refine D.ok fun f fd F => F.ok scT (fun vs H Q E h => ?_) (fun cdv A outer s H vs Q E hr h => ?_)
  · obtain ⟨v, d, n, rfl, _⟩ := h
    rfl
  · obtain ⟨v, d, n, rfl, hd, q⟩ := h
    refine ⟨_, pss_one (ps_ret (pe_and (pe_callB call_isi (by rfl) B.isinstance (by decide +kernel) (pa_cons (pv 0) (pa_cons (pe_bltn (v := .ty "tuple") (by rfl) B.tuple (by decide +kernel) rfl) pa_nil)))
      (pe_one (pe_cmpR op_eq (pe_callB call_len_seq (by rfl) B.len boot_len (pa_cons (pv 0) pa_nil)) (pv 1) (nomark _))))), ?_⟩
    refine ⟨v, rfl, v, .ty "tuple", _, _, isTu d, rfl, .ty "tuple", hd.ty, kit_tuple d, isTu d, rfl, ?_⟩
    by_cases hi1 : isTu d = true
    · rw [hi1]
      refine iteT ?_
      cases hd with
      | @tup a xs ds e qa =>
        refine ⟨.ref a, rfl, a, xs, rfl, .inr (SqT.of e), .int n, rfl, rfl, ?_⟩
        have e1 : isT (.tuple ds) n = decide (V.int (xs.length : Int) = V.int n) := by
          rw [qa.len]
          simp [isT]
        rw [e1] at q
        exact q
      | _ => simp [isTu] at hi1
    · rw [Bool.eq_false_iff.mpr hi1]
      have e : isT d n = false := by cases d <;> first | rfl | exact absurd rfl hi1
      rw [e] at q
      exact iteF q
end
end Kr

namespace Kr
open PySem PySem.Spec PyProof.Rows L2
/-! ### what is wrong with lots and standings, over data -/
def iv : PyData → Int
  | .int i => i
  | _ => 0
def eForm : PyData := .str "form"
def eItem (i : Nat) : PyData := .tuple [.str "item", .int (i : Nat)]
def eTwice (i : Nat) : PyData := .tuple [.str "twice", .int (i : Nat)]
def lotGo (n : Int) : Int → Nat → List PyData → PyData
  | _, _, [] => .none
  | least, i, x :: r => if isB x least (n - 1) = true then lotGo n (iv x + 1) (i + 1) r else eItem i
def lotErr (n : Int) : PyData → PyData
  | .tuple ds => lotGo n 0 0 ds
  | _ => eForm
theorem isB_int {x : PyData} {lo hi : Int} (h : isB x lo hi = true) : ∃ i, x = .int i ∧ lo ≤ i ∧ i ≤ hi := by
  cases x with
  | int i =>
    simp [isB] at h
    exact ⟨i, rfl, h.1, h.2⟩
  | _ => simp [isB] at h
/-- a new data result -/
def spErr (F : Int → PyData → PyData) : Sp := fun vs H Q _ => ∃ (n : Int) (v : V) (d : PyData), vs = [.int n, v] ∧ Dq H v d ∧ ∀ H' r, Same H H' → Dq H' r (F n d) → Q r H'
theorem dq_pair {H : Hp} {t : Addr} {x : Str} {i : Nat} (h : H t = some (.tup [.str x, .int (i : Nat)])) : Dq H (.ref t) (.tuple [.str x, .int (i : Nat)]) :=
  .tup h (.cons (.str x) (.cons (.int _) .nil))
end Kr

namespace Kr
open PySem PySem.Spec PyProof.Rows L2
/-- the first item that is no whole number from 0 to 99; else k -/
def itGo (k : PyData) : Nat → List PyData → PyData
  | _, [] => k
  | i, x :: r => if isB x 0 99 = true then itGo k (i + 1) r else eItem i
/-- the first one above 0 that stands ahead, too -/
def twGo : List Int → List Int → PyData
  | _, [] => .none
  | pre, x :: r => if 0 < x ∧ x ∈ pre then eTwice pre.length else twGo (pre ++ [x]) r
def standGo (ds : List PyData) : PyData := itGo (twGo [] (ds.map iv)) 0 ds
def standErr (n : Int) : PyData → PyData
  | .tuple ds => if (ds.length : Int) = n then standGo ds else eForm
  | _ => eForm
section
variable {P : Program} {w : World} {K : PySem.W.Frag} {mg : Str → Option Value} {base : Heap}
theorem scSE : FnScope ["n", "value", "spot", "item"] ["n", "value"] (defScope sStandErr) := ⟨rfl, rfl, rfl, by decide +kernel, rfl, by decide +kernel, by decide +kernel⟩
theorem f_standErr {f : Addr} {fd : FuncData} (F : Fun K "standing_error" "standing_error" sStandErr f fd) (B : Bi mg) (hM : ∃ t, mg "MAX_RIDER" = some (.int 99 t)) (c : Ok P w K mg base 1 "is_tuple_of" ["value", "size"] spT) (b : Ok P w K mg base 1 "is_between" ["value", "least", "most"] spB) : FnOk P w K mg base CX0 2 f fd ["n", "value"] (spErr standErr) := by
  obtain ⟨tM, gM⟩ := hM
  refine F.ok scSE (fun vs H Q E h => ?_) (fun cdv A outer s H vs Q E hr h => ?_)
  · obtain ⟨n, v, d, rfl, _⟩ := h
    rfl
  · obtain ⟨n, v, d, rfl, hd, q⟩ := h
    refine ⟨_, pss_cons (ps_if (pt_not (pt_val (pe_fn c hr (by rfl) (pa_cons (pv 1) (pa_cons (pv 0) pa_nil))))) (pss_one (ps_ret pe_str)) pss_nil)
      (pss_cons (ps_for PassesOwn.never rfl (pi_enumT (by rfl) B.enumerate (pa_cons (pv 1) pa_nil)) (pg_tup rfl (pgs_cons (pg_name (i := 2) scSE.nd rfl (.inl rfl)) (pgs_cons (pg_name (i := 3) scSE.nd rfl (.inl rfl)) pgs_nil)))
        (pss_one (ps_if (pt_not (pt_val (pe_fn b hr (by rfl) (pa_cons (pv 3) (pa_cons pe_int (pa_cons (pe_glob (v := .int 99) (by rfl) gM ⟨_, rfl⟩) pa_nil)))))) (pss_one (ps_ret (pe_tup (pa_cons pe_str (pa_cons (pv 2) pa_nil))))) pss_nil)))
      (pss_cons (ps_for PassesOwn.never rfl (pi_enumT (by rfl) B.enumerate (pa_cons (pv 1) pa_nil)) (pg_tup rfl (pgs_cons (pg_name (i := 2) scSE.nd rfl (.inl rfl)) (pgs_cons (pg_name (i := 3) scSE.nd rfl (.inl rfl)) pgs_nil)))
        (pss_one (ps_if (PW.pt (pw_and (pt_cmpR op_gt (pv 3) pe_int (nomark _)) (pw_and1 (pt_cmpR op_in_seq (pv 3) (pe_slice sl_tup (pv 1) po_none (po_some (pv 2))) (by rfl))))) (pss_one (ps_ret (pe_tup (pa_cons pe_str (pa_cons (pv 2) pa_nil))))) pss_nil)))
      (pss_one (ps_ret pe_non)))), ?_⟩
    by_cases ht : isT d n = true
    · refine ⟨v, rfl, .int n, rfl, v, d, n, rfl, hd, isT d n, rfl, ?_⟩
      rw [ht]
      refine iteF ?_
      cases hd with
      | @tup a xs ds e qa =>
        have en : standErr n (.tuple ds) = standGo ds := by
          have ht' : (ds.length : Int) = n := by simpa [isT] using ht
          show (if (ds.length : Int) = n then standGo ds else eForm) = _
          rw [if_pos ht']
        rw [en] at q
        have hdrop : ∀ (i : Nat) (dy : PyData), ds[i]? = some dy → ds.drop i = dy :: ds.drop (i + 1) := fun i dy h => by
          have := List.getElem?_eq_some_iff.mp h
          rw [List.drop_eq_getElem_cons this.1, this.2]
        refine ⟨.ref a, rfl, a, xs, rfl, SqT.of e, for_it walk_enumT (fun i σ H2 => ∃ (y2 y3 : Option V), σ = [some (.int n), some (.ref a), y2, y3] ∧ Same H H2 ∧ standGo ds = itGo (twGo [] (ds.map iv)) i (ds.drop i) ∧ ∀ (j : Nat), j < i → ∃ z : Int, xs[j]? = some (.int z) ∧ ds[j]? = some (.int z))
          ⟨none, none, rfl, Same.refl _, rfl, fun j h => absurd h (Nat.not_lt_zero _)⟩ (fun i σ H2 _ ⟨_, _, _, sm, _⟩ => SqT.of (sm _ _ e)) ?_ ?_⟩
        · rintro i _ σ H2 _ hi ⟨y2, y3, rfl, sm, el, hall⟩ ⟨T, x, y, rfl, nT, rfl, e1, e2⟩
          cases Option.some.inj e1
          obtain ⟨dy, hdy, hq⟩ := (DqA.up sm qa).get e2
          have sT : Same H2 (upd H2 T (.tup [.int (i : Nat), y])) := same_new nT
          refine ⟨T, [.int (i : Nat), y], rfl, SqT.of upd_same, rfl, .int (i : Nat), [y], rfl, y, [], rfl, rfl, ?_⟩
          refine ⟨y, rfl, y, dy, 0, 99, rfl, hq.up sT, isB dy 0 99, rfl, ?_⟩
          rw [hdrop i dy hdy] at el
          by_cases hb : isB dy 0 99 = true
          · rw [hb]
            refine iteF ?_
            obtain ⟨z, rfl, z0, z1⟩ := isB_int hb
            have ey : y = .int z := by cases hq; rfl
            refine ⟨_, _, rfl, sm.trans sT, ?_, fun j hj => ?_⟩
            · rw [el]
              show (if _ then _ else _) = _
              rw [if_pos hb]
            · by_cases hji : j = i
              · subst hji
                exact ⟨z, (show xs[j]? = some y from e2).trans (congrArg some ey), hdy⟩
              · exact hall j (by omega)
          · rw [Bool.eq_false_iff.mpr hb]
            refine iteT ⟨.int (i : Nat), rfl, by show 2 ≤ sizeLine; decide, fun t nt => ?_⟩
            refine q _ _ ((sm.trans sT).trans (same_new nt)) ?_
            rw [el]
            show Dq _ _ (if _ then _ else _)
            rw [if_neg hb]
            exact dq_pair upd_same
        · rintro σ H2 ⟨y2, y3, rfl, sm, el, hall⟩
          have elen := qa.len
          -- all are whole numbers now
          obtain ⟨ns, hxs, hds⟩ : ∃ ns : List Int, xs = ns.map V.int ∧ ds.map iv = ns := by
            refine ⟨ds.map iv, List.ext_getElem? fun j => ?_, rfl⟩
            by_cases hj : j < xs.length
            · obtain ⟨z, h1, h2⟩ := hall j hj
              rw [h1, List.getElem?_map, List.getElem?_map, h2]
              rfl
            · rw [List.getElem?_eq_none (by omega), List.getElem?_eq_none (by rw [List.length_map, List.length_map]; omega)]
          rw [List.drop_of_length_le (by rw [← elen]; exact Nat.le_refl _), hds] at el
          have el2 : standGo ds = twGo [] ns := el
          rw [el2] at q
          subst hxs
          have e2' : H2 a = some (.tup (ns.map V.int)) := sm _ _ e
          refine ⟨.ref a, rfl, a, _, rfl, SqT.of e2', for_it walk_enumT (fun i σ H3 => ∃ (y2 y3 : Option V), σ = [some (.int n), some (.ref a), y2, y3] ∧ Same H2 H3 ∧ twGo [] ns = twGo (ns.take i) (ns.drop i))
            ⟨y2, y3, rfl, Same.refl _, rfl⟩ (fun i σ H3 _ ⟨_, _, _, s3, _⟩ => SqT.of (s3 _ _ e2')) ?_ ?_⟩
          · rintro i _ σ H3 _ hi ⟨y2, y3, rfl, s3, el3⟩ ⟨T, x, y, rfl, nT, rfl, e1, e5⟩
            cases Option.some.inj e1
            rw [List.length_map] at hi
            have ey : y = .int ns[i] := by
              have e6 : (ns.map V.int)[i]? = some y := e5
              rw [List.getElem?_map, List.getElem?_eq_getElem hi] at e6
              exact (Option.some.inj e6).symm
            subst ey
            have sT : Same H3 (upd H3 T (.tup [.int (i : Nat), .int ns[i]])) := same_new nT
            refine ⟨T, [.int (i : Nat), .int ns[i]], rfl, SqT.of upd_same, rfl, .int (i : Nat), [.int ns[i]], rfl, .int ns[i], [], rfl, rfl, ?_⟩
            rw [List.drop_eq_getElem_cons hi] at el3
            generalize hz : ns[i] = z at el3 sT
            have next : ¬ (0 < z ∧ z ∈ ns.take i) → twGo [] ns = twGo (ns.take (i + 1)) (ns.drop (i + 1)) := fun h => by
              rw [el3]
              show (if _ then _ else _) = _
              rw [if_neg h, List.take_add_one, List.getElem?_eq_getElem hi, hz]
              rfl
            refine ⟨.int z, rfl, _, _, rfl, rfl, _, rfl, ?_⟩
            by_cases hp : 0 < z
            · rw [decide_eq_true hp]
              refine iteT ⟨.int z, rfl, .ref a, rfl, .int (i : Nat), rfl, (i : Int), rfl, a, _, rfl, SqT.of (sT _ _ (s3 _ _ e2')), ?_, fun t nt => ?_⟩
              · rw [HT.sIx_none, show HT.sIx (ns.map V.int).length (ns.map V.int).length (some (i : Int)) = min i (ns.map V.int).length from HT.sIx_nat _ _ i, List.length_map]
                omega
              have ec : cutV (ns.map V.int) none (some (i : Int)) = (ns.take i).map V.int := by
                unfold cutV
                rw [HT.sIx_none, show HT.sIx (ns.map V.int).length (ns.map V.int).length (some (i : Int)) = min i (ns.map V.int).length from HT.sIx_nat _ _ i, List.drop_zero, Nat.sub_zero, List.length_map, Nat.min_eq_left (Nat.le_of_lt hi), List.map_take]
              rw [ec]
              refine ⟨t, _, rfl, .inr (SqT.of upd_same), rfl, flat_ints _, _, rfl, ?_⟩
              rw [show (if false = true then !inV (V.int z) ((ns.take i).map V.int) else inV (V.int z) ((ns.take i).map V.int)) = decide (z ∈ ns.take i) from inV_ints z _]
              refine ite2 (fun h1 => ?_) (fun h1 => ?_)
              · refine ⟨.int (i : Nat), rfl, by show 2 ≤ sizeLine; decide, fun t2 nt2 => ?_⟩
                refine q _ _ (sm.trans (s3.trans ((sT.trans (same_new nt)).trans (same_new nt2)))) ?_
                rw [el3]
                show Dq _ _ (if _ then _ else _)
                rw [if_pos ⟨hp, of_decide_eq_true h1⟩, show (ns.take i).length = i by rw [List.length_take]; omega]
                exact dq_pair upd_same
              · exact ⟨_, _, rfl, s3.trans (sT.trans (same_new nt)), next fun h => h1 (decide_eq_true h.2)⟩
            · rw [decide_eq_false hp]
              refine iteF (iteF ?_)
              exact ⟨_, _, rfl, s3.trans sT, next fun h => hp h.1⟩
          · rintro σ H3 ⟨y2, y3, rfl, s3, el3⟩
            refine q _ _ (sm.trans s3) ?_
            rw [el3, List.drop_of_length_le (by rw [List.length_map]; exact Nat.le_refl _)]
            exact .non
      | _ => simp [isT] at ht
    · refine ⟨v, rfl, .int n, rfl, v, d, n, rfl, hd, isT d n, rfl, ?_⟩
      rw [Bool.eq_false_iff.mpr ht]
      refine iteT (q _ _ (Same.refl _) ?_)
      have e : standErr n d = eForm := by
        cases d with
        | tuple ds =>
          have ht' : ¬ (ds.length : Int) = n := by simpa [isT] using ht
          show (if (ds.length : Int) = n then standGo ds else eForm) = _
          rw [if_neg ht']
        | _ => rfl
      rw [e]
      exact .str _

end
end Kr

namespace Kr
open PySem PySem.Spec PyProof.Rows L2
/-- a list beside one without items -/
def rNeN : R2 := fun x y H Q => ∃ l b xs, x = .ref l ∧ y = .ref b ∧ H l = some (.lst xs) ∧ H b = some (.lst []) ∧ Q (.bl (!xs.isEmpty)) H
theorem op_neN {X : Cx} (hu : X.A.units + 64 < cLine) : OpR X (compareOp .NotEq) rNeN := by
  intro pins s σ H x y v u Q I rx ry h
  obtain ⟨l, b, xs, rfl, rfl, hl, hb, q⟩ := h
  obtain rfl : v = Value.ref l := rx
  obtain rfl : u = Value.ref b := ry
  obtain ⟨its, r1, p1, _⟩ := I.list (SqL.of (K := X.K) hl)
  obtain ⟨it2, r2, p2, _⟩ := I.list (SqL.of (K := X.K) hb)
  cases r2
  have hn : its.length = xs.length := r1.length.symm
  by_cases he : xs = []
  · subst he
    have : its = [] := List.length_eq_zero_iff.mp hn
    subst this
    exact SeqAt.RcNeAt.lists (e := fun _ => true) p1.isList p2.isList rfl (by omega) (fun j h1 _ => absurd h1 (by simp)) X.prog X.w X.xe _ ⟨.bl false, H, I, by rfl, q⟩
  · have hne : (its.toArray.size != ([] : List Value).toArray.size) = true := by
      have := List.length_pos_iff.mpr he
      simp
      intro z
      subst z
      simp at hn
      exact he (List.length_eq_zero_iff.mp hn.symm)
    have e1 : (!xs.isEmpty) = true := by
      cases xs with
      | nil => exact absurd rfl he
      | cons _ _ => rfl
    rw [e1] at q
    exact SeqAt.RcNeAt.lists_lengths p1.isList p2.isList hne (by omega) X.prog X.w X.xe _ ⟨.bl true, H, I, rfl, q⟩
/-! ### small data: what repr can show -/
structure Sm (k w : Nat) (d : PyData) : Prop where
  sh : d.showable = true
  ls : d.leavesShort 41 = true
  dp : d.depth ≤ k
  wt : d.weight ≤ w
theorem Sm.mono {k w k' w' : Nat} {d : PyData} (h : Sm k w d) (hk : k ≤ k') (hw : w ≤ w') : Sm k' w' d := ⟨h.sh, h.ls, Nat.le_trans h.dp hk, Nat.le_trans h.wt hw⟩
theorem sm_all {k w : Nat} : ∀ {ds : List PyData}, (∀ d ∈ ds, Sm k w d) → PyData.showableAll ds = true ∧ PyData.leavesShortAll 41 ds = true ∧ PyData.depthAll ds ≤ k ∧ PyData.weightAll ds ≤ (w + 1) * ds.length
  | [], _ => ⟨by simp [PyData.showableAll], by simp [PyData.leavesShortAll], by simp [PyData.depthAll], by simp [PyData.weightAll]⟩
  | d :: ds, h => by
    obtain ⟨h1, h2, h3, h4⟩ := sm_all fun x hx => h x (List.mem_cons_of_mem _ hx)
    have hd := h d List.mem_cons_self
    refine ⟨by simp [PyData.showableAll, hd.sh, h1], by simp [PyData.leavesShortAll, hd.ls, h2], ?_, ?_⟩
    · simp only [PyData.depthAll]
      have := hd.dp
      omega
    · simp only [PyData.weightAll, List.length_cons, Nat.mul_add]
      have := hd.wt
      omega
theorem Sm.lst {k w m : Nat} {ds : List PyData} (h : ∀ d ∈ ds, Sm k w d) (hm : ds.length ≤ m) : Sm (k + 1) ((w + 1) * m) (.list ds) := by
  obtain ⟨h1, h2, h3, h4⟩ := sm_all h
  refine ⟨by simpa [PyData.showable] using h1, by simpa [PyData.leavesShort] using h2, by simp only [PyData.depth]; omega, ?_⟩
  simp only [PyData.weight]
  exact Nat.le_trans h4 (Nat.mul_le_mul_left _ hm)
theorem Sm.tup {k w m : Nat} {ds : List PyData} (h : ∀ d ∈ ds, Sm k w d) (hm : ds.length ≤ m) : Sm (k + 1) ((w + 1) * m) (.tuple ds) := by
  obtain ⟨h1, h2, h3, h4⟩ := sm_all h
  refine ⟨by simpa [PyData.showable] using h1, by simpa [PyData.leavesShort] using h2, by simp only [PyData.depth]; omega, ?_⟩
  simp only [PyData.weight]
  exact Nat.le_trans h4 (Nat.mul_le_mul_left _ hm)
theorem Sm.int {i : Int} (h : i.natAbs < 10 ^ 40) : Sm 1 140 (.int i) := by
  have hl : (PyData.shown (.int i)).length ≤ 41 := by
    have e := int_text_length_le10 (k := 40) (by decide) h
    show (Str.ofString (toString i)).length ≤ 41
    rw [PySem.ofString_length]
    exact e
  have hg : i.natAbs.log2 < 134 := by
    by_cases h0 : i.natAbs = 0
    · rw [h0]
      decide
    · rw [Nat.log2_lt h0]
      exact Nat.lt_of_lt_of_le h (by decide)
  refine ⟨?_, by simpa [PyData.leavesShort] using hl, by simp [PyData.depth], ?_⟩
  · simp only [PyData.showable, decide_eq_true_eq]
    omega
  · simp only [PyData.weight]
    split <;> omega
theorem Sm.non : Sm 1 140 .none := ⟨rfl, rfl, by simp [PyData.depth], by simp [PyData.weight]⟩
theorem Sm.bl (b : Bool) : Sm 1 140 (.bool b) := ⟨rfl, rfl, by simp [PyData.depth], by simp [PyData.weight]⟩
theorem Sm.dic : Sm 1 140 (.dict []) := ⟨by simp [PyData.showable, PyData.showableKv], by simp [PyData.leavesShort, PyData.leavesShortKv], by simp [PyData.depth, PyData.depthKv], by simp [PyData.weight, PyData.weightKv]⟩
theorem Sm.str {x : Str} (h : (x.cps.toList.all fun c => decide (c < 16 ^ 8)) = true) (hs : x.length ≤ 4) : Sm 1 140 (.str x) :=
  ⟨by simp [PyData.showable], by simpa [PyData.leavesShort] using h, by simp [PyData.depth], Nat.le_trans (show x.cps.size ≤ 4 from hs) (by decide)⟩
/-- the text is short enough -/
theorem Sm.fits {k w : Nat} {d : PyData} (h : Sm k w d) (hw : w ≤ 380000) : d.shown.length ≤ sizeLine := by
  have h1 := PyData.shown_le 41 (by decide) d h.ls
  have h2 := h.wt
  rw [sizeLine_eq]
  omega
/-- repr of small data -/
theorem repr_sm {v : V} {d : PyData} {H : Hp} {Q : VK} {k w : Nat} (hd : Dq H v d) (h : Sm k w d) (hk : k ≤ 40) (hw : w ≤ 380000) (q : Q (.str d.shown) H) : rRepr [v] H Q :=
  ⟨v, d, rfl, hd, h.sh, Nat.le_trans h.dp hk, h.fits hw, q⟩
end Kr

namespace Kr
open PySem PySem.Spec PyProof.Rows L2
/-! ### expressions that give data, beside the deck at p and l -/
def EvP (p l : Addr) (te : TE) (σ : L2.St) (H : Hp) (R : PyData → Prop) : Prop :=
  ∀ H1, Ext p l H H1 → Deck H1 p l → ∀ Q : VK, (∀ v H2 d, Ext p l H1 H2 → Deck H2 p l → Dq (hid p l H2) v d → R d → Q v H2) → te σ H1 Q
def EvA (p l : Addr) (ta : TA) (σ : L2.St) (H : Hp) (R : PyData → Prop) (n : Nat) : Prop :=
  ∀ H1, Ext p l H H1 → Deck H1 p l → ∀ Q : List V → Hp → Prop, (∀ vs H2 ds, Ext p l H1 H2 → Deck H2 p l → DqA (hid p l H2) vs ds → ds.length = n → (∀ d ∈ ds, R d) → Q vs H2) → ta σ H1 Q
/-- a list, a tuple of so many at most, each so -/
def AllL (S : PyData → Prop) (n : Nat) (d : PyData) : Prop := ∃ ds, d = .list ds ∧ (0 < ds.length ∧ ds.length ≤ n) ∧ ∀ x ∈ ds, S x
def AllT (S : PyData → Prop) (n : Nat) (d : PyData) : Prop := ∃ ds, d = .tuple ds ∧ ds.length ≤ n ∧ ∀ x ∈ ds, S x
section
variable {p l : Addr} {σ : L2.St} {H : Hp} {te ta' tb : TE} {ta : TA} {R S R' : PyData → Prop} {n m : Nat} {K : PySem.W.Frag}
theorem EvP.imp (h : EvP p l te σ H R) (f : ∀ d, R d → R' d) : EvP p l te σ H R' := fun H1 e D Q q => h H1 e D Q fun v H2 d e2 D2 hd r => q v H2 d e2 D2 hd (f d r)
theorem ev_non (r : R .none) : EvP p l (tC .non) σ H R := fun H1 e D Q q => q _ H1 _ Ext.rfl D .non r
theorem ev_bl {b : Bool} (r : R (.bool b)) : EvP p l (tC (.bl b)) σ H R := fun H1 e D Q q => q _ H1 _ Ext.rfl D (.bl b) r
theorem ev_int {i : Int} (r : R (.int i)) : EvP p l (tC (.int i)) σ H R := fun H1 e D Q q => q _ H1 _ Ext.rfl D (.int i) r
theorem ev_str {x : Str} (r : R (.str x)) : EvP p l (tC (.str x)) σ H R := fun H1 e D Q q => q _ H1 _ Ext.rfl D (.str x) r
theorem ev_var {i : Nat} {v : V} {d : PyData} (h : σ[i]? = some (some v)) (hd : Dq (hid p l H) v d) (r : R d) : EvP p l (tVar i) σ H R := fun H1 e D Q q => ⟨v, h, q _ H1 _ Ext.rfl D (hd.up e) r⟩
/-- a whole number that is reckoned -/
def EvI (te : TE) (σ : L2.St) (i : Int) : Prop := ∀ (H : Hp) (Q : VK), Q (.int i) H → te σ H Q
theorem EvI.data {i : Int} (h : EvI te σ i) (r : R (.int i)) : EvP p l te σ H R := fun H1 e D Q q => h H1 Q (q _ H1 _ Ext.rfl D (.int i) r)
theorem ei_c {i : Int} : EvI (tC (.int i)) σ i := fun _ _ q => q
theorem ei_v {j : Nat} {i : Int} (h : σ[j]? = some (some (.int i))) : EvI (tVar j) σ i := fun _ _ q => ⟨_, h, q⟩
theorem ei_add {i j : Int} (ha : EvI ta' σ i) (hb : EvI tb σ j) : EvI (tOp (rI0 fun i j => .int (i + j)) ta' tb) σ (i + j) := fun H Q q => ha H _ (hb H _ ⟨i, j, rfl, rfl, q⟩)
theorem ei_sub {i j : Int} (ha : EvI ta' σ i) (hb : EvI tb σ j) : EvI (tOp (rI0 fun i j => .int (i - j)) ta' tb) σ (i - j) := fun H Q q => ha H _ (hb H _ ⟨i, j, rfl, rfl, q⟩)
theorem ei_pow {i j : Int} (ha : EvI ta' σ i) (hb : EvI tb σ j) (hc : CPow i j) : EvI (tOp (rI CPow fun i j => .int (i ^ j.toNat)) ta' tb) σ (i ^ j.toNat) := fun H Q q => ha H _ (hb H _ ⟨i, j, rfl, rfl, hc, q⟩)
theorem ea_nil : EvA p l tNil σ H R 0 := fun H1 e D Q q => q [] H1 [] Ext.rfl D .nil rfl fun _ h => nomatch h
theorem ea_cons (h : EvP p l te σ H R) (t : EvA p l ta σ H R n) : EvA p l (tCons te ta) σ H R (n + 1) := fun H1 e D Q q =>
  h H1 e D _ fun v H2 d e2 D2 hd r => t H2 (e.trans e2) D2 _ fun vs H3 ds e3 D3 hds hn hr => q (v :: vs) H3 (d :: ds) (e2.trans e3) D3 (.cons (hd.up e3) hds) (by rw [List.length_cons, hn]) fun x hx => by
    rcases List.mem_cons.mp hx with hx | hx
    · rw [hx]; exact r
    · exact hr x hx
theorem new_dq {H : Hp} {q : Addr} {o : HO} (D : Deck H p l) (h : H q = none) : Ext p l H (upd H q o) ∧ Deck (upd H q o) p l ∧ hid p l (upd H q o) q = some o := by
  obtain ⟨h1, h2⟩ := D.new h
  exact ⟨Ext.rfl.new h, D.mut h1 h2, hid_upd h1 h2⟩
theorem ev_lst (h : EvA p l ta σ H S n) (hn : n ≤ 100000) (r : ∀ ds : List PyData, ds.length = n → (∀ d ∈ ds, S d) → R (.list ds)) : EvP p l (tLst ta) σ H R := fun H1 e D Q q =>
  h H1 e D _ fun vs H2 ds e2 D2 hds hl hr => ⟨sz (by rw [hds.len, hl]; exact hn), fun a na => by
    obtain ⟨e3, D3, ha⟩ := new_dq (o := .lst vs) D2 na
    exact q _ _ _ (e2.trans e3) D3 (.lst ha (hds.up e3)) (r ds hl hr)⟩
theorem ev_tup (h : EvA p l ta σ H S n) (hn : n ≤ 100000) (r : ∀ ds : List PyData, ds.length = n → (∀ d ∈ ds, S d) → R (.tuple ds)) : EvP p l (tTup ta) σ H R := fun H1 e D Q q =>
  h H1 e D _ fun vs H2 ds e2 D2 hds hl hr => ⟨sz (by rw [hds.len, hl]; exact hn), fun a na => by
    obtain ⟨e3, D3, ha⟩ := new_dq (o := .tup vs) D2 na
    exact q _ _ _ (e2.trans e3) D3 (.tup ha (hds.up e3)) (r ds hl hr)⟩
theorem ev_dic (r : R (.dict [])) : EvP p l tDNewK σ H R := fun H1 e D Q q a na => by
  obtain ⟨e3, D3, ha⟩ := new_dq (o := .dK []) D na
  exact q _ _ _ e3 D3 (.dic ha) r
theorem flat_rep (x : V) : ∀ k : Nat, (List.replicate k [x]).flatten = List.replicate k x
  | 0 => rfl
  | k + 1 => by rw [List.replicate_succ, List.flatten_cons, flat_rep x k]; rfl
/-- (x,) * k -/
theorem ev_rep {k : Int} (h : EvA p l ta σ H S 1) (hk : EvI tb σ k) (h1 : 2 ≤ k) (h2 : k ≤ 1000) (r : ∀ d, S d → R (.tuple (List.replicate k.toNat d))) : EvP p l (tOp (rRepT K) (tTup ta) tb) σ H R := fun H1 e D Q q =>
  h H1 e D _ fun vs H2 ds e2 D2 hds hl hr => ⟨sz (by rw [hds.len, hl]; decide), fun a na => by
    obtain ⟨e3, D3, ha⟩ := new_dq (o := .tup vs) D2 na
    refine hk _ _ ?_
    obtain ⟨d, rfl⟩ : ∃ d, ds = [d] := List.length_eq_one_iff.mp hl
    cases hds with
    | cons hd ht =>
      cases ht
      refine ⟨a, k, _, rfl, rfl, SqT.of (hid_same p l _ _ _ ha), by simp, h1, h2, by simp, fun b nb => ?_⟩
      rw [flat_rep]
      obtain ⟨e4, D4, hb⟩ := new_dq (o := .tup (List.replicate k.toNat _)) D3 nb
      exact q _ _ _ (e2.trans (e3.trans e4)) D4 (.tup hb (DqA.rep (hd.up (e3.trans e4)) _)) (r d (hr d List.mem_cons_self))⟩
/-- xs + ys, lists -/
theorem ev_cat (ha : EvP p l ta' σ H (AllL S n)) (hb : EvP p l tb σ H (AllL S m)) (hnm : n + m ≤ 100000) (r : ∀ d, AllL S (n + m) d → R d) : EvP p l (tOp rCat ta' tb) σ H R := fun H1 e D Q q =>
  ha H1 e D _ fun v H2 d e2 D2 hd hr => hb H2 (e.trans e2) D2 _ fun v' H3 d' e3 D3 hd' hr' => by
    obtain ⟨ds, rfl, ⟨l0, l1⟩, r1⟩ := hr
    obtain ⟨ds', rfl, ⟨l0', l2⟩, r2⟩ := hr'
    have hd3 := hd.up e3
    cases hd3 with
    | @lst a xs _ ea qa =>
      cases hd' with
      | @lst b ys _ eb qb =>
        refine ⟨a, b, xs, ys, rfl, rfl, hid_same p l _ _ _ ea, hid_same p l _ _ _ eb, sz (by rw [qa.len, qb.len]; omega), fun c nc => ?_⟩
        obtain ⟨e4, D4, hc⟩ := new_dq (o := .lst (xs ++ ys)) D3 nc
        refine q _ _ _ (e2.trans (e3.trans e4)) D4 (.lst hc ((qa.up e4).app (qb.up e4))) (r _ ⟨_, rfl, by rw [List.length_append]; omega, fun x hx => ?_⟩)
        rcases List.mem_append.mp hx with hx | hx
        · exact r1 x hx
        · exact r2 x hx
theorem ev_listRg {k : Int} (hk : EvI te σ k) (h0 : 0 ≤ k) (h1 : k ≤ 1000) (r : R (.list ((List.range k.toNat).map fun i => .int (i : Nat)))) : EvP p l (tLstRg (tRg1 te)) σ H R := fun H1 e D Q q =>
  hk _ _ ⟨k, rfl, RgOk.of_le (Int.le_refl _) (by omega) (by decide) h0, fun a na => by
    obtain ⟨e4, D4, hc⟩ := new_dq (o := .lst (rgV 0 k)) D na
    refine q _ _ _ e4 D4 (.lst hc ?_) r
    have e1 : rgV 0 k = ((List.range k.toNat).map fun i => ((i : Nat) : Int)).map V.int := by
      unfold rgV
      rw [List.map_map, show (k - 0) = k by omega]
      exact List.map_congr_left fun i _ => by simp
    have e2 : ((List.range k.toNat).map fun i => PyData.int (i : Nat)) = ((List.range k.toNat).map fun i => ((i : Nat) : Int)).map PyData.int := by
      rw [List.map_map]
      rfl
    rw [e1, e2]
    exact DqA.ints _⟩
theorem ev_tupRg {k : Int} (hk : EvI te σ k) (h0 : 0 ≤ k) (h1 : k ≤ 1000) (r : R (.tuple ((List.range k.toNat).map fun i => .int (i : Nat)))) : EvP p l (tTupRg (tRg1 te)) σ H R := fun H1 e D Q q =>
  hk _ _ ⟨k, rfl, RgOk.of_le (Int.le_refl _) (by omega) (by decide) h0, fun a na => by
    obtain ⟨e4, D4, hc⟩ := new_dq (o := .tup (rgV 0 k)) D na
    refine q _ _ _ e4 D4 (.tup hc ?_) r
    have e1 : rgV 0 k = ((List.range k.toNat).map fun i => ((i : Nat) : Int)).map V.int := by
      unfold rgV
      rw [List.map_map, show (k - 0) = k by omega]
      exact List.map_congr_left fun i _ => by simp
    have e2 : ((List.range k.toNat).map fun i => PyData.int (i : Nat)) = ((List.range k.toNat).map fun i => ((i : Nat) : Int)).map PyData.int := by
      rw [List.map_map]
      rfl
    rw [e1, e2]
    exact DqA.ints _⟩
/-- _law_pick(deck, e) -/
theorem ev_pick {j : Nat} (hj : σ[j]? = some (some (.ref p))) (h : EvP p l te σ H (AllL R n)) (hn : n ≤ 100000) : EvP p l (tCall spPick [] E0 (tCons (tVar j) (tCons te tNil))) σ H R := fun H1 e D Q q =>
  ⟨_, hj, h H1 e D _ fun v H2 d e2 D2 hd hr => by
    obtain ⟨ds, rfl, ⟨hl0, hl⟩, hR⟩ := hr
    cases hd with
    | @lst a xs _ ea qa =>
      have hlen := qa.len
      refine ⟨p, l, a, xs, rfl, D2, ea, fun z => by subst z; rw [← hlen] at hl0; exact absurd hl0 (by decide), by omega, fun H3 v D3 e3 hv => ?_⟩
      obtain ⟨i, hi, hx⟩ := List.mem_iff_getElem.mp hv
      obtain ⟨d, h1, h2⟩ := (qa.up e3).get (List.getElem?_eq_getElem hi)
      rw [hx] at h2
      exact q v H3 d (e2.trans e3) D3 h2 (hR d (List.mem_of_getElem? h1))⟩
/-- x = e; rest -/
theorem seq_asg {g : TG} {u : TS} {D : Ends} (h : EvP p l te σ H R) (Dk : Deck H p l) (k : ∀ v H2 d, Ext p l H H2 → Deck H2 p l → Dq (hid p l H2) v d → R d → g v σ H2 (u D)) : tSeq (tAsg te g) u D σ H := h H Ext.rfl Dk _ k
/-- return e -/
theorem ret_ev {D : Ends} (h : EvP p l te σ H R) (Dk : Deck H p l) (k : ∀ v H2 d, Ext p l H H2 → Deck H2 p l → Dq (hid p l H2) v d → R d → D.rt v H2) : tRet te D σ H := h H Ext.rfl Dk _ k
end
end Kr

namespace Kr
open PySem PySem.Spec PyProof.Rows L2
/-! ### beside an empty list, an empty tuple -/
def rEqN : R2 := fun x y H Q => ∃ l b xs, x = .ref l ∧ y = .ref b ∧ H l = some (.lst xs) ∧ H b = some (.lst []) ∧ Q (.bl xs.isEmpty) H
theorem op_eqN {X : Cx} (hu : X.A.units + 64 < cLine) : OpR X (compareOp .Eq) rEqN := by
  intro pins s σ H x y v u Q I rx ry h
  obtain ⟨l, b, xs, rfl, rfl, hl, hb, q⟩ := h
  obtain rfl : v = Value.ref l := rx
  obtain rfl : u = Value.ref b := ry
  obtain ⟨its, r1, p1, _⟩ := I.list (SqL.of (K := X.K) hl)
  obtain ⟨it2, r2, p2, _⟩ := I.list (SqL.of (K := X.K) hb)
  cases r2
  cases r1 with
  | nil => exact SeqAt.RcAt.lists (e := fun _ => true) p1.isList p2.isList rfl (by omega) (fun j h1 _ => absurd h1 (by simp)) X.prog X.w X.xe _ ⟨.bl true, H, I, by rfl, q⟩
  | cons _ _ => exact SeqAt.RcAt.lists_lengths p1.isList p2.isList (by simp) (by omega) X.prog X.w X.xe _ ⟨.bl false, H, I, rfl, q⟩
def rEqT0 (K : PySem.W.Frag) : R2 := fun x y H Q => ∃ l b xs, x = .ref l ∧ y = .ref b ∧ SqT K H l xs ∧ SqT K H b [] ∧ Q (.bl xs.isEmpty) H
def rNeT0 (K : PySem.W.Frag) : R2 := fun x y H Q => ∃ l b xs, x = .ref l ∧ y = .ref b ∧ SqT K H l xs ∧ SqT K H b [] ∧ Q (.bl (!xs.isEmpty)) H
theorem all0 (n : Nat) (e : Nat → Bool) : ((List.range (min n 0)).all e && n == 0) = decide (n = 0) := by
  rw [Nat.min_zero]
  cases n <;> rfl
theorem isE {xs : List V} {its : List Value} (r : Vals xs its) : decide (its.toArray.size = 0) = xs.isEmpty := by
  cases r with
  | nil => rfl
  | cons _ _ => rfl
theorem op_eqT0 {X : Cx} (hu : X.A.units + 64 < cLine) : OpR X (compareOp .Eq) (rEqT0 X.K) := by
  intro pins s σ H x y v u Q I rx ry h
  obtain ⟨l, b, xs, rfl, rfl, hl, hb, q⟩ := h
  obtain rfl : v = Value.ref l := rx
  obtain rfl : u = Value.ref b := ry
  obtain ⟨its, r1, p1, _⟩ := I.tuple hl
  obtain ⟨it2, r2, p2, _⟩ := I.tuple hb
  cases r2
  refine SeqAt.RcAt.tuples (e := fun _ => true) p1 p2 (by omega) (fun j _ h2 => absurd h2 (by simp)) X.prog X.w X.xe _ ⟨.bl xs.isEmpty, H, I, ?_, q⟩
  show Value.bool _ = Value.bool _
  rw [← isE r1]
  exact congrArg Value.bool (all0 _ _)
theorem op_neT0 {X : Cx} (hu : X.A.units + 64 < cLine) : OpR X (compareOp .NotEq) (rNeT0 X.K) := by
  intro pins s σ H x y v u Q I rx ry h
  obtain ⟨l, b, xs, rfl, rfl, hl, hb, q⟩ := h
  obtain rfl : v = Value.ref l := rx
  obtain rfl : u = Value.ref b := ry
  obtain ⟨its, r1, p1, _⟩ := I.tuple hl
  obtain ⟨it2, r2, p2, _⟩ := I.tuple hb
  cases r2
  refine SeqAt.RcNeAt.tuples (e := fun _ => true) p1 p2 (by omega) (fun j _ h2 => absurd h2 (by simp)) X.prog X.w X.xe _ ⟨.bl (!xs.isEmpty), H, I, ?_, q⟩
  show Value.bool _ = Value.bool _
  rw [← isE r1]
  exact congrArg (fun z => Value.bool (!z)) (all0 _ _)
/-- zip of two tuples, of any lengths -/
theorem walk_zipT {K : PySem.W.Frag} {a b : Addr} {xs ys : List V} {n : Nat} (hn : n = min xs.length ys.length) : Walk (RZ.ItzT K a b) n (fun H => SqT K H a xs ∧ SqT K H b ys) (YPair (fun i => xs[i]?) (fun i => ys[i]?)) := by
  subst hn
  refine ⟨fun i _ hi q => ?_, fun _ ⟨q1, q2⟩ => ⟨xs, ys, q1, q2, (by omega)⟩, fun i H v H' _ ⟨q1, q2⟩ y => ?_⟩
  · obtain ⟨g1, g2⟩ := Nat.lt_min.mp hi
    exact ⟨xs, ys, xs[i], ys[i], q.1, q.2, List.getElem?_eq_getElem g1, List.getElem?_eq_getElem g2⟩
  · obtain ⟨T, x, z, t1, t2, t3, t4, t5⟩ := y
    exact ⟨T, x, z, t1, t2, t3, t4 _ q1, t5 _ q2⟩
end Kr

namespace Kr
open PySem PySem.Spec PyProof.Rows L2
def spMixed : Sp := fun vs H Q _ => ∃ (p l a : Addr) (ns : List Int), vs = [.ref p, .ref a] ∧ Deck H p l ∧ hid p l H a = some (.lst (ns.map V.int)) ∧ ns.length ≤ 1000 ∧
  ∀ (H' : Hp) (f : Addr) (ys : List Int), Deck H' p l → Ext p l H H' → hid p l H' f = some (.lst (ys.map V.int)) → ys.Perm ns → Q (.ref f) H'
theorem seqIx {r : Int} {n : Nat} (h0 : 0 ≤ r) (h1 : r < n) : seqIndex? r n = some r.toNat := (ixN_seq (by unfold ixN; rw [if_pos h0, if_pos h1])).1
theorem erase_perm (zs : List Int) {k : Nat} (h : k < zs.length) : (zs[k] :: zs.eraseIdx k).Perm zs := by
  rw [List.eraseIdx_eq_take_drop_succ]
  have e : zs = zs.take k ++ zs[k] :: zs.drop (k + 1) := by
    rw [← List.drop_eq_getElem_cons h, List.take_append_drop]
  exact List.perm_middle.symm.trans (.of_eq e.symm)
section
variable {P : Program} {w : World} {K : PySem.W.Frag} {mg : Str → Option Value} {base : Heap}
theorem scMixed : FnScope ["deck", "items", "left", "found"] ["deck", "items"] (defScope sMixed) := ⟨rfl, rfl, rfl, by decide +kernel, rfl, by decide +kernel, by decide +kernel⟩
theorem o_mixed (D : Df K mg "_law_mixed" sMixed ["deck", "items"]) (B : Bi mg) (d : Ok P w K mg base 1 "_law_draw" ["deck", "many"] spDraw) : Ok P w K mg base 2 "_law_mixed" ["deck", "items"] spMixed := by
  refine D.ok fun fa fd F => F.ok scMixed (fun vs H Q E h => ?_) (fun cdv A outer s H vs Q E hr h => ?_)
  · obtain ⟨p, l, a, ns, rfl, _⟩ := h
    rfl
  · obtain ⟨p, l, a, ns, rfl, Dk, ha, hlen, q⟩ := h
    have hu : (cxOf CX0 P w K mg base ["deck", "items", "left", "found"] "_law_mixed" (defScope sMixed) fa cdv A outer s H E).A.units + 64 < cLine := hr.units
    refine ⟨_, pss_cons (ps_par (i := 2) (j := 3) rfl scMixed.nd rfl rfl (by decide) rfl rfl (pa_cons (pe_callTy call_list_of (by rfl) B.list (by decide +kernel) (pa_cons (pv 1) pa_nil)) (pa_cons (pe_lst pa_nil) pa_nil)) (by rfl))
      (pss_cons (ps_while PassesOwn.never (pt_cmpR (op_neN hu) (pv 2) (pe_lst pa_nil) (nomark _))
        (pss_one (ps_expr (pe_bm PySem.F.plainAttrs_list PySem.F.slot_list_append PySem.F.type_list_append mt_append (pv 3) (pa_cons
          (pe_bm PySem.F.plainAttrs_list PySem.F.slot_list_pop PySem.F.type_list_pop mt_popAt (pv 2) (pa_cons (pe_fn d hr (by rfl) (pa_cons (pv 0) (pa_cons (pe_callB call_len_seq (by rfl) B.len boot_len (pa_cons (pv 2) pa_nil)) pa_nil))) pa_nil)) pa_nil)))))
      (pss_one (ps_ret (pv 3)))), ?_⟩
    refine ⟨.ref a, rfl, a, _, rfl, .inl (SqL.of (hid_same p l H _ _ ha)), fun lf nlf => ?_⟩
    obtain ⟨nlp, nll⟩ := Dk.new nlf
    obtain ⟨e1, D1, _⟩ := new_dq (o := .lst (ns.map V.int)) Dk nlf
    refine ⟨by show 0 ≤ sizeLine; decide, fun f nf => ?_⟩
    obtain ⟨nfp, nfl⟩ := D1.new nf
    have nff : f ≠ lf := fun z => by rw [z, upd_same] at nf; cases nf
    have nf0 : H f = none := by rw [upd_ne nff] at nf; exact nf
    obtain ⟨e2, D2, _⟩ := new_dq (o := .lst []) D1 nf
    refine ⟨_, _, rfl, ?_⟩
    refine while_by (fun σ H6 => ∃ (zs ys : List Int), σ = [some (.ref p), some (.ref a), some (.ref lf), some (.ref f)] ∧ Deck H6 p l ∧ Ext p l H H6 ∧ H6 lf = some (.lst (zs.map V.int)) ∧ H6 f = some (.lst (ys.map V.int)) ∧ (ys ++ zs).Perm ns)
      (fun σ H6 => match H6 lf with | some (.lst zs) => zs.length | _ => 0) ⟨ns, [], rfl, D2, e1.trans e2, by rw [upd_ne nff.symm, upd_same], upd_same, .refl _⟩ ?_ ?_
    · rintro σ H6 ⟨zs, ys, rfl, D6, E6, hz, hy, hp⟩
      have hll := hp.length_eq
      rw [List.length_append] at hll
      refine ⟨.ref lf, rfl, by show 0 ≤ sizeLine; decide, fun c nc => ?_⟩
      have ncl : c ≠ lf := (ne_of_none hz nc).symm
      have ncf : c ≠ f := (ne_of_none hy nc).symm
      obtain ⟨e7, D7, _⟩ := new_dq (o := .lst []) D6 nc
      have hz7 : upd H6 c (.lst []) lf = some (.lst (zs.map V.int)) := by rw [upd_ne ncl.symm]; exact hz
      have hy7 : upd H6 c (.lst []) f = some (.lst (ys.map V.int)) := by rw [upd_ne ncf.symm]; exact hy
      have E7 := E6.trans e7
      refine ⟨lf, c, zs.map V.int, rfl, rfl, hz7, upd_same, _, rfl, ?_⟩
      generalize upd H6 c (.lst []) = H7 at D7 E7 hz7 hy7
      cases zs with
      | nil => exact iteF ⟨.ref f, rfl, q H7 f ys D7 E7 (by rw [hid_ne nfp nfl]; exact hy7) (by rw [List.append_nil] at hp; exact hp)⟩
      | cons z0 zr =>
        refine iteT ?_
        generalize hzz : z0 :: zr = zs at hz7 hp hll hz
        have hpos : 0 < zs.length := by rw [← hzz]; simp
        refine ⟨.ref f, rfl, .inl ⟨rfl, _, SqL.of hy7⟩, .ref lf, rfl, .inl ⟨rfl, _, SqL.of hz7⟩, .ref p, rfl, .ref lf, rfl, lf, _, rfl, .inl (SqL.of hz7), p, l, _, rfl, D7, by rw [List.length_map]; omega, fun H8 r D8 E8 h0 h1 => ?_⟩
        rw [List.length_map] at h1
        have hr : r.toNat < zs.length := by omega
        have hz8 : H8 lf = some (.lst (zs.map V.int)) := (hid_some (E8 lf _ (by rw [hid_ne nlp nll]; exact hz7))).2.2
        have hy8 : H8 f = some (.lst (ys.map V.int)) := (hid_some (E8 f _ (by rw [hid_ne nfp nfl]; exact hy7))).2.2
        have E9 := E7.trans E8
        refine ⟨lf, zs.map V.int, r, r.toNat, .int zs[r.toNat], rfl, rfl, hz8, by omega, by omega, seqIx h0 (by rw [List.length_map]; omega), by rw [List.getElem?_map, List.getElem?_eq_getElem hr]; rfl, ?_⟩
        refine ⟨f, ys.map V.int, .int zs[r.toNat], rfl, rfl, by rw [upd_ne nff]; exact hy8, szl (by rw [List.length_map]; omega), ?_⟩
        refine ⟨⟨zs.eraseIdx r.toNat, ys ++ [zs[r.toNat]], rfl, (D8.mut nlp nll).mut nfp nfl, Ext.mut (Ext.mut E9 nlf) nf0, ?_, ?_, ?_⟩, ?_⟩
        · rw [upd_ne nff.symm, upd_same, List.eraseIdx_eq_take_drop_succ, List.eraseIdx_eq_take_drop_succ, List.map_append, List.map_take, List.map_drop]
        · rw [upd_same, List.map_append]
          rfl
        · rw [List.append_assoc]
          exact (List.Perm.append_left ys (erase_perm zs hr)).trans hp
        · show (match upd (upd H8 lf _) f _ lf with | some (.lst zs) => zs.length | _ => 0) < (match H6 lf with | some (.lst zs) => zs.length | _ => 0)
          rw [upd_ne nff.symm, upd_same, hz]
          show ((zs.map V.int).eraseIdx r.toNat).length < (zs.map V.int).length
          rw [List.length_eraseIdx, List.length_map, if_pos hr]
          omega
    · rintro σ H6 Q1 Q2 hq ⟨x, hx, hs, g⟩
      refine ⟨x, hx, hs, fun c nc => ?_⟩
      obtain ⟨l', b, xs, i1, i2, i3, i4, kk, i5, i6⟩ := g c nc
      exact ⟨l', b, xs, i1, i2, i3, i4, kk, i5, hq _ _ i6⟩
end
end Kr

namespace Kr
open PySem PySem.Spec PyProof.Rows L2
/-! ### numbers in texts -/
def cpl (x : Str) : List Nat := x.cps.toList
def dg (c : Nat) : Bool := decide (48 ≤ c) && decide (c ≤ 57)
/-- the number from 0 to 99 whose text this is -/
def numL : List Nat → Option Int
  | [c] => if dg c = true then some ((c : Int) - 48) else none
  | [c, d] => if (dg c && dg d && !decide (c = 48)) = true then some (((c : Int) - 48) * 10 + ((d : Int) - 48)) else none
  | _ => none
def numOf (x : Str) : Option Int := numL (cpl x)
theorem str_of_cpl {x y : Str} (h : cpl x = cpl y) : x = y := by
  cases x with
  | mk a =>
    cases y with
    | mk b => exact congrArg Str.mk (Array.toList_inj.mp h)
theorem cpl_one {x : Str} {c : Nat} (h : cpl x = [c]) : x = ⟨#[c]⟩ := str_of_cpl h
theorem cpl_two {x : Str} {c d : Nat} (h : cpl x = [c, d]) : x = ⟨#[c, d]⟩ := str_of_cpl h
theorem dig_tab : ∀ c : Fin 128, Unicode.isDigit c.val = dg c.val := by decide +kernel
theorem int_tab1 : ∀ c : Fin 10, PySem.intText? ⟨#[48 + c.val]⟩ = some (c.val : Int) := by decide +kernel
theorem int_tab2 : ∀ c d : Fin 10, PySem.intText? ⟨#[48 + c.val, 48 + d.val]⟩ = some (10 * (c.val : Int) + (d.val : Int)) := by decide +kernel
theorem str_tab1 : ∀ c : Fin 10, (Str.ofString (toString ((c.val : Nat) : Int))) = ⟨#[48 + c.val]⟩ := by decide +kernel
theorem str_tab2 : ∀ c d : Fin 10, c.val ≠ 0 → (Str.ofString (toString (10 * ((c.val : Nat) : Int) + ((d.val : Nat) : Int)))) = ⟨#[48 + c.val, 48 + d.val]⟩ := by decide +kernel
end Kr

namespace Kr
open PySem PySem.Spec PyProof.Rows L2
def numV : Option Int → V
  | some n => .int n
  | none => .non
def spNum : Sp := fun vs H Q _ => ∃ x : Str, vs = [.str x, .int 99] ∧ x.length ≤ 100000 ∧ Q (numV (numOf x)) H
theorem dg_of {c : Nat} (h : dg c = true) : ∃ k : Fin 10, c = 48 + k.val := by
  unfold dg at h
  rw [Bool.and_eq_true, decide_eq_true_eq, decide_eq_true_eq] at h
  exact ⟨⟨c - 48, by omega⟩, by show c = 48 + (c - 48); omega⟩
theorem numL_digits : ∀ {l : List Nat} {n : Int}, numL l = some n → l.length ≤ 2 ∧ 0 < l.length ∧ (∀ c ∈ l, dg c = true)
  | [], _, h => by cases h
  | [c], n, h => by
    have h' : (if dg c = true then some ((c : Int) - 48) else none) = some n := h
    by_cases hc : dg c = true
    · exact ⟨by simp, by simp, fun d hd => by rw [List.mem_singleton.mp hd]; exact hc⟩
    · rw [if_neg hc] at h'
      cases h'
  | [c, d], n, h => by
    have h' : (if (dg c && dg d && !decide (c = 48)) = true then some (((c : Int) - 48) * 10 + ((d : Int) - 48)) else none) = some n := h
    by_cases hc : (dg c && dg d && !decide (c = 48)) = true
    · rw [Bool.and_eq_true, Bool.and_eq_true] at hc
      refine ⟨by simp, by simp, fun e he => ?_⟩
      simp only [List.mem_cons, List.not_mem_nil, or_false] at he
      rcases he with rfl | rfl
      · exact hc.1.1
      · exact hc.1.2
    · rw [if_neg hc] at h'
      cases h'
  | _ :: _ :: _ :: _, _, h => by cases h
theorem digit_all {x : Str} (h1 : Txt.isascii x = true) (h2 : Txt.isdigit x = true) : 0 < (cpl x).length ∧ ∀ c ∈ cpl x, dg c = true := by
  unfold Txt.isascii at h1
  unfold Txt.isdigit at h2
  rw [Bool.and_eq_true, decide_eq_true_eq] at h2
  rw [Array.all_eq_true'] at h1
  have h3 := h2.2
  rw [Array.all_eq_true'] at h3
  refine ⟨by show 0 < x.cps.toList.length; rw [Array.length_toList]; exact h2.1, fun c hc => ?_⟩
  have hm : c ∈ x.cps := Array.mem_toList_iff.mp hc
  have l := of_decide_eq_true (h1 c hm)
  rw [← dig_tab ⟨c, l⟩]
  exact h3 c hm
theorem not_digit {x : Str} (h : Txt.isascii x = false ∨ Txt.isdigit x = false) : numOf x = none := by
  cases e : numOf x with
  | none => rfl
  | some n =>
    obtain ⟨h1, h2, h3⟩ := numL_digits e
    have ha : Txt.isascii x = true := by
      unfold Txt.isascii
      rw [Array.all_eq_true']
      intro c hc
      have := h3 c (Array.mem_toList_iff.mpr hc)
      obtain ⟨k, rfl⟩ := dg_of this
      exact decide_eq_true (by have := k.isLt; omega)
    have hd : Txt.isdigit x = true := by
      unfold Txt.isdigit
      rw [Bool.and_eq_true, decide_eq_true_eq]
      refine ⟨by have : (cpl x).length = x.length := Array.length_toList; omega, ?_⟩
      rw [Array.all_eq_true']
      intro c hc
      have := h3 c (Array.mem_toList_iff.mpr hc)
      obtain ⟨k, rfl⟩ := dg_of this
      have hk := k.isLt
      have := dig_tab ⟨48 + k.val, by omega⟩
      rw [this]
      exact h3 _ (Array.mem_toList_iff.mpr hc)
    rcases h with h | h
    · rw [ha] at h; cases h
    · rw [hd] at h; cases h
theorem log_small {n : Nat} (h : n ≤ 100) : n.log2 < 1920 := by
  by_cases h0 : n = 0
  · subst h0
    decide
  · rw [Nat.log2_lt h0]
    exact Nat.lt_of_le_of_lt h (by decide +kernel)
section
variable {P : Program} {w : World} {K : PySem.W.Frag} {mg : Str → Option Value} {base : Heap}
theorem scRN : FnScope ["text", "most", "number"] ["text", "most"] (defScope sReadNum) := ⟨rfl, rfl, rfl, by decide +kernel, rfl, by decide +kernel, by decide +kernel⟩
theorem o_readNum (D : Df K mg "read_number" sReadNum ["text", "most"]) (B : Bi mg) : Ok P w K mg base 1 "read_number" ["text", "most"] spNum := by
  refine D.ok fun f fd F => F.ok scRN (fun vs H Q E h => ?_) (fun cdv A outer s H vs Q E hr h => ?_)
  · obtain ⟨x, rfl, _⟩ := h
    rfl
  · obtain ⟨x, rfl, hx, q⟩ := h
    refine ⟨_, pss_cons (ps_if (PW.pt (pw_or (pt_cmpR op_gt (pe_callB call_len_str (by rfl) B.len boot_len (pa_cons (pv 0) pa_nil)) (pe_callB call_len_str (by rfl) B.len boot_len (pa_cons (pe_callTy call_str_int (by rfl) B.str (by decide +kernel) (pa_cons (pv 1) pa_nil)) pa_nil)) (nomark _))
        (pw_or (pt_not (pt_val (pe_bm0 PySem.F.plainAttrs_str PySem.F.slot_str_isascii PySem.F.type_str_isascii mt_isascii (pv 0)))) (pw_or1 (pt_not (pt_val (pe_bm0 PySem.F.plainAttrs_str PySem.F.slot_str_isdigit PySem.F.type_str_isdigit mt_isdigit (pv 0)))))))) (pss_one (ps_ret pe_non)) pss_nil)
      (pss_cons (ps_set (i := 2) scRN.nd rfl (.inl rfl) (pe_callTy call_int_str (by rfl) B.int (by decide +kernel) (pa_cons (pv 0) pa_nil)))
      (pss_cons (ps_if (PW.pt (pw_or (pt_cmpR op_gt (pv 2) (pv 1) (nomark _)) (pw_or1 (pt_cmpR op_ne (pe_callTy call_str_int (by rfl) B.str (by decide +kernel) (pa_cons (pv 2) pa_nil)) (pv 0) (nomark _))))) (pss_one (ps_ret pe_non)) pss_nil)
      (pss_one (ps_ret (pv 2))))), ?_⟩
    refine ⟨.str x, rfl, x, rfl, sz hx, .int 99, rfl, 99, rfl, by decide +kernel, _, rfl, by decide +kernel, _, _, rfl, rfl, _, rfl, ite2 (fun c => ?_) (fun c => ?_)⟩
    · have e0 : numOf x = none := by
        cases e : numOf x with
        | none => rfl
        | some n =>
          have h1 := (numL_digits e).1
          have h2 : (cpl x).length = x.length := Array.length_toList
          have h3 := of_decide_eq_true c
          have h4 : ((Str.ofString (toString (99 : Int))).length : Int) = 2 := by decide +kernel
          rw [h4] at h3
          omega
      rw [e0] at q
      exact q
    · have hx2 : x.length ≤ 2 := by
        by_cases g : x.length ≤ 2
        · exact g
        · have h4 : ((Str.ofString (toString (99 : Int))).length : Int) = 2 := by decide +kernel
          exact absurd (decide_eq_true (by rw [h4]; omega)) c
      refine ⟨.str x, rfl, rfl, x, rfl, rfl, trivial, _, rfl, ?_⟩
      by_cases ha : Txt.isascii x = true
      · rw [ha]
        refine iteF ⟨.str x, rfl, rfl, x, rfl, rfl, trivial, _, rfl, ?_⟩
        by_cases hd : Txt.isdigit x = true
        · rw [hd]
          refine iteF ?_
          obtain ⟨g1, g2⟩ := digit_all ha hd
          have hl : (cpl x).length = x.length := Array.length_toList
          have hcase : (∃ k : Fin 10, cpl x = [48 + k.val]) ∨ ∃ k j : Fin 10, cpl x = [48 + k.val, 48 + j.val] := by
            match hh : cpl x, g1, g2 with
            | [c], _, g2 =>
              obtain ⟨k, rfl⟩ := dg_of (g2 c List.mem_cons_self)
              exact .inl ⟨k, rfl⟩
            | [c, d], _, g2 =>
              obtain ⟨k, rfl⟩ := dg_of (g2 c List.mem_cons_self)
              obtain ⟨j, rfl⟩ := dg_of (g2 d (by simp))
              exact .inr ⟨k, j, rfl⟩
            | _ :: _ :: _ :: _, _, _ => rw [hh] at hl; simp at hl; omega
          rcases hcase with ⟨k, hk⟩ | ⟨k, j, hk⟩
          · obtain rfl := cpl_one hk
            have e0 : numOf ⟨#[48 + k.val]⟩ = some (k.val : Int) := by
              show (if dg (48 + k.val) = true then some (((48 + k.val : Nat) : Int) - 48) else none) = _
              rw [if_pos (g2 _ (by rw [hk]; exact List.mem_cons_self))]
              congr 1
              omega
            rw [e0] at q
            have hkl := k.isLt
            refine ⟨.str _, rfl, _, (k.val : Int), rfl, int_tab1 k, by show 1 ≤ 640; decide, ?_⟩
            refine ⟨.int (k.val : Int), rfl, .int 99, rfl, _, _, rfl, rfl, _, rfl, ?_⟩
            rw [decide_eq_false (show ¬ ((k.val : Int) > 99) by omega)]
            refine iteF ⟨.int (k.val : Int), rfl, _, rfl, log_small (by omega), .str _, rfl, rfl, _, rfl, ?_⟩
            rw [str_tab1 k]
            exact iteNS rfl ⟨_, rfl, q⟩
          · obtain rfl := cpl_two hk
            have hkl := k.isLt
            have hjl := j.isLt
            have e1 : numOf ⟨#[48 + k.val, 48 + j.val]⟩ = if k.val = 0 then none else some (10 * (k.val : Int) + (j.val : Int)) := by
              show (if (dg (48 + k.val) && dg (48 + j.val) && !decide (48 + k.val = 48)) = true then some ((((48 + k.val : Nat) : Int) - 48) * 10 + (((48 + j.val : Nat) : Int) - 48)) else none) = _
              rw [g2 (48 + k.val) (by rw [hk]; exact List.mem_cons_self), g2 (48 + j.val) (by rw [hk]; simp)]
              by_cases h0 : k.val = 0
              · rw [if_pos h0, if_neg]
                simp [h0]
              · rw [if_neg h0, if_pos]
                · congr 1
                  omega
                · simp [h0]
            rw [e1] at q
            refine ⟨.str _, rfl, _, 10 * (k.val : Int) + (j.val : Int), rfl, int_tab2 k j, by show 2 ≤ 640; decide, ?_⟩
            refine ⟨.int (10 * (k.val : Int) + (j.val : Int)), rfl, .int 99, rfl, _, _, rfl, rfl, _, rfl, ?_⟩
            rw [decide_eq_false (show ¬ (10 * (k.val : Int) + (j.val : Int) > 99) by omega)]
            refine iteF ⟨.int (10 * (k.val : Int) + (j.val : Int)), rfl, _, rfl, log_small (by omega), .str _, rfl, rfl, _, rfl, ?_⟩
            by_cases h0 : k.val = 0
            · rw [if_pos h0] at q
              have e2 : (10 * (k.val : Int) + (j.val : Int)) = (j.val : Int) := by omega
              rw [e2, str_tab1 j, decide_eq_false (by
                intro z
                have := congrArg (fun v => match v with | V.str s => s.cps.size | _ => 0) z
                exact absurd (show (1 : Nat) = 2 from this) (by decide))]
              exact iteT q
            · rw [if_neg h0] at q
              rw [str_tab2 k j h0]
              exact iteNS rfl ⟨_, rfl, q⟩
        · rw [Bool.eq_false_iff.mpr hd]
          rw [not_digit (.inr (Bool.eq_false_iff.mpr hd))] at q
          exact iteT q
      · rw [Bool.eq_false_iff.mpr ha]
        rw [not_digit (.inl (Bool.eq_false_iff.mpr ha))] at q
        exact iteT (iteT q)
end
end Kr

namespace Kr
open PySem PySem.Spec PyProof.Rows L2
/-! ### texts of standings -/
def nt (z : Int) : Str := Str.ofString (toString z)
def txt (ss : List Int) : Str := Txt.join " " (ss.map nt)
def spText : Sp := fun vs H Q _ => ∃ (st : Addr) (ss : List Int), vs = [.ref st] ∧ H st = some (.tup (ss.map V.int)) ∧ ss.length ≤ 1000 ∧ (∀ z ∈ ss, 0 ≤ z ∧ z ≤ 99) ∧ ∀ H', Same H H' → Q (.str (txt ss)) H'
theorem mem_map_int {lot : List Int} {j : Nat} {x : V} (h : (lot.map V.int)[j]? = some x) : ∃ z, lot[j]? = some z ∧ z ∈ lot ∧ x = V.int z := by
  rw [List.getElem?_map] at h
  cases g : lot[j]? with
  | none => rw [g] at h; cases h
  | some u =>
    rw [g] at h
    exact ⟨u, rfl, List.mem_of_getElem? g, (Option.some.inj h).symm⟩
theorem sum_len : ∀ {ys : List Str}, (∀ y ∈ ys, y.length ≤ 2) → (ys.map (·.length)).sum ≤ 2 * ys.length
  | [], _ => Nat.le_refl _
  | y :: ys, h => by
    have := sum_len fun z hz => h z (List.mem_cons_of_mem _ hz)
    have h1 := h y List.mem_cons_self
    simp only [List.map_cons, List.sum_cons, List.length_cons]
    omega
theorem nt_tab : ∀ k : _root_.Fin 100, (nt (k.val : Int)).length ≤ 2 ∧ numOf (nt (k.val : Int)) = some (k.val : Int) := by decide +kernel
theorem nt_len {z : Int} (h0 : 0 ≤ z) (h1 : z ≤ 99) : (nt z).length ≤ 2 := by
  have := (nt_tab ⟨z.toNat, by omega⟩).1
  rw [show ((z.toNat : Nat) : Int) = z by omega] at this
  exact this
theorem nt_num {z : Int} (h0 : 0 ≤ z) (h1 : z ≤ 99) : numOf (nt z) = some z := by
  have := (nt_tab ⟨z.toNat, by omega⟩).2
  rw [show ((z.toNat : Nat) : Int) = z by omega] at this
  exact this
theorem num_nt {x : Str} {n : Int} (h : numOf x = some n) : x = nt n ∧ 0 ≤ n ∧ n ≤ 99 := by
  obtain ⟨g1, g2, g3⟩ := numL_digits h
  match hh : cpl x, g1, g2, g3 with
  | [c], _, _, g3 =>
    obtain ⟨k, rfl⟩ := dg_of (g3 c List.mem_cons_self)
    have hk := k.isLt
    obtain rfl := cpl_one hh
    have h' : (if dg (48 + k.val) = true then some (((48 + k.val : Nat) : Int) - 48) else none) = some n := h
    rw [if_pos (g3 _ List.mem_cons_self)] at h'
    have e := Option.some.inj h'
    have e2 : n = (k.val : Int) := by omega
    subst e2
    exact ⟨(str_tab1 k).symm, by omega, by omega⟩
  | [c, d], _, _, g3 =>
    obtain ⟨k, rfl⟩ := dg_of (g3 c List.mem_cons_self)
    obtain ⟨j, rfl⟩ := dg_of (g3 d (by simp))
    have hk := k.isLt
    have hj := j.isLt
    obtain rfl := cpl_two hh
    have h' : (if (dg (48 + k.val) && dg (48 + j.val) && !decide (48 + k.val = 48)) = true then some ((((48 + k.val : Nat) : Int) - 48) * 10 + (((48 + j.val : Nat) : Int) - 48)) else none) = some n := h
    by_cases h0 : k.val = 0
    · have hc : ¬ (dg (48 + k.val) && dg (48 + j.val) && !decide (48 + k.val = 48)) = true := by simp [h0]
      rw [if_neg hc] at h'
      cases h'
    · have hc : (dg (48 + k.val) && dg (48 + j.val) && !decide (48 + k.val = 48)) = true := by
        rw [g3 (48 + k.val) List.mem_cons_self, g3 (48 + j.val) (List.mem_cons_of_mem _ List.mem_cons_self), decide_eq_false (by omega)]
        rfl
      rw [if_pos hc] at h'
      have e := Option.some.inj h'
      have e2 : n = 10 * (k.val : Int) + (j.val : Int) := by omega
      subst e2
      exact ⟨(str_tab2 k j h0).symm, by omega, by omega⟩
  | _ :: _ :: _ :: _, g1, _, _ => simp at g1
section
variable {P : Program} {w : World} {K : PySem.W.Frag} {mg : Str → Option Value} {base : Heap}
theorem scTx : FnScope ["standing", "item"] ["standing"] (defScope sText) := ⟨rfl, rfl, rfl, by decide +kernel, rfl, by decide +kernel, by decide +kernel⟩
theorem f_text {f : Addr} {fd : FuncData} (F : Fun K "standing_text" "standing_text" sText f fd) (B : Bi mg) : FnOk P w K mg base CX0 1 f fd ["standing"] spText := by
  refine F.ok scTx (fun vs H Q E h => ?_) (fun cdv A outer s H vs Q E hr h => ?_)
  · obtain ⟨st, ss, rfl, _⟩ := h
    rfl
  · obtain ⟨st, ss, rfl, hst, hl, hb, q⟩ := h
    refine ⟨_, pss_one (ps_ret (pe_join pe_str (pe_lc (own := [("item", 1)]) (g := gName 1) rfl scTx.nd (pi_tup (pv 0)) (blkOk_by (own := [("item", 1)]) (N := ["standing", "item"]) (sc := defScope sText) (by decide +kernel)) (fun _ _ _ _ _ => pg_name (i := 1) scTx.nd rfl (.inl rfl)) (fun _ _ _ _ _ => pts_nil)
      (fun _ _ _ _ _ => pe_callTy call_str_int (by rfl) B.str (by decide +kernel) (pa_cons (pv 1) pa_nil))))), ?_⟩
    refine ⟨⟨_, rfl⟩, .ref st, rfl, st, rfl, ⟨_, SqT.of hst⟩, fun Da nDa => lc_tup (K := K) (xs := ss.map V.int) (fun i G => ∃ ws : List Str, G Da = some (.lst (ws.map V.str)) ∧ Same H G ∧ ws = (ss.take i).map nt)
      ⟨[], upd_same, same_new nDa, rfl⟩ (fun i G _ ⟨_, _, sm, _⟩ => SqT.of (sm _ _ hst)) ?_ ?_⟩
    · rintro j _ G hx ⟨ws, hDa, sm, rfl⟩
      obtain ⟨z, hz, hzm, rfl⟩ := mem_map_int hx
      have hzb := hb z hzm
      have hjl := (List.getElem?_eq_some_iff.mp hz).1
      refine ⟨rfl, ?_⟩
      dsimp only [tYes]
      rw [if_pos rfl]
      refine ⟨.int z, rfl, z, rfl, log_small (by omega), _, hDa, szl (by rw [List.length_map, List.length_map, List.length_take]; omega), (ss.take (j + 1)).map nt, ?_, fun b o hb' => ?_, rfl⟩
      · rw [upd_same, List.take_add_one, hz, List.map_append, List.map_append]
        rfl
      · rw [upd_ne (ne_of_none hb' nDa)]
        exact sm _ _ hb'
    · rintro G ⟨ws, hDa, sm, rfl⟩
      rw [List.length_map, List.take_length] at hDa
      refine ⟨_, Da, _, rfl, rfl, .inl (SqL.of hDa), ?_, q _ sm⟩
      have h2 := sum_len (ys := ss.map nt) fun y hy => by
        obtain ⟨z, hz, rfl⟩ := List.mem_map.mp hy
        have := hb z hz
        exact nt_len this.1 this.2
      have h1 : (" " : Str).length = 1 := by decide
      rw [h1]
      rw [List.length_map] at h2 ⊢
      omega
end
end Kr

namespace Kr
open PySem PySem.Spec PyProof.Rows L2 TL
theorem pmk_own0 {X : Cx} {C : Addr} {bmB : List Value} {B newId initId : String} {x : Str} {p pos : Pos} (F : ExcBaseFacts B newId initId bmB) (q : PySem.W.excIn X.K C bmB newId = true) (gC : X.mg x = some (.ref C)) (kC : PySem.W.keepIn X.K (.ref C) = true) (r : Raises X (.ref C)) (hg : Gl X x)
    (hdb : (x == ("__debug__" : Str)) = false := by decide) : PMk X (.Call (.Name x p) [] [] pos) (fun _ H Q => Q (.ref C) none H) := by
  intro pins s σ H Q I h
  refine wpAny_Call_Name_kw (ld_glob I hg gC (PySem.W.callWith_K0 I.kIn kC ?_) hdb)
  obtain ⟨bm, N, nm, qn, bs, hdct, sn, sub, ab, col, dd, k0, k1, k2, k3, k5, mN, hC, hN, hni, T⟩ := exc_obj I.kIn q
  exact wpAny_call_exc_subT F T hC hN hni (fun h' e hm => mk_of I hm r h (I.hok.gone hm.new)) (Nat.zero_le _)
def isNo : PyData → Bool
  | .none => true
  | _ => false
theorem Dq.no {H : Hp} {v : V} {d : PyData} (h : Dq H v d) : decide (v = .non) = isNo d := by
  cases h <;> simp [isNo]
def nd : Option Int → PyData
  | some n => .int n
  | none => .none
def rd (x : Str) : List PyData := (Txt.split x " ").map fun w => nd (numOf w)
def readOf (n : Int) : PyData → Option (List Int)
  | .str x => if isNo (standErr n (.tuple (rd x))) = true then some ((rd x).map iv) else none
  | _ => none
def isSt : PyData → Bool
  | .str _ => true
  | _ => false
theorem kit_str {K : PySem.W.Frag} : ∀ d : PyData, PySem.W.kitOne K (.type (tyN d)) (.type "str") = some (isSt d)
  | .none => kit_ty (show kitB "NoneType" "str" = some false by decide +kernel)
  | .bool _ => kit_ty (show kitB "bool" "str" = some false by decide +kernel)
  | .int _ => kit_ty (show kitB "int" "str" = some false by decide +kernel)
  | .str _ => kit_ty (show kitB "str" "str" = some true by decide +kernel)
  | .list _ => kit_ty (show kitB "list" "str" = some false by decide +kernel)
  | .tuple _ => kit_ty (show kitB "tuple" "str" = some false by decide +kernel)
  | .dict _ => kit_ty (show kitB "dict" "str" = some false by decide +kernel)
/-- what is known of the class BadText -/
structure Bad (K : PySem.W.Frag) (mg : Str → Option Value) (C : Addr) : Prop where
  x : PySem.W.excIn K C [.type "ValueError", .type "Exception", .type "BaseException", .type "object"] "ValueError.__new__" = true
  g : mg "BadText" = some (.ref C)
  k : PySem.W.keepIn K (.ref C) = true
  b : PySem.W.subIn K (.ref C) (.type "BaseException") = some true
  t : PySem.W.typeIn K (.ref C) = some (.type "type")
def spRead (C : Addr) : Sp := fun vs H Q E => ∃ (n : Int) (v : V) (d : PyData), vs = [.int n, v] ∧ Dq H v d ∧ (∀ x, d = .str x → x.length ≤ 30000) ∧
  (∀ ss, readOf n d = some ss → ∀ H' t, Same H H' → H' t = some (.tup (ss.map V.int)) → Q (.ref t) H') ∧ (readOf n d = none → ∀ H', Same H H' → E (.ref C) none H')
theorem spl_bd (S : List Nat) : ∀ (l : List Nat) (k : Nat) (acc : List Nat), (∀ p ∈ spl S k acc l, p.length ≤ acc.length + l.length) ∧ (spl S k acc l).length ≤ l.length + 1
  | [], k, acc => by
    rw [spl_nil]
    exact ⟨fun p hp => by rw [List.mem_singleton.mp hp]; exact Nat.le_refl _, Nat.le_refl _⟩
  | c :: r, 0, acc => by
    unfold spl
    split
    · obtain ⟨h1, h2⟩ := spl_bd S r (S.length - 1) []
      refine ⟨fun p hp => ?_, by rw [List.length_cons, List.length_cons]; omega⟩
      rcases List.mem_cons.mp hp with hp | hp
      · rw [hp]; omega
      · have := h1 p hp
        rw [List.length_nil] at this
        rw [List.length_cons]
        omega
    · obtain ⟨h1, h2⟩ := spl_bd S r 0 (acc ++ [c])
      refine ⟨fun p hp => ?_, by rw [List.length_cons]; omega⟩
      have := h1 p hp
      rw [List.length_append] at this
      rw [List.length_cons]
      have : [c].length = 1 := rfl
      omega
  | c :: r, k + 1, acc => by
    unfold spl
    obtain ⟨h1, h2⟩ := spl_bd S r k acc
    refine ⟨fun p hp => ?_, by rw [List.length_cons]; omega⟩
    have := h1 p hp
    rw [List.length_cons]
    omega
theorem split_bd (x : Str) : (∀ w ∈ Txt.split x " ", w.length ≤ x.length) ∧ (Txt.split x " ").length ≤ x.length + 1 := by
  have e := split_spl x " " (by decide) (kind_ok (by decide +kernel))
  obtain ⟨h1, h2⟩ := spl_bd (tl " ") (tl x) 0 []
  rw [← e] at h1 h2
  rw [List.length_map] at h2
  refine ⟨fun w hw => ?_, by rw [len_tl x]; exact h2⟩
  have := h1 (tl w) (List.mem_map_of_mem hw)
  rw [List.length_nil, Nat.zero_add] at this
  rw [len_tl w, len_tl x]
  exact this
theorem dq_numV {H : Hp} (o : Option Int) : Dq H (numV o) (nd o) := by
  cases o with
  | none => exact .non
  | some n => exact .int n
theorem dqa_nums {H : Hp} : ∀ ws : List Str, DqA H (ws.map fun w => numV (numOf w)) (ws.map fun w => nd (numOf w))
  | [] => .nil
  | w :: ws => .cons (dq_numV _) (dqa_nums ws)
/-- an error-free tuple holds whole numbers from 0 to 99 -/
theorem itGo_ok {k : PyData} : ∀ {i : Nat} {ds : List PyData}, isNo (itGo k i ds) = true → ∀ d ∈ ds, isB d 0 99 = true
  | _, [], _, _, h => nomatch h
  | i, x :: r, h, d, hd => by
    have h' : isNo (if isB x 0 99 = true then itGo k (i + 1) r else eItem i) = true := h
    by_cases hb : isB x 0 99 = true
    · rw [if_pos hb] at h'
      rcases List.mem_cons.mp hd with hd | hd
      · rw [hd]; exact hb
      · exact itGo_ok h' d hd
    · rw [if_neg hb] at h'
      cases h'
theorem standErr_ok {n : Int} {ds : List PyData} (h : isNo (standErr n (.tuple ds)) = true) : (ds.length : Int) = n ∧ ∀ d ∈ ds, isB d 0 99 = true := by
  have h' : isNo (if (ds.length : Int) = n then standGo ds else eForm) = true := h
  by_cases hl : (ds.length : Int) = n
  · rw [if_pos hl] at h'
    exact ⟨hl, itGo_ok h'⟩
  · rw [if_neg hl] at h'
    cases h'
theorem nums_ints : ∀ {ws : List Str}, (∀ d ∈ ws.map (fun w => nd (numOf w)), isB d 0 99 = true) → (ws.map fun w => numV (numOf w)) = ((ws.map fun w => nd (numOf w)).map iv).map V.int
  | [], _ => rfl
  | w :: ws, h => by
    have h1 := h (nd (numOf w)) List.mem_cons_self
    rw [List.map_cons, List.map_cons, List.map_cons, List.map_cons, ← nums_ints fun d hd => h d (List.mem_cons_of_mem _ hd)]
    cases e : numOf w with
    | none =>
      rw [e] at h1
      cases h1
    | some n => rfl
abbrev nRd : List Str := ["n", "value", "standing", "word"]
section
variable {P : Program} {w : World} {K : PySem.W.Frag} {mg : Str → Option Value} {base : Heap} {C : Addr}
theorem scRd : FnScope nRd ["n", "value"] (defScope sRead) := ⟨rfl, rfl, rfl, by decide +kernel, rfl, by decide +kernel, by decide +kernel⟩
theorem f_read {f : Addr} {fd : FuncData} (F : Fun K "read_standing" "read_standing" sRead f fd) (B : Bi mg) (T : Bad K mg C) (hM : ∃ t, mg "MAX_RIDER" = some (.int 99 t)) (rn : Ok P w K mg base 1 "read_number" ["text", "most"] spNum) (se : Ok P w K mg base 2 "standing_error" ["n", "value"] (spErr standErr)) :
    FnOk P w K mg base (L2.CX P w) 3 f fd ["n", "value"] (spRead C) := by
  obtain ⟨tM, gM⟩ := hM
  refine F.okX scRd (fun vs H Q E h => ?_) (fun cdv A outer s H vs Q E hr h => ?_)
  · obtain ⟨n, v, d, rfl, _⟩ := h
    rfl
  · obtain ⟨n, v, d, rfl, hd, hx, q, qx⟩ := h
    have hr1 := hr.mono (show 1 ≤ 2 by decide)
    refine ⟨_, pss_cons (ps_if (pt_not (pt_val (pe_callB call_isi (by rfl) B.isinstance (by decide +kernel) (pa_cons (pv 1) (pa_cons (pe_bltn (v := .ty "str") (by rfl) B.str (by decide +kernel) rfl) pa_nil)))))
        (pss_one (ps_raise rfl (takes_of rfl rfl rfl rfl) (pmk_own0 PySem.F.excBase_ValueError T.x T.g T.k (raises_own T.b T.t) rfl))) pss_nil)
      (pss_cons (ps_set (i := 2) scRd.nd rfl (.inl rfl) (pe_callTy call_tuple_of (by rfl) B.tuple (by decide +kernel) (pa_cons
          (pe_lc (own := [("word", 3)]) (g := gName 3) rfl scRd.nd (pi_list (pe_split (pv 1) pe_str)) (blkOk_by (own := [("word", 3)]) (N := nRd) (sc := defScope sRead) (by decide +kernel)) (fun _ _ _ _ _ => pg_name (i := 3) scRd.nd rfl (.inl rfl)) (fun _ _ _ _ _ => pts_nil)
            (fun _ _ _ _ _ => pe_fn rn hr1 (by rfl) (pa_cons (pv 3) (pa_cons (pe_glob (v := .int 99) (by rfl) gM ⟨_, rfl⟩) pa_nil)))) pa_nil)))
      (pss_cons (ps_if (pt_cmpR op_notN (pe_fn se hr (by rfl) (pa_cons (pv 0) (pa_cons (pv 2) pa_nil))) pe_non (nomark _))
        (pss_one (ps_raise rfl (takes_of rfl rfl rfl rfl) (pmk_own0 PySem.F.excBase_ValueError T.x T.g T.k (raises_own T.b T.t) rfl))) pss_nil)
      (pss_one (ps_ret (pv 2))))), ?_⟩
    refine ⟨v, rfl, v, .ty "str", _, _, isSt d, rfl, .ty "str", hd.ty, kit_str d, isSt d, rfl, ?_⟩
    by_cases ht : isSt d = true
    · rw [ht]
      refine iteF ?_
      cases hd with
      | str x =>
        have hxl := hx x rfl
        obtain ⟨b1, b2⟩ := split_bd x
        refine ⟨.str x, rfl, ⟨_, rfl⟩, x, " ", rfl, rfl, rfl, Nat.le_trans (show x.length + 2 ≤ 100000 by omega) (by decide), fun p np => ⟨p, rfl, ⟨_, SqL.of upd_same⟩, fun Da nDa => ?_⟩⟩
        have s1 : Same H (upd H p (.lst ((Txt.split x " ").map V.str))) := same_new np
        have hp1 : upd H p (.lst ((Txt.split x " ").map V.str)) p = some (.lst ((Txt.split x " ").map V.str)) := upd_same
        generalize upd H p (.lst ((Txt.split x " ").map V.str)) = H1 at s1 hp1 nDa
        refine lc_list (K := K) (xs := (Txt.split x " ").map V.str) (fun i G => G Da = some (.lst (((Txt.split x " ").take i).map fun w => numV (numOf w))) ∧ Same H1 G) ⟨upd_same, same_new nDa⟩ (fun i G _ ⟨_, sm⟩ => SqL.of (sm _ _ hp1)) ?_ ?_
        · rintro j _ G hx1 ⟨hDa, sm⟩
          rw [List.getElem?_map] at hx1
          cases hw : (Txt.split x " ")[j]? with
          | none => rw [hw] at hx1; cases hx1
          | some wd =>
            rw [hw] at hx1
            cases Option.some.inj hx1
            have hjl := (List.getElem?_eq_some_iff.mp hw).1
            refine ⟨rfl, ?_⟩
            dsimp only [tYes]
            rw [if_pos rfl]
            refine ⟨.str wd, rfl, wd, rfl, by have := b1 wd (List.mem_of_getElem? hw); omega, _, hDa, szl (by rw [List.length_map, List.length_take]; omega), ?_, fun b o hb' => ?_⟩
            · rw [upd_same, List.take_add_one, hw, List.map_append]
              rfl
            · rw [upd_ne (ne_of_none hb' nDa)]
              exact sm _ _ hb'
        · rintro G ⟨hDa, sm⟩
          rw [List.length_map, List.take_length] at hDa
          refine ⟨Da, _, rfl, .inl ⟨SqL.of hDa, fun t nt => ?_⟩⟩
          have s2 : Same H (upd G t (.tup ((Txt.split x " ").map fun w => numV (numOf w)))) := (s1.trans sm).trans (same_new nt)
          have ht2 : upd G t (.tup ((Txt.split x " ").map fun w => numV (numOf w))) t = _ := upd_same
          generalize upd G t (.tup ((Txt.split x " ").map fun w => numV (numOf w))) = H2 at s2 ht2
          refine ⟨.int n, rfl, .ref t, rfl, n, .ref t, .tuple (rd x), rfl, .tup ht2 (dqa_nums _), fun H3 r s3 hr3 => ⟨rfl, _, rfl, ?_⟩⟩
          rw [hr3.no]
          by_cases hn : isNo (standErr n (.tuple (rd x))) = true
          · rw [hn]
            refine iteF ⟨.ref t, rfl, ?_⟩
            have e0 : readOf n (.str x) = some ((rd x).map iv) := if_pos hn
            refine q _ e0 H3 t (s2.trans s3) ?_
            rw [s3 _ _ ht2, nums_ints (standErr_ok hn).2]
            rfl
          · rw [Bool.eq_false_iff.mpr hn]
            exact iteT (qx (if_neg hn) _ (s2.trans s3))
      | _ => cases ht
    · rw [Bool.eq_false_iff.mpr ht]
      have e0 : readOf n d = none := by cases d <;> first | rfl | exact absurd rfl ht
      exact iteT (qx e0 _ (Same.refl _))
end
end Kr

namespace Kr
open PySem PySem.Spec PyProof.Rows L2
section
variable {X : Cx} {CX : CXT} {k : Nat} {f : Addr} {fd : FuncData} {ps ks : List Str} {sp : Sp} {E : L2.St → XK} {x : Str} {p pos : Pos} {kws : List Keyword} {tk : TA} {g : List Value → List Value → List Value} {gV : List V → List V → List V}
/-- f(k = v, ..), names alone, of a def that may raise -/
def tCallNS (m : Nat) (sp : Sp) (gV : List V → List V → List V) (E : L2.St → XK) (tk : TA) : TE := fun σ H Q => tk σ H fun zs H1 => zs.length = m ∧ sp (gV [] zs) H1 Q (E σ)
theorem pe_callNS (F : FnOk X.prog X.w X.K X.mg X.base CX k f fd ps sp) (hr : Room k X.A) (hg : Gl X x) (hm : X.mg x = some (.ref f)) (hk : PySem.W.keepIn X.K (.ref f) = true) (hb : KBn X.K fd ps 0 ks g gV) (hx : ∀ σ, PassesAt CX X σ (E σ)) (hkw : PK X kws tk)
    (hall : (backToKw pos (keywordEach kws X.env)).all (·.1.isSome) = true := by rfl) (hks : (backToKw pos (keywordEach kws X.env)).filterMap (·.1) = ks := by rfl) (hdb : (x == ("__debug__" : Str)) = false := by decide)
    (hpl : ((backTo pos (starEach [] X.env)).any (·.1) || (backToKw pos (keywordEach kws X.env)).any (·.1.isNone)) = false := by rfl) :
    PE X (.Call (.Name x p) [] kws pos) (tCallNS ks.length sp gV E tk) := by
  refine ⟨fun pins s σ H Q I h => wpAny_Call_Name_kw (ld_glob I hg hm ?_ hdb)⟩
  refine PySem.W.callWith_KW0 (h₀ := X.base) I.ok.mod.kin hk hall ?_ hpl
  refine thn (hkw.run pos pins s σ H _ I h) fun ws s2 ⟨zs, H2, I2, rz, l2, q2⟩ => ⟨I2.kIn, ?_⟩
  rw [hks]
  refine wpAny_call (codeAny_mono (F.run X.A X.stack s2 H2 ⟨[], ks.zip ws⟩ (g [] ws) (gV [] zs) _ (E σ) hr I2.env0 (hb.to s2 [] ws I2.kIn rfl (rz.length.symm.trans l2)) (hb.rel .nil rz) q2) fun r s' hq => ?_)
  cases r with
  | error e => exact hx σ pins _ _ e s' I2 hq
  | ok fl =>
    cases fl with
    | ret u => exact I2.after hq
    | next => exact hq.elim
    | brk => exact hq.elim
    | cont => exact hq.elim
end
/-- a block that wants to be told something first -/
theorem pss_told {X : Cx} {b : List Stmt} {t : TS} {A : Prop} (h : A → PSs X b t) : PSs X b (fun D σ H => A ∧ t D σ H) := ⟨fun pins s σ H D I ⟨a, q⟩ => (h a).run pins s σ H D I q⟩
def toldOf (n : Int) (d : PyData) : PyData := match readOf n d with
  | some ss => .list [.str "told", .tuple (ss.map .int)]
  | none => .list [.str "refused", .bool true]
def spTold : Sp := fun vs H Q _ => ∃ (n : Int) (v : V) (d : PyData) (k : Bool), vs = [.int n, v, .bl k] ∧ Dq H v d ∧ (∀ x, d = .str x → x.length ≤ 30000) ∧ ∀ H' r, Same H H' → Dq H' r (toldOf n d) → Q r H'
abbrev nTo : List Str := ["many", "value", "is_named", "slip"]
section
variable {P : Program} {w : World} {K : PySem.W.Frag} {mg : Str → Option Value} {base : Heap} {C R : Addr}
theorem scTo : FnScope nTo ["many", "value", "is_named"] (defScope sTold) := ⟨rfl, rfl, rfl, by decide +kernel, rfl, by decide +kernel, by decide +kernel⟩
theorem o_told (D : Df K mg "_law_told" sTold ["many", "value", "is_named"]) (B : Bi mg) (T : Bad K mg C) (eC : ExcC K C) (eX : PySem.W.exmOne K (.ref C) (.ref C) = some true) (gR : mg "RidersError" = some (.ref R)) (kR : PySem.W.kitOne K (.ref C) (.ref R) = some true)
    (rd : ∃ f fd, FnOk P w K mg base (L2.CX P w) 3 f fd ["n", "value"] (spRead C) ∧ PySem.W.keepIn K (.ref f) = true ∧ mg "read_standing" = some (.ref f) ∧ Binds K fd ["n", "value"] [] ∧ KBn K fd ["n", "value"] 0 ["value", "n"] (fun _ ws => ws.reverse) (fun _ zs => zs.reverse)) :
    Ok P w K mg base 4 "_law_told" ["many", "value", "is_named"] spTold := by
  obtain ⟨fR, dR, GR, kf, gf, bf, nf⟩ := rd
  refine D.ok fun f fd F => F.ok scTo (fun vs H Q E h => ?_) (fun cdv A outer s H vs Q E hr h => ?_)
  · obtain ⟨n, v, d, k, rfl, _⟩ := h
    rfl
  · obtain ⟨n, v, d, k, rfl, hd, hx, q⟩ := h
    refine ⟨_, pss_one (ps_try_as (i := 3) (tb := fun W => tRet (tLst (tCons (tC (.str "told")) (tCons (tIf (tTest (tVar 2)) (tCallNS 2 (spRead C) (fun _ zs => zs.reverse) (WE W) (tCons (tVar 1) (tCons (tVar 0) tNil))) (tCallS (spRead C) (WE W) (tCons (tVar 0) (tCons (tVar 1) tNil)))) tNil))))
      (ts := fun a cls d D σ H => (cls = .ref C ∧ d = none) ∧ tRet (tLst (tCons (tC (.str "refused")) (tCons (tCB (rIsE K C a) (tCons (tVar 3) (tCons (tC (.ref R)) tNil))) tNil))) D σ H) (Wout := fun _ _ _ _ => False) rfl rfl scTo.nd rfl rfl ⟨rfl, by decide, Or.inl T.g⟩ takes0
      (fun W pn xe tk _ => pss_one (ps_ret (by exact (pe_lst (pa_cons pe_str (pa_cons (pe_ifExp (pt_val (pv 2)) (pe_callNS GR hr (by rfl) gf kf nf (fun σ => passAt tk σ) (pk_cons (pv 1) (pk_cons (pv 0) pk_nil))) (pe_callS GR hr (by rfl) gf kf bf (fun σ => passAt tk σ) (pa_cons (pv 0) (pa_cons (pv 1) pa_nil)))) pa_nil))))))
      (fun a oe cls d pn hz hf => pss_told fun hc => pss_one (ps_ret (by
        obtain ⟨rfl, rfl⟩ := hc
        exact (pe_lst (pa_cons pe_str (pa_cons (pe_callB (call_isE eC hz hf) (by rfl) B.isinstance (by decide +kernel) (pa_cons (pv 3) (pa_cons (pe_glob (v := .ref R) (by rfl) gR rfl) pa_nil))) pa_nil))))))), ?_⟩
    have good : ∀ (ss : List Int) (H' : Hp) (t : Addr), readOf n d = some ss → Same H H' → H' t = some (.tup (ss.map V.int)) → (2 ≤ sizeLine ∧ ∀ l, H' l = none → Q (.ref l) (upd H' l (.lst [.str "told", .ref t]))) := fun ss H' t e sm ht =>
      ⟨by show 2 ≤ sizeLine; decide, fun l nl => by
        refine q _ _ (sm.trans (same_new nl)) ?_
        unfold toldOf
        rw [e]
        exact .lst upd_same (.cons (.str _) (.cons (.tup (same_new nl _ _ ht) (DqA.ints ss)) .nil))⟩
    have bad : ∀ (H' : Hp), readOf n d = none → Same H H' → (2 ≤ sizeLine ∧ ∀ l, H' l = none → Q (.ref l) (upd H' l (.lst [.str "refused", .bl true]))) := fun H' e sm =>
      ⟨by show 2 ≤ sizeLine; decide, fun l nl => by
        refine q _ _ (sm.trans (same_new nl)) ?_
        unfold toldOf
        rw [e]
        exact .lst upd_same (.cons (.str _) (.cons (.bl _) .nil))⟩
    refine ⟨.bl k, rfl, k, rfl, ?_⟩
    cases k with
    | true =>
      refine iteT ⟨v, rfl, .int n, rfl, rfl, n, v, d, rfl, hd, hx, fun ss e H' t sm ht => good ss H' t e sm ht, fun e H' sm => ?_⟩
      exact ⟨true, eX, fun _ a ha => ⟨⟨rfl, rfl⟩, .ref a, rfl, .ref R, .ref R, true, rfl, fun u h => h, kR, bad H' e sm⟩, fun z => Bool.noConfusion z⟩
    | false =>
      refine iteF ⟨.int n, rfl, v, rfl, n, v, d, rfl, hd, hx, fun ss e H' t sm ht => good ss H' t e sm ht, fun e H' sm => ?_⟩
      exact ⟨true, eX, fun _ a ha => ⟨⟨rfl, rfl⟩, .ref a, rfl, .ref R, .ref R, true, rfl, fun u h => h, kR, bad H' e sm⟩, fun z => Bool.noConfusion z⟩
end
end Kr

namespace Kr
open PySem PySem.Spec PyProof.Rows L2
/-- a word of a figure or two -/
def wOk (x : Str) : Bool := decide (1 ≤ x.length) && decide (x.length ≤ 2) && (cpl x).all dg
def wvL : List Nat → Int
  | [c] => (c : Int) - 48
  | [c, d] => 10 * ((c : Int) - 48) + ((d : Int) - 48)
  | _ => 0
def wv (x : Str) : Int := wvL (cpl x)
theorem wOk_cases {x : Str} (h : wOk x = true) : (∃ k : _root_.Fin 10, x = ⟨#[48 + k.val]⟩) ∨ ∃ k j : _root_.Fin 10, x = ⟨#[48 + k.val, 48 + j.val]⟩ := by
  unfold wOk at h
  rw [Bool.and_eq_true, Bool.and_eq_true, decide_eq_true_eq, decide_eq_true_eq, List.all_eq_true] at h
  obtain ⟨⟨h1, h2⟩, h3⟩ := h
  have hl : (cpl x).length = x.length := Array.length_toList
  match hh : cpl x, h3 with
  | [], _ => rw [hh] at hl; simp at hl; omega
  | [c], h3 =>
    obtain ⟨k, rfl⟩ := dg_of (h3 c List.mem_cons_self)
    exact .inl ⟨k, cpl_one hh⟩
  | [c, d], h3 =>
    obtain ⟨k, rfl⟩ := dg_of (h3 c List.mem_cons_self)
    obtain ⟨j, rfl⟩ := dg_of (h3 d (by simp))
    exact .inr ⟨k, j, cpl_two hh⟩
  | _ :: _ :: _ :: _, _ => rw [hh] at hl; simp at hl; omega
theorem wv_int {x : Str} (h : wOk x = true) : PySem.intText? x = some (wv x) ∧ 0 ≤ wv x ∧ wv x ≤ 99 := by
  rcases wOk_cases h with ⟨k, rfl⟩ | ⟨k, j, rfl⟩
  · have e : wv ⟨#[48 + k.val]⟩ = (k.val : Int) := by show ((48 + k.val : Nat) : Int) - 48 = _; omega
    have := k.isLt
    rw [e]
    exact ⟨int_tab1 k, by omega, by omega⟩
  · have e : wv ⟨#[48 + k.val, 48 + j.val]⟩ = 10 * (k.val : Int) + (j.val : Int) := by show 10 * (((48 + k.val : Nat) : Int) - 48) + (((48 + j.val : Nat) : Int) - 48) = _; omega
    have := k.isLt
    have := j.isLt
    rw [e]
    exact ⟨int_tab2 k j, by omega, by omega⟩
theorem wv_tab : ∀ k : _root_.Fin 100, wOk (nt (k.val : Int)) = true ∧ wv (nt (k.val : Int)) = (k.val : Int) := by decide +kernel
theorem nt_wv {z : Int} (h0 : 0 ≤ z) (h1 : z ≤ 99) : wOk (nt z) = true ∧ wv (nt z) = z := by
  have := wv_tab ⟨z.toNat, by omega⟩
  rw [show ((z.toNat : Nat) : Int) = z by omega] at this
  exact this
/-- a word tells a number: it is of figures, and their number's text -/
theorem num_iff (x : Str) : numOf x = if wOk x = true ∧ nt (wv x) = x then some (wv x) else none := by
  by_cases h : wOk x = true ∧ nt (wv x) = x
  · rw [if_pos h]
    have g := (wv_int h.1).2
    have := nt_num g.1 g.2
    rw [h.2] at this
    exact this
  · rw [if_neg h]
    cases e : numOf x with
    | none => rfl
    | some n =>
      obtain ⟨e1, e2, e3⟩ := num_nt e
      have := nt_wv e2 e3
      rw [← e1] at this
      exact absurd ⟨this.1, by rw [this.2]; exact e1.symm⟩ h
def scOut : Scope := match (defBody sDue).getD 3 (.Pass ⟨0, 0, 0, 0⟩) with
  | .If (.Compare (.ListComp _ _ s _) _ _ _) _ _ _ => s
  | _ => defScope sDue
abbrev nDu : List Str := ["many", "value", "words", "word", "sign", "items", "item", "riders", "own"]
section
variable {P : Program} {w : World} {K : PySem.W.Frag} {mg : Str → Option Value} {base : Heap}
theorem scDu : FnScope nDu ["many", "value"] (defScope sDue) := ⟨rfl, rfl, rfl, by decide +kernel, rfl, by decide +kernel, by decide +kernel⟩
end
end Kr

namespace Kr
open PySem PySem.Spec PyProof.Rows L2 TL
theorem itGo_all {k : PyData} : ∀ {i : Nat} {ds : List PyData}, (∀ d ∈ ds, isB d 0 99 = true) → itGo k i ds = k
  | _, [], _ => rfl
  | i, x :: r, h => by
    show (if _ then _ else _) = _
    rw [if_pos (h x List.mem_cons_self)]
    exact itGo_all fun d hd => h d (List.mem_cons_of_mem _ hd)
theorem twGo_no : ∀ (pre r : List Int), isNo (twGo pre r) = true ↔ (∀ z ∈ r, 0 < z → z ∉ pre) ∧ (r.filter fun z => decide (0 < z)).Nodup
  | pre, [] => by simp [twGo, isNo]
  | pre, x :: r => by
    have e : twGo pre (x :: r) = if 0 < x ∧ x ∈ pre then eTwice pre.length else twGo (pre ++ [x]) r := rfl
    rw [e]
    by_cases h : 0 < x ∧ x ∈ pre
    · rw [if_pos h]
      constructor
      · intro z; cases z
      · rintro ⟨z, _⟩
        exact absurd h.2 (z x List.mem_cons_self h.1)
    · rw [if_neg h, twGo_no (pre ++ [x]) r]
      constructor
      · rintro ⟨h1, h2⟩
        refine ⟨fun z hz z0 => ?_, ?_⟩
        · rcases List.mem_cons.mp hz with e | hz
          · subst e
            exact fun hp => h ⟨z0, hp⟩
          · exact fun hp => h1 z hz z0 (List.mem_append.mpr (.inl hp))
        · by_cases hx : 0 < x
          · rw [List.filter_cons_of_pos (by simpa using hx), List.nodup_cons]
            refine ⟨fun hm => ?_, h2⟩
            have := (List.mem_filter.mp hm).1
            exact h1 x this hx (List.mem_append.mpr (.inr (List.mem_singleton.mpr rfl)))
          · rw [List.filter_cons_of_neg (by simpa using hx)]
            exact h2
      · rintro ⟨h1, h2⟩
        by_cases hx : 0 < x
        · rw [List.filter_cons_of_pos (by simpa using hx), List.nodup_cons] at h2
          refine ⟨fun z hz z0 hp => ?_, h2.2⟩
          rcases List.mem_append.mp hp with hp | hp
          · exact h1 z (List.mem_cons_of_mem _ hz) z0 hp
          · rw [List.mem_singleton.mp hp] at hz
            exact h2.1 (List.mem_filter.mpr ⟨hz, by simpa using hx⟩)
        · rw [List.filter_cons_of_neg (by simpa using hx)] at h2
          refine ⟨fun z hz z0 hp => ?_, h2⟩
          rcases List.mem_append.mp hp with hp | hp
          · exact h1 z (List.mem_cons_of_mem _ hz) z0 hp
          · rw [List.mem_singleton.mp hp] at z0
            exact hx z0
/-- the text of a number has no blank -/
theorem nt_blank {z : Int} (h0 : 0 ≤ z) (h1 : z ≤ 99) : (32 : Nat) ∉ tl (nt z) := by
  intro h
  have := (numL_digits (nt_num h0 h1)).2.2 32 h
  cases this
theorem join_inj {x : Str} {zs : List Int} (hne : zs ≠ []) (hb : ∀ z ∈ zs, 0 ≤ z ∧ z ≤ 99) (h : Txt.join " " (zs.map nt) = x) : Txt.split x " " = zs.map nt := by
  rw [← h]
  refine split_join (s := 32) (S := []) (by decide +kernel) (by decide +kernel) (fun z => hne (List.map_eq_nil_iff.mp z)) fun p hp => ?_
  obtain ⟨z, hz, rfl⟩ := List.mem_map.mp hp
  exact nt_blank (hb z hz).1 (hb z hz).2
theorem join_back (x : Str) : Txt.join " " (Txt.split x " ") = x := by
  rw [join_eq]
  exact PySem.StrLaws.join_split x " "
theorem split_ne (x : Str) : Txt.split x " " ≠ [] := fun h => by
  have e := split_spl x " " (by decide) (kind_ok (by decide +kernel))
  rw [h] at e
  have : ∀ (l acc : List Nat), spl (tl " ") 0 acc l ≠ [] := by
    intro l
    cases l with
    | nil => intro acc h; rw [spl_nil] at h; cases h
    | cons c r =>
      intro acc
      induction r generalizing c acc with
      | nil =>
        unfold spl
        split
        · intro h; cases h
        · rw [spl_nil]; intro h; cases h
      | cons d r ih =>
        unfold spl
        split
        · intro h; cases h
        · exact ih d _
  exact this _ _ e.symm
def Told (n : Int) (x : Str) : Prop := ((Txt.split x " ").length : Int) = n ∧ (∀ w ∈ Txt.split x " ", wOk w = true) ∧ Txt.join " " (((Txt.split x " ").map wv).map nt) = x ∧ (((Txt.split x " ").map wv).filter fun z => decide (0 < z)).Nodup
theorem rd_iv {ws : List Str} (h : ∀ w ∈ ws, numOf w = some (wv w)) : (ws.map fun w => nd (numOf w)) = (ws.map wv).map PyData.int := by
  rw [List.map_map]
  refine List.map_congr_left fun w hw => ?_
  rw [h w hw]
  rfl
theorem read_yes {n : Int} {x : Str} (h : Told n x) : readOf n (.str x) = some ((Txt.split x " ").map wv) := by
  obtain ⟨h1, h2, h3, h4⟩ := h
  have hb : ∀ z ∈ (Txt.split x " ").map wv, 0 ≤ z ∧ z ≤ 99 := fun z hz => by
    obtain ⟨w, hw, rfl⟩ := List.mem_map.mp hz
    exact (wv_int (h2 w hw)).2
  have hs := join_inj (fun z => split_ne x (List.map_eq_nil_iff.mp z)) hb h3
  have hw : ∀ w ∈ Txt.split x " ", numOf w = some (wv w) := fun w hw => by
    obtain ⟨i, hi, e⟩ := List.mem_iff_getElem.mp hw
    have e2 : (Txt.split x " ")[i]? = (((Txt.split x " ").map wv).map nt)[i]? := by rw [← hs]
    rw [List.getElem?_map, List.getElem?_map, List.getElem?_eq_getElem hi, e] at e2
    have e3 : w = nt (wv w) := Option.some.inj e2
    rw [num_iff, if_pos ⟨h2 w hw, e3.symm⟩]
  have e1 : rd x = ((Txt.split x " ").map wv).map PyData.int := rd_iv hw
  have e2 : (rd x).map iv = (Txt.split x " ").map wv := by
    rw [e1, List.map_map]
    exact List.map_id _
  have hno : isNo (standErr n (.tuple (rd x))) = true := by
    show isNo (if _ then _ else _) = true
    rw [if_pos (by rw [e1, List.length_map, List.length_map]; exact h1)]
    show isNo (itGo (twGo [] ((rd x).map iv)) 0 (rd x)) = true
    rw [itGo_all (fun d hd => by
      rw [e1] at hd
      obtain ⟨z, hz, rfl⟩ := List.mem_map.mp hd
      have := hb z hz
      simp [isB, this.1, this.2]), e2, twGo_no]
    exact ⟨fun _ _ _ h => (nomatch h), h4⟩
  show (if _ then _ else _) = _
  rw [if_pos hno, e2]
theorem read_no {n : Int} {x : Str} (h : ¬ Told n x) : readOf n (.str x) = none := by
  refine if_neg fun hno => h ?_
  obtain ⟨h1, h2⟩ := standErr_ok hno
  have hw : ∀ w ∈ Txt.split x " ", numOf w = some (wv w) ∧ wOk w = true ∧ nt (wv w) = w := fun w hw => by
    have g := h2 (nd (numOf w)) (List.mem_map_of_mem (f := fun w => nd (numOf w)) hw)
    rw [num_iff] at g ⊢
    by_cases c : wOk w = true ∧ nt (wv w) = w
    · rw [if_pos c]
      exact ⟨rfl, c⟩
    · rw [if_neg c] at g
      cases g
  have e1 : rd x = ((Txt.split x " ").map wv).map PyData.int := rd_iv fun w h => (hw w h).1
  have e2 : (rd x).map iv = (Txt.split x " ").map wv := by
    rw [e1, List.map_map]
    exact List.map_id _
  have hn2 : isNo (if ((rd x).length : Int) = n then standGo (rd x) else eForm) = true := hno
  rw [if_pos h1] at hn2
  have hn3 : isNo (itGo (twGo [] ((rd x).map iv)) 0 (rd x)) = true := hn2
  rw [itGo_all h2, e2, twGo_no] at hn3
  refine ⟨by rw [e1, List.length_map, List.length_map] at h1; exact h1, fun w h => (hw w h).2.1, ?_, hn3.2⟩
  have : ((Txt.split x " ").map wv).map nt = Txt.split x " " := by
    rw [List.map_map]
    exact (List.map_congr_left fun w h => (hw w h).2.2).trans (List.map_id _)
  rw [this]
  exact join_back x
end Kr

namespace Kr
open PySem PySem.Spec PyProof.Rows L2
theorem mem_map_str {ws : List Str} {j : Nat} {x : V} (h : (ws.map V.str)[j]? = some x) : ∃ u, ws[j]? = some u ∧ u ∈ ws ∧ x = V.str u := by
  rw [List.getElem?_map] at h
  cases g : ws[j]? with
  | none => rw [g] at h; cases h
  | some u =>
    rw [g] at h
    exact ⟨u, rfl, List.mem_of_getElem? g, (Option.some.inj h).symm⟩
theorem dsig (c : Nat) : decide (c ∈ ("0123456789" : Str).cps.toList) = dg c := by
  have e : ("0123456789" : Str).cps.toList = [48, 49, 50, 51, 52, 53, 54, 55, 56, 57] := by decide +kernel
  rw [e, Bool.eq_iff_iff]
  unfold dg
  simp
  omega
section
variable {P : Program} {w : World} {K : PySem.W.Frag} {mg : Str → Option Value} {base : Heap}
def spDue3 : Sp := fun vs H Q _ => ∃ (n : Int) (v : V) (d : PyData), vs = [.int n, v] ∧ Dq H v d ∧ (∀ x, d = .str x → x.length ≤ 30000) ∧ ∀ H' r, Same H H' → Dq H' r (toldOf n d) → Q r H'
theorem o_due (D : Df K mg "_law_due" sDue ["many", "value"]) (B : Bi mg) : Ok P w K mg base 1 "_law_due" ["many", "value"] spDue3 := by
  refine D.ok fun fa fd F => F.ok scDu (fun vs H Q E h => ?_) (fun cdv A outer s H vs Q E hr h => ?_)
  · obtain ⟨n, v, d, rfl, _⟩ := h
    rfl
  · obtain ⟨n, v, d, rfl, hd, hx, q⟩ := h
    have hu : (cxOf CX0 P w K mg base nDu "_law_due" (defScope sDue) fa cdv A outer s H E).A.units + 64 < cLine := hr.units
    refine ⟨_, pss_cons (ps_if (pt_not (pt_val (pe_callB call_isi (by rfl) B.isinstance (by decide +kernel) (pa_cons (pv 1) (pa_cons (pe_bltn (v := .ty "str") (by rfl) B.str (by decide +kernel) rfl) pa_nil))))) (pss_one (ps_ret (pe_lst (pa_cons pe_str (pa_cons pe_bl pa_nil))))) pss_nil)
      (pss_cons (ps_set (i := 2) scDu.nd rfl (.inl rfl) (pe_split (pv 1) pe_str))
      (pss_cons (ps_if (PW.pt (pw_or (pt_cmpR op_ne (pe_callB call_len_seq (by rfl) B.len boot_len (pa_cons (pv 2) pa_nil)) (pv 0) (nomark _)) (pw_or1 (pt_cmpR (op_neN hu)
          (pe_lc (own := [("word", 3)]) (g := gName 3) rfl scDu.nd (pi_list (pv 2)) (blkOk_by (own := [("word", 3)]) (N := nDu) (sc := defScope sDue) (by decide +kernel)) (fun _ _ _ _ _ => pg_name (i := 3) scDu.nd rfl (.inl rfl))
            (fun _ _ _ _ _ => pts_one (pt_not (pt_chain op_le op_le pe_int (pe_callB call_len_str (by rfl) B.len boot_len (pa_cons (pv 3) pa_nil)) pe_int))) (fun _ _ _ _ _ => pe_int)) (pe_lst pa_nil) (nomark _)))))
          (pss_one (ps_ret (pe_lst (pa_cons pe_str (pa_cons pe_bl pa_nil))))) pss_nil)
      (pss_cons (ps_if (pt_cmpR (op_neN hu)
          (pe_lc (own := [("word", 3)]) (g := gName 3) rfl scDu.nd (pi_list (pv 2)) (blkOk_by (own := [("word", 3)]) (N := nDu) (sc := defScope sDue) (by decide +kernel)) (fun _ _ _ _ _ => pg_name (i := 3) scDu.nd rfl (.inl rfl))
            (fun _ _ _ _ _ => pts_one (pt_cmpR (op_neN hu) (pe_lc (own := [("sign", 4)]) (g := gName 4) rfl scDu.nd (pi_str (pv 3)) (blkOk_by (own := [("sign", 4)]) (N := nDu) (sc := scOut) (by decide +kernel)) (fun _ _ _ _ _ => pg_name (i := 4) scDu.nd rfl (.inl rfl))
              (fun _ _ _ _ _ => pts_one (pt_cmpR op_notIn_sign (pv 4) pe_str rfl)) (fun _ _ _ _ _ => pe_int)) (pe_lst pa_nil) (nomark _))) (fun _ _ _ _ _ => pe_int)) (pe_lst pa_nil) (nomark _))
          (pss_one (ps_ret (pe_lst (pa_cons pe_str (pa_cons pe_bl pa_nil))))) pss_nil)
      (pss_cons (ps_setLc (i := 5) (own := [("word", 3)]) (g := gName 3) rfl scDu.nd rfl rfl (sw_true rfl rfl rfl (by decide +kernel)) (pi_list (pv 2)) (blkOk_by (own := [("word", 3)]) (N := nDu) (sc := defScope sDue) (by decide +kernel)) (fun _ _ _ _ _ => pg_name (i := 3) scDu.nd rfl (.inl rfl))
            (fun _ _ _ _ _ => pts_nil) (fun _ _ _ _ _ => pe_callTy call_int_str (by rfl) B.int (by decide +kernel) (pa_cons (pv 3) pa_nil)))
      (pss_cons (ps_set (i := 7) scDu.nd rfl (.inr rfl) (pe_lc (own := [("item", 6)]) (g := gName 6) rfl scDu.nd (pi_list (pv 5)) (blkOk_by (own := [("item", 6)]) (N := nDu) (sc := defScope sDue) (by decide +kernel)) (fun _ _ _ _ _ => pg_name (i := 6) scDu.nd rfl (.inl rfl))
            (fun _ _ _ _ _ => pts_one (pt_cmpR op_gt (pv 6) pe_int (nomark _))) (fun _ _ _ _ _ => pv 6)))
      (pss_cons (ps_if (PW.pt (pw_or (pt_cmpR op_ne (pe_join pe_str (pe_lc (own := [("item", 6)]) (g := gName 6) rfl scDu.nd (pi_list (pv 5)) (blkOk_by (own := [("item", 6)]) (N := nDu) (sc := defScope sDue) (by decide +kernel)) (fun _ _ _ _ _ => pg_name (i := 6) scDu.nd rfl (.inl rfl))
            (fun _ _ _ _ _ => pts_nil) (fun _ _ _ _ _ => pe_callTy call_str_int (by rfl) B.str (by decide +kernel) (pa_cons (pv 6) pa_nil)))) (pv 1) (nomark _)) (pw_or1 (pt_cmpR (op_neN hu)
          (pe_lc (own := [("own", 8)]) (g := gName 8) rfl scDu.nd (pi_list (pv 7)) (blkOk_by (own := [("own", 8)]) (N := nDu) (sc := defScope sDue) (by decide +kernel)) (fun _ _ _ _ _ => pg_name (i := 8) scDu.nd rfl (.inl rfl))
            (fun _ _ _ _ _ => pts_one (pt_cmpR op_gt (by
              show PE _ _ (tBM K "list" (rCntI K) (tVar 7) (tCons (tVar 8) tNil))
              exact (pe_bm (r := rCntI K) PySem.F.plainAttrs_list PySem.F.slot_list_count PySem.F.type_list_count mt_lcount (pv 7) (pa_cons (pv 8) pa_nil))) pe_int (nomark _))) (fun _ _ _ _ _ => pe_int)) (pe_lst pa_nil) (nomark _)))))
          (pss_one (ps_ret (pe_lst (pa_cons pe_str (pa_cons pe_bl pa_nil))))) pss_nil)
      (pss_one (ps_ret (pe_lst (pa_cons pe_str (pa_cons (pe_callTy call_tuple_of (by rfl) B.tuple (by decide +kernel) (pa_cons (pv 5) pa_nil)) pa_nil))))))))))), ?_⟩
    have bad : ∀ (H' : Hp), readOf n d = none → Same H H' → (2 ≤ sizeLine ∧ ∀ l, H' l = none → Q (.ref l) (upd H' l (.lst [.str "refused", .bl true]))) := fun H' e sm =>
      ⟨by show 2 ≤ sizeLine; decide, fun l nl => by
        refine q _ _ (sm.trans (same_new nl)) ?_
        unfold toldOf
        rw [e]
        exact .lst upd_same (.cons (.str _) (.cons (.bl _) .nil))⟩
    refine ⟨v, rfl, v, .ty "str", _, _, isSt d, rfl, .ty "str", hd.ty, kit_str d, isSt d, rfl, ?_⟩
    by_cases ht : isSt d = true
    rotate_left
    · rw [Bool.eq_false_iff.mpr ht]
      have e0 : readOf n d = none := by cases d <;> first | rfl | exact absurd rfl ht
      exact iteT (bad _ e0 (Same.refl _))
    rw [ht]
    refine iteF ?_
    cases hd with
    | str x =>
      have hxl := hx x rfl
      obtain ⟨b1, b2⟩ := split_bd x
      have hne := split_ne x
      have ey := @read_yes n x
      have en := @read_no n x
      unfold Told at ey en
      refine ⟨.str x, rfl, ⟨_, rfl⟩, x, " ", rfl, rfl, rfl, Nat.le_trans (show x.length + 2 ≤ 100000 by omega) (by decide), fun p np => ?_⟩
      have hback := join_back x
      generalize Txt.split x " " = ws at b1 b2 hne ey en hback
      have s1 : Same H (upd H p (.lst (ws.map V.str))) := same_new np
      have hp1 : upd H p (.lst (ws.map V.str)) p = some (.lst (ws.map V.str)) := upd_same
      generalize upd H p (.lst (ws.map V.str)) = H1 at s1 hp1
      dsimp only
      refine ⟨.ref p, rfl, p, _, rfl, .inl (SqL.of hp1), .int n, rfl, rfl, _, rfl, ?_⟩
      rw [List.length_map]
      by_cases hn : (ws.length : Int) = n
      rotate_left
      · rw [decide_eq_false (show ¬ V.int (ws.length : Int) = V.int n from fun z => hn (V.int.inj z))]
        exact iteT (iteT (bad _ (en fun z => hn z.1) s1))
      rw [decide_eq_true (show V.int (ws.length : Int) = V.int n by rw [hn])]
      refine iteF ?_
      -- the words' lengths
      refine ⟨.ref p, rfl, p, rfl, ⟨_, SqL.of hp1⟩, fun Da nDa => lc_list (K := K) (xs := ws.map V.str) (fun i G => ∃ zs : List V, G Da = some (.lst zs) ∧ Same H1 G ∧ zs.length ≤ i ∧ zs.isEmpty = (ws.take i).all (fun u => decide (1 ≤ u.length) && decide (u.length ≤ 2)))
        ⟨[], upd_same, same_new nDa, Nat.le_refl _, rfl⟩ (fun i G _ ⟨_, _, sm, _⟩ => SqL.of (sm _ _ hp1)) ?_ ?_⟩
      · rintro j _ G hx1 ⟨zs, hDa, sm, hl, he⟩
        obtain ⟨u, hu1, hum, rfl⟩ := mem_map_str hx1
        have hjl := (List.getElem?_eq_some_iff.mp hu1).1
        have hul := b1 u hum
        have etk : (ws.take (j + 1)).all (fun u => decide (1 ≤ u.length) && decide (u.length ≤ 2)) = ((ws.take j).all (fun u => decide (1 ≤ u.length) && decide (u.length ≤ 2)) && (decide (1 ≤ u.length) && decide (u.length ≤ 2))) := by
          rw [List.take_add_one, hu1, List.all_append]
          simp
        have keep : zs.isEmpty = (ws.take (j + 1)).all (fun u => decide (1 ≤ u.length) && decide (u.length ≤ 2)) → ∃ zs : List V, G Da = some (.lst zs) ∧ Same H1 G ∧ zs.length ≤ j + 1 ∧ zs.isEmpty = (ws.take (j + 1)).all (fun u => decide (1 ≤ u.length) && decide (u.length ≤ 2)) := fun e => ⟨zs, hDa, sm, by omega, e⟩
        have put : (decide (1 ≤ u.length) && decide (u.length ≤ 2)) = false → ∃ acc, G Da = some (.lst acc) ∧ acc.length < sizeLine ∧ ∃ zs : List V, upd G Da (.lst (acc ++ [.int 1])) Da = some (.lst zs) ∧ Same H1 (upd G Da (.lst (acc ++ [.int 1]))) ∧ zs.length ≤ j + 1 ∧ zs.isEmpty = (ws.take (j + 1)).all (fun u => decide (1 ≤ u.length) && decide (u.length ≤ 2)) := fun e => by
          refine ⟨zs, hDa, szl (by omega), zs ++ [.int 1], upd_same, fun b o hb' => ?_, by rw [List.length_append]; show _ + 1 ≤ _; omega, ?_⟩
          · rw [upd_ne (ne_of_none hb' nDa)]
            exact sm _ _ hb'
          · rw [etk, e, Bool.and_false]
            cases zs <;> rfl
        refine ⟨rfl, .str u, rfl, u, rfl, sz (by omega), _, _, rfl, rfl, _, rfl, ?_⟩
        by_cases c1 : 1 ≤ u.length
        · rw [decide_eq_true (show (1 : Int) ≤ (u.length : Int) by omega)]
          refine iteT ⟨_, _, rfl, rfl, _, rfl, ?_⟩
          by_cases c2 : u.length ≤ 2
          · rw [decide_eq_true (show (u.length : Int) ≤ 2 by omega)]
            refine iteF (keep ?_)
            rw [etk, he, decide_eq_true c1, decide_eq_true c2]
            simp
          · rw [decide_eq_false (show ¬ (u.length : Int) ≤ 2 by omega)]
            exact iteT (put (by rw [decide_eq_false c2, Bool.and_false]))
        · rw [decide_eq_false (show ¬ (1 : Int) ≤ (u.length : Int) by omega)]
          refine iteF ⟨_, rfl, iteT (put (by rw [decide_eq_false c1, Bool.false_and]))⟩
      rintro G ⟨zs, hDa, sm, hl, he⟩
      rw [List.length_map, ← List.length_map (f := V.str), List.length_map, List.take_length] at he
      refine ⟨by show 0 ≤ sizeLine; decide, fun e1 ne1 => ⟨Da, e1, zs, rfl, rfl, same_new ne1 _ _ hDa, upd_same, _, rfl, ?_⟩⟩
      have s2 : Same H1 (upd G e1 (.lst [])) := sm.trans (same_new ne1)
      generalize upd G e1 (.lst []) = H2 at s2
      rw [he]
      by_cases hA : ws.all (fun u => decide (1 ≤ u.length) && decide (u.length ≤ 2)) = true
      rotate_left
      · rw [Bool.eq_false_iff.mpr hA]
        refine iteT (bad _ (en fun z => hA ?_) (s1.trans s2))
        rw [List.all_eq_true]
        intro u hum
        have := z.2.1 u hum
        unfold wOk at this
        exact (Bool.and_eq_true_iff.mp this).1
      rw [hA]
      refine iteF ?_
      -- the words' signs
      refine ⟨.ref p, rfl, p, rfl, ⟨_, SqL.of (s2 _ _ hp1)⟩, fun Db nDb => lc_list (K := K) (xs := ws.map V.str) (fun i G => ∃ zs : List V, G Db = some (.lst zs) ∧ Same H2 G ∧ zs.length ≤ i ∧ zs.isEmpty = (ws.take i).all (fun u => (cpl u).all dg))
        ⟨[], upd_same, same_new nDb, Nat.le_refl _, rfl⟩ (fun i G _ ⟨_, _, sm, _⟩ => SqL.of (sm _ _ (s2 _ _ hp1))) ?_ ?_⟩
      · rintro j _ G hx1 ⟨zs, hDb, sm, hl, he⟩
        obtain ⟨u, hu1, hum, rfl⟩ := mem_map_str hx1
        have hjl := (List.getElem?_eq_some_iff.mp hu1).1
        have hul := b1 u hum
        have hcl : (cpl u).length = u.length := Array.length_toList
        have etk : (ws.take (j + 1)).all (fun u => (cpl u).all dg) = ((ws.take j).all (fun u => (cpl u).all dg) && (cpl u).all dg) := by
          rw [List.take_add_one, hu1, List.all_append]
          simp
        refine ⟨rfl, .str u, rfl, u, rfl, fun Dc nDc => lc_it walk_str (fun i G' => ∃ zs2 : List V, G' Dc = some (.lst zs2) ∧ Same G G' ∧ zs2.length ≤ i ∧ zs2.isEmpty = ((cpl u).take i).all dg)
          ⟨[], upd_same, same_new nDc, Nat.le_refl _, rfl⟩ (fun _ _ _ _ => trivial) ?_ ?_⟩
        · rintro i _ G' _ hi ⟨zs2, hDc, sm2, hl2, he2⟩ ⟨rfl, c, hc, rfl⟩
          have hc2 : (cpl u)[i]? = some c := by
            show u.cps.toList[i]? = some c
            rw [Array.getElem?_toList]
            exact hc
          have etk2 : ((cpl u).take (i + 1)).all dg = (((cpl u).take i).all dg && dg c) := by
            rw [List.take_add_one, hc2, List.all_append]
            simp
          have hil : i < u.length := hi
          refine ⟨rfl, .str ⟨#[c]⟩, rfl, c, "0123456789", rfl, rfl, _, rfl, ?_⟩
          rw [dsig]
          by_cases hd : dg c = true
          · rw [hd]
            refine iteF ⟨zs2, hDc, sm2, by omega, ?_⟩
            rw [etk2, hd, he2]
            simp
          · rw [Bool.eq_false_iff.mpr hd]
            refine iteT ⟨zs2, hDc, szl (by omega), zs2 ++ [.int 1], upd_same, fun b o hb' => ?_, by rw [List.length_append]; show _ + 1 ≤ _; omega, ?_⟩
            · rw [upd_ne (ne_of_none hb' nDc)]
              exact sm2 _ _ hb'
            · rw [etk2, Bool.eq_false_iff.mpr hd, Bool.and_false]
              cases zs2 <;> rfl
        · rintro G' ⟨zs2, hDc, sm2, hl2, he2⟩
          rw [List.take_of_length_le (show (cpl u).length ≤ u.cps.size from Nat.le_of_eq hcl)] at he2
          refine ⟨by show 0 ≤ sizeLine; decide, fun e3 ne3 => ⟨Dc, e3, zs2, rfl, rfl, same_new ne3 _ _ hDc, upd_same, _, rfl, ?_⟩⟩
          have sm3 : Same G (upd G' e3 (.lst [])) := sm2.trans (same_new ne3)
          generalize upd G' e3 (.lst []) = G3 at sm3
          have hDb3 := sm3 _ _ hDb
          rw [he2]
          by_cases hd : (cpl u).all dg = true
          · rw [hd]
            refine iteF ⟨zs, hDb3, sm.trans sm3, by omega, ?_⟩
            rw [etk, hd, he]
            simp
          · rw [Bool.eq_false_iff.mpr hd]
            refine iteT ⟨zs, hDb3, szl (by omega), zs ++ [.int 1], upd_same, fun b o hb' => ?_, by rw [List.length_append]; show _ + 1 ≤ _; omega, ?_⟩
            · rw [upd_ne (ne_of_none hb' nDb)]
              exact sm3 _ _ (sm _ _ hb')
            · rw [etk, Bool.eq_false_iff.mpr hd, Bool.and_false]
              cases zs <;> rfl
      rintro G ⟨zs, hDb, sm, hl, he⟩
      rw [List.length_map, List.take_length] at he
      refine ⟨by show 0 ≤ sizeLine; decide, fun e1 ne1 => ⟨Db, e1, zs, rfl, rfl, same_new ne1 _ _ hDb, upd_same, _, rfl, ?_⟩⟩
      have s3 : Same H1 (upd G e1 (.lst [])) := s2.trans (sm.trans (same_new ne1))
      generalize upd G e1 (.lst []) = H3 at s3
      rw [he]
      by_cases hB : ws.all (fun u => (cpl u).all dg) = true
      rotate_left
      · rw [Bool.eq_false_iff.mpr hB]
        refine iteT (bad _ (en fun z => hB ?_) (s1.trans s3))
        rw [List.all_eq_true]
        intro u hum
        have := z.2.1 u hum
        unfold wOk at this
        exact (Bool.and_eq_true_iff.mp this).2
      rw [hB]
      refine iteF ?_
      have hok : ∀ u ∈ ws, wOk u = true := fun u hum => by
        unfold wOk
        rw [List.all_eq_true] at hA hB
        rw [hA u hum, hB u hum]
        rfl
      -- items
      refine ⟨.ref p, rfl, p, rfl, ⟨_, SqL.of (s3 _ _ hp1)⟩, fun Dd nDd => lc_list (K := K) (xs := ws.map V.str) (fun i G => G Dd = some (.lst (((ws.take i).map wv).map V.int)) ∧ Same H3 G)
        ⟨upd_same, same_new nDd⟩ (fun i G _ ⟨_, sm⟩ => SqL.of (sm _ _ (s3 _ _ hp1))) ?_ ?_⟩
      · rintro j _ G hx1 ⟨hDd, sm⟩
        obtain ⟨u, hu1, hum, rfl⟩ := mem_map_str hx1
        have hjl := (List.getElem?_eq_some_iff.mp hu1).1
        have hw2 := hok u hum
        have hul : u.length ≤ 2 := by
          unfold wOk at hw2
          rw [Bool.and_eq_true, Bool.and_eq_true, decide_eq_true_eq, decide_eq_true_eq] at hw2
          exact hw2.1.2
        refine ⟨rfl, ?_⟩
        dsimp only [tYes]
        rw [if_pos rfl]
        refine ⟨.str u, rfl, u, wv u, rfl, (wv_int hw2).1, by omega, _, hDd, szl (by rw [List.length_map, List.length_map, List.length_take]; omega), ?_, fun b o hb' => ?_⟩
        · rw [upd_same, List.take_add_one, hu1, List.map_append, List.map_append]
          rfl
        · rw [upd_ne (ne_of_none hb' nDd)]
          exact sm _ _ hb'
      rintro H4 ⟨hDd, s4⟩
      rw [List.length_map, List.take_length] at hDd
      have hbd : ∀ z ∈ ws.map wv, 0 ≤ z ∧ z ≤ 99 := fun z hz => by
        obtain ⟨u, hum, rfl⟩ := List.mem_map.mp hz
        exact (wv_int (hok u hum)).2
      have hlen : (ws.map wv).length = ws.length := List.length_map ..
      have t4 := s1.trans (s3.trans s4)
      generalize hzz : ws.map wv = zz at hDd hbd ey en hlen
      -- riders
      refine ⟨.ref Dd, rfl, Dd, rfl, ⟨_, SqL.of hDd⟩, fun De nDe => lc_list (K := K) (xs := zz.map V.int) (fun i G => G De = some (.lst (((zz.take i).filter fun z => decide (0 < z)).map V.int)) ∧ Same H4 G)
        ⟨upd_same, same_new nDe⟩ (fun i G _ ⟨_, sm⟩ => SqL.of (sm _ _ hDd)) ?_ ?_⟩
      · rintro j _ G hx1 ⟨hDe, sm⟩
        obtain ⟨z, hz, hzm, rfl⟩ := mem_map_int hx1
        have hjl := (List.getElem?_eq_some_iff.mp hz).1
        have etk : (zz.take (j + 1)).filter (fun z => decide (0 < z)) = (zz.take j).filter (fun z => decide (0 < z)) ++ (if 0 < z then [z] else []) := by
          rw [List.take_add_one, hz, List.filter_append]
          congr 1
          by_cases h0 : 0 < z <;> simp [h0]
        refine ⟨rfl, .int z, rfl, _, _, rfl, rfl, _, rfl, ?_⟩
        by_cases h0 : 0 < z
        · rw [decide_eq_true (show z > 0 from h0)]
          refine iteT ⟨.int z, rfl, _, hDe, szl ?_, ?_, fun b o hb' => ?_⟩
          · rw [List.length_map]
            have := List.length_filter_le (fun z => decide (0 < z)) (zz.take j)
            rw [List.length_take] at this
            omega
          · rw [upd_same, etk, if_pos h0, List.map_append]
            rfl
          · rw [upd_ne (ne_of_none hb' nDe)]
            exact sm _ _ hb'
        · rw [decide_eq_false (show ¬ z > 0 from h0)]
          refine iteF ⟨?_, sm⟩
          rw [etk, if_neg h0, List.append_nil]
          exact hDe
      rintro H5 ⟨hDe, s5⟩
      rw [List.length_map, List.take_length] at hDe
      have hDd5 := s5 _ _ hDd
      have t5 := t4.trans s5
      generalize hrr : (zz.filter fun z => decide (0 < z)) = rr at hDe ey en
      have hrl : rr.length ≤ zz.length := by rw [← hrr]; exact List.length_filter_le _ _
      -- the text of the items
      refine ⟨⟨_, rfl⟩, .ref Dd, rfl, Dd, rfl, ⟨_, SqL.of hDd5⟩, fun Df nDf => lc_list (K := K) (xs := zz.map V.int) (fun i G => G Df = some (.lst (((zz.take i).map nt).map V.str)) ∧ Same H5 G)
        ⟨upd_same, same_new nDf⟩ (fun i G _ ⟨_, sm⟩ => SqL.of (sm _ _ hDd5)) ?_ ?_⟩
      · rintro j _ G hx1 ⟨hDf, sm⟩
        obtain ⟨z, hz, hzm, rfl⟩ := mem_map_int hx1
        have hjl := (List.getElem?_eq_some_iff.mp hz).1
        have hzb := hbd z hzm
        refine ⟨rfl, ?_⟩
        dsimp only [tYes]
        rw [if_pos rfl]
        refine ⟨.int z, rfl, z, rfl, log_small (by omega), _, hDf, szl (by rw [List.length_map, List.length_map, List.length_take]; omega), ?_, fun b o hb' => ?_⟩
        · rw [upd_same, List.take_add_one, hz, List.map_append, List.map_append]
          rfl
        · rw [upd_ne (ne_of_none hb' nDf)]
          exact sm _ _ hb'
      rintro H6 ⟨hDf, s6⟩
      rw [List.length_map, List.take_length] at hDf
      have t6 := t5.trans s6
      refine ⟨" ", Df, zz.map nt, rfl, rfl, .inl (SqL.of hDf), ?_, .str x, rfl, rfl, _, rfl, ?_⟩
      · have h2 := sum_len (ys := zz.map nt) fun y hy => by
          obtain ⟨z, hz, rfl⟩ := List.mem_map.mp hy
          have := hbd z hz
          exact nt_len this.1 this.2
        have h1 : (" " : Str).length = 1 := by decide
        rw [h1]
        rw [List.length_map] at h2 ⊢
        omega
      by_cases hj : Txt.join " " (zz.map nt) = x
      rotate_left
      · rw [decide_eq_false (show ¬ V.str (Txt.join " " (zz.map nt)) = V.str x from fun z => hj (V.str.inj z))]
        exact iteT (iteT (bad _ (en fun z => hj z.2.2.1) t6))
      rw [decide_eq_true (show V.str (Txt.join " " (zz.map nt)) = V.str x by rw [hj])]
      refine iteF ?_
      -- riders twice
      have hDe6 := s6 _ _ hDe
      refine ⟨.ref De, rfl, De, rfl, ⟨_, SqL.of hDe6⟩, fun Dg nDg => lc_list (K := K) (xs := rr.map V.int) (fun i G => ∃ zs : List V, G Dg = some (.lst zs) ∧ Same H6 G ∧ zs.length ≤ i ∧ zs.isEmpty = (rr.take i).all (fun z => decide (rr.count z ≤ 1)))
        ⟨[], upd_same, same_new nDg, Nat.le_refl _, rfl⟩ (fun i G _ ⟨_, _, sm, _⟩ => SqL.of (sm _ _ hDe6)) ?_ ?_⟩
      · rintro j _ G hx1 ⟨zs, hDg, sm, hl, he⟩
        obtain ⟨z, hz, hzm, rfl⟩ := mem_map_int hx1
        have hjl := (List.getElem?_eq_some_iff.mp hz).1
        have etk : (rr.take (j + 1)).all (fun z => decide (rr.count z ≤ 1)) = ((rr.take j).all (fun z => decide (rr.count z ≤ 1)) && decide (rr.count z ≤ 1)) := by
          rw [List.take_add_one, hz, List.all_append]
          simp
        refine ⟨rfl, .ref De, rfl, .inl ⟨rfl, _, SqL.of (sm _ _ hDe6)⟩, .int z, rfl, De, rr, z, rfl, rfl, SqL.of (sm _ _ hDe6), _, _, rfl, rfl, _, rfl, ?_⟩
        by_cases h1 : rr.count z ≤ 1
        · rw [decide_eq_false (show ¬ ((rr.count z : Nat) : Int) > 1 by omega)]
          refine iteF ⟨zs, hDg, sm, by omega, ?_⟩
          rw [etk, decide_eq_true h1, he]
          simp
        · rw [decide_eq_true (show ((rr.count z : Nat) : Int) > 1 by omega)]
          refine iteT ⟨zs, hDg, szl (by omega), zs ++ [.int 1], upd_same, fun b o hb' => ?_, by rw [List.length_append]; show _ + 1 ≤ _; omega, ?_⟩
          · rw [upd_ne (ne_of_none hb' nDg)]
            exact sm _ _ hb'
          · rw [etk, decide_eq_false h1, Bool.and_false]
            cases zs <;> rfl
      rintro G ⟨zs, hDg, sm, hl, he⟩
      rw [List.length_map, List.take_length] at he
      refine ⟨by show 0 ≤ sizeLine; decide, fun e1 ne1 => ⟨Dg, e1, zs, rfl, rfl, same_new ne1 _ _ hDg, upd_same, _, rfl, ?_⟩⟩
      have s7 : Same H6 (upd G e1 (.lst [])) := sm.trans (same_new ne1)
      generalize upd G e1 (.lst []) = H7 at s7
      rw [he]
      have hnd : (rr.all fun z => decide (rr.count z ≤ 1)) = true ↔ rr.Nodup := by
        rw [List.all_eq_true, List.nodup_iff_count]
        constructor
        · intro h z
          by_cases hm : z ∈ rr
          · exact of_decide_eq_true (h z hm)
          · rw [List.count_eq_zero_of_not_mem hm]
            exact Nat.zero_le _
        · intro h z _
          exact decide_eq_true (h z)
      by_cases hC : (rr.all fun z => decide (rr.count z ≤ 1)) = true
      rotate_left
      · rw [Bool.eq_false_iff.mpr hC]
        exact iteT (bad _ (en fun z => hC (hnd.mpr z.2.2.2)) (t6.trans s7))
      rw [hC]
      refine iteF ⟨.ref Dd, rfl, Dd, _, rfl, .inl ⟨SqL.of (s7 _ _ (s6 _ _ hDd5)), fun t nt => ⟨by show 2 ≤ sizeLine; decide, fun l nl => ?_⟩⟩⟩
      refine q _ _ (((t6.trans s7).trans (same_new nt)).trans (same_new nl)) ?_
      unfold toldOf
      rw [ey ⟨hn, hok, hj, hnd.mp hC⟩]
      exact .lst upd_same (.cons (.str _) (.cons (.tup (same_new nl _ _ upd_same) (DqA.ints zz)) .nil))
    | _ => cases ht
end
end Kr

namespace Kr
open PySem PySem.Spec PyProof.Rows L2
section
variable {X : Cx}
/-- list(s): its signs -/
def rListS : List V → Hp → VK → Prop := fun xs H Q => ∃ x : Str, xs = [.str x] ∧ x.length ≤ sizeLine ∧ ∀ l, H l = none → Q (.ref l) (upd H l (.lst (x.cps.toList.map fun c => V.str ⟨#[c]⟩)))
theorem call_listS (hc : X.calm = true) : CallR X (.type "list") rListS := by
  intro pins s σ H xs us Q I r h
  obtain ⟨x, rfl, hz, q⟩ := h
  obtain ⟨u, rfl, t, rfl⟩ := vals1 r
  refine call_list_str (I.ok.hd hc) x t (hn := hz) fun h' tk acc c' hk hS ha => ?_
  have hv : Vals (x.cps.toList.map fun c => V.str ⟨#[c]⟩) acc.toList := by
    refine vals_of_at (by rw [List.length_map, Array.length_toList, Array.length_toList, ha.1]) fun j y v h1 h2 => ?_
    obtain ⟨c, w, hc, rfl⟩ := ha.2 j v (by rw [← Array.getElem?_toList]; exact h2)
    rw [List.getElem?_map, Array.getElem?_toList, hc] at h1
    cases Option.some.inj h1
    exact ⟨w, rfl⟩
  refine ⟨.ref s.heap.objs.size, _, I.laid (t' := tk) (o := .lst (x.cps.toList.map fun c => V.str ⟨#[c]⟩)) (fun b o e => hk b o e) (Nat.le_refl _) ?_, rfl, q _ (I.hok.fresh (Nat.le_refl _))⟩
  exact ⟨by rw [List.length_map, Array.length_toList]; exact hz, acc.toList, c', hv, by simpa using hS⟩
/-- s * k -/
def sRep (a : Str) (k : Nat) : Str := ⟨(List.replicate k a.cps).foldl (· ++ ·) #[]⟩
theorem rep_size (a : Array Nat) : ∀ (k : Nat) (b : Array Nat), ((List.replicate k a).foldl (· ++ ·) b).size = b.size + k * a.size
  | 0, b => by simp
  | k + 1, b => by
    rw [List.replicate_succ, List.foldl_cons, rep_size a k (b ++ a), Array.size_append, Nat.succ_mul]
    omega
theorem sRep_len (a : Str) {k : Nat} (h : a.length * k ≤ 100000) : (sRep a k).length ≤ 100000 := by
  show ((List.replicate k a.cps).foldl (· ++ ·) #[]).size ≤ 100000
  rw [rep_size, Nat.mul_comm]
  show 0 + a.length * k ≤ 100000
  omega
theorem rep_mem (a : Array Nat) {c : Nat} : ∀ (k : Nat) (b : Array Nat), c ∈ (List.replicate k a).foldl (· ++ ·) b → c ∈ b ∨ c ∈ a
  | 0, b, h => .inl h
  | k + 1, b, h => by
    rw [List.replicate_succ, List.foldl_cons] at h
    rcases rep_mem a k (b ++ a) h with h | h
    · exact Array.mem_append.mp h
    · exact .inr h
def rRepS : R2 := fun x y H Q => ∃ (a : Str) (k : Int), x = .str a ∧ y = .int k ∧ 2 ≤ k ∧ k ≤ 100000 ∧ 0 < a.length ∧ a.length ≤ 1000 ∧ a.length * k.toNat ≤ 100000 ∧ Q (.str (sRep a k.toNat)) H
theorem op_repS : OpR X (binaryOp .Mult) rRepS := by
  intro pins s σ H x y v u Q I rx ry h
  obtain ⟨a, k, rfl, rfl, k0, k1, a0, a1, hz, q⟩ := h
  obtain ⟨t, rfl⟩ := rx
  obtain ⟨t', rfl⟩ := ry
  refine P.mul_str ?_ ?_ ?_ ?_
  · rw [decide_eq_false (by omega), decide_eq_false (by omega)]
    rfl
  · intro _ _ h
    have : (1000 : Int) ≤ (2 ^ 63 - 1) / k := by
      rw [Int.le_ediv_iff_mul_le (by omega)]
      omega
    omega
  · intro _ _
    exact decide_eq_false (by rw [sizeLine_eq]; omega)
  · rw [if_neg (by omega), if_neg]
    · refine ⟨?_, ⟨.str _, H, I.tok _, ⟨_, rfl⟩, q⟩⟩
      first
        | exact sRep_len a hz
        | exact Nat.le_trans (sRep_len a hz) (by rw [sizeLine_eq]; decide)
        | (show _ ≤ _; exact Nat.le_trans (sRep_len a hz) (by decide))
    · rw [Bool.or_eq_true, beq_iff_eq, beq_iff_eq]
      omega
end
end Kr

namespace Kr
open PySem PySem.Spec PyProof.Rows L2 CwR
section
variable {X : Cx} {a b e : Expr} {es : List Expr} {ta tb te : TE} {t : TA} {op : Operator} {r : R2} {pos : Pos}
/-- an expression behind which some token has been drawn -/
def PE1 (X : Cx) (e : Expr) (t : TE) : Prop := ∀ (pins : List (Addr × Obj)) (s : Shared) (σ : L2.St) (H : Hp) (Q : VK), Inv X pins σ H s → t σ H Q → wpAny (model X.prog X.w) X.A (eval e X.env) (fun u s' => 1 ≤ s'.toks ∧ EP X pins σ Q u s') X.xe s
theorem pe1_str {x : Str} {j : Nat} : PE1 X (.Constant (.str x) j pos) (tC (.str x)) := fun _ s _ H _ I h => Calls.Constant_str ⟨by show 1 ≤ s.toks + 1; omega, .str x, H, I.tok _, ⟨_, rfl⟩, h⟩
theorem pe1_op (ho : OpR X (binaryOp op) r) (ha : PE1 X a ta) (hb : PE X b tb) : PE1 X (.BinOp a op b pos) (tOp r ta tb) := fun pins s σ H Q I h =>
  wpAny_BinOp (wpAny_mono (ha pins s σ H _ I h) (fun v s1 ⟨t1, x, H1, I1, r1, q1⟩ => wpAny_mono (PySem.wpAny_toks (hb.run pins s1 σ H1 _ I1 q1)) (fun u s2 ⟨hk, y, H2, I2, r2, q2⟩ =>
    wpAny_mono (PySem.wpAny_toks (ho pins s2 σ H2 x y v u _ I2 r1 r2 q2)) (fun _ s3 ⟨hk3, q3⟩ => ⟨by omega, q3⟩) fun _ _ z => z.2) fun _ _ z => z.2) fun _ _ z => z)
theorem pa1_cons (ha : PE1 X e te) (hr : PAT X es t) (hs : starEach (e :: es) X.env = (false, eval e X.env) :: starEach es X.env := by rfl) : PA X (e :: es) (tCons te t) := by
  refine ⟨fun pos pins s σ H Q I h => ?_⟩
  rw [hs]
  show wpAny (model X.prog X.w) X.A (spliced ((false, eval e X.env) :: backTo pos (starEach es X.env))) (AP X pins σ Q) X.xe s
  refine Calls.spliced_cons (wpAny_mono (ha pins s σ H _ I h) (fun u s1 ⟨t1, x, H1, I1, r1, q1⟩ => ?_) fun _ _ z => z)
  exact thn (hr pos pins s1 σ H1 _ t1 I1 q1) fun us s2 ⟨xs, H2, I2, r2, q2⟩ => ⟨x :: xs, H2, I2, .cons r1 r2, q2⟩
theorem patK_cons (ha : PET X e te) (hr : PAT X es t) (hs : starEach (e :: es) X.env = (false, eval e X.env) :: starEach es X.env := by rfl) : PAT X (e :: es) (tCons te t) := fun pos pins s σ H Q h0 I h => by
  rw [hs]
  show wpAny (model X.prog X.w) X.A (spliced ((false, eval e X.env) :: backTo pos (starEach es X.env))) (AP X pins σ Q) X.xe s
  refine Calls.spliced_cons (wpAny_mono (PySem.wpAny_toks (ha pins s σ H _ h0 I h)) (fun u s1 ⟨hk, x, H1, I1, r1, q1⟩ => ?_) fun _ _ z => z.2)
  exact thn (hr pos pins s1 σ H1 _ (by omega) I1 q1) fun us s2 ⟨xs, H2, I2, r2, q2⟩ => ⟨x :: xs, H2, I2, .cons r1 r2, q2⟩
theorem patK_of (h : PA X es t) : PAT X es t := fun pos pins s σ H Q _ I q => h.run pos pins s σ H Q I q
end
end Kr

namespace Kr
open PySem PySem.Spec PyProof.Rows L2
def spMixV : Sp := fun vs H Q _ => ∃ (p l a : Addr) (ns : List V), vs = [.ref p, .ref a] ∧ Deck H p l ∧ hid p l H a = some (.lst ns) ∧ ns.length ≤ 1000 ∧
  ∀ (H' : Hp) (f : Addr) (ys : List V), Deck H' p l → Ext p l H H' → hid p l H' f = some (.lst ys) → ys.Perm ns → Q (.ref f) H'
theorem erasev_perm (zs : List V) {k : Nat} (h : k < zs.length) : (zs[k] :: zs.eraseIdx k).Perm zs := by
  rw [List.eraseIdx_eq_take_drop_succ]
  have e : zs = zs.take k ++ zs[k] :: zs.drop (k + 1) := by
    rw [← List.drop_eq_getElem_cons h, List.take_append_drop]
  exact List.perm_middle.symm.trans (.of_eq e.symm)
section
variable {P : Program} {w : World} {K : PySem.W.Frag} {mg : Str → Option Value} {base : Heap}
theorem scMixV : FnScope ["deck", "items", "left", "found"] ["deck", "items"] (defScope sMixed) := ⟨rfl, rfl, rfl, by decide +kernel, rfl, by decide +kernel, by decide +kernel⟩
theorem o_mixV (D : Df K mg "_law_mixed" sMixed ["deck", "items"]) (B : Bi mg) (d : Ok P w K mg base 1 "_law_draw" ["deck", "many"] spDraw) : Ok P w K mg base 2 "_law_mixed" ["deck", "items"] spMixV := by
  refine D.ok fun fa fd F => F.ok scMixV (fun vs H Q E h => ?_) (fun cdv A outer s H vs Q E hr h => ?_)
  · obtain ⟨p, l, a, ns, rfl, _⟩ := h
    rfl
  · obtain ⟨p, l, a, ns, rfl, Dk, ha, hlen, q⟩ := h
    have hu : (cxOf CX0 P w K mg base ["deck", "items", "left", "found"] "_law_mixed" (defScope sMixed) fa cdv A outer s H E).A.units + 64 < cLine := hr.units
    refine ⟨_, pss_cons (ps_par (i := 2) (j := 3) rfl scMixV.nd rfl rfl (by decide) rfl rfl (pa_cons (pe_callTy call_list_of (by rfl) B.list (by decide +kernel) (pa_cons (pv 1) pa_nil)) (pa_cons (pe_lst pa_nil) pa_nil)) (by rfl))
      (pss_cons (ps_while PassesOwn.never (pt_cmpR (op_neN hu) (pv 2) (pe_lst pa_nil) (nomark _))
        (pss_one (ps_expr (pe_bm PySem.F.plainAttrs_list PySem.F.slot_list_append PySem.F.type_list_append mt_append (pv 3) (pa_cons
          (pe_bm PySem.F.plainAttrs_list PySem.F.slot_list_pop PySem.F.type_list_pop mt_popAt (pv 2) (pa_cons (pe_fn d hr (by rfl) (pa_cons (pv 0) (pa_cons (pe_callB call_len_seq (by rfl) B.len boot_len (pa_cons (pv 2) pa_nil)) pa_nil))) pa_nil)) pa_nil)))))
      (pss_one (ps_ret (pv 3)))), ?_⟩
    refine ⟨.ref a, rfl, a, _, rfl, .inl (SqL.of (hid_same p l H _ _ ha)), fun lf nlf => ?_⟩
    obtain ⟨nlp, nll⟩ := Dk.new nlf
    obtain ⟨e1, D1, _⟩ := new_dq (o := .lst ns) Dk nlf
    refine ⟨by show 0 ≤ sizeLine; decide, fun f nf => ?_⟩
    obtain ⟨nfp, nfl⟩ := D1.new nf
    have nff : f ≠ lf := fun z => by rw [z, upd_same] at nf; cases nf
    have nf0 : H f = none := by rw [upd_ne nff] at nf; exact nf
    obtain ⟨e2, D2, _⟩ := new_dq (o := .lst []) D1 nf
    refine ⟨_, _, rfl, ?_⟩
    refine while_by (fun σ H6 => ∃ (zs ys : List V), σ = [some (.ref p), some (.ref a), some (.ref lf), some (.ref f)] ∧ Deck H6 p l ∧ Ext p l H H6 ∧ H6 lf = some (.lst zs) ∧ H6 f = some (.lst ys) ∧ (ys ++ zs).Perm ns)
      (fun σ H6 => match H6 lf with | some (.lst zs) => zs.length | _ => 0) ⟨ns, [], rfl, D2, e1.trans e2, by rw [upd_ne nff.symm, upd_same], upd_same, .refl _⟩ ?_ ?_
    · rintro σ H6 ⟨zs, ys, rfl, D6, E6, hz, hy, hp⟩
      have hll := hp.length_eq
      rw [List.length_append] at hll
      refine ⟨.ref lf, rfl, by show 0 ≤ sizeLine; decide, fun c nc => ?_⟩
      have ncl : c ≠ lf := (ne_of_none hz nc).symm
      have ncf : c ≠ f := (ne_of_none hy nc).symm
      obtain ⟨e7, D7, _⟩ := new_dq (o := .lst []) D6 nc
      have hz7 : upd H6 c (.lst []) lf = some (.lst zs) := by rw [upd_ne ncl.symm]; exact hz
      have hy7 : upd H6 c (.lst []) f = some (.lst ys) := by rw [upd_ne ncf.symm]; exact hy
      have E7 := E6.trans e7
      refine ⟨lf, c, zs, rfl, rfl, hz7, upd_same, _, rfl, ?_⟩
      generalize upd H6 c (.lst []) = H7 at D7 E7 hz7 hy7
      cases zs with
      | nil => exact iteF ⟨.ref f, rfl, q H7 f ys D7 E7 (by rw [hid_ne nfp nfl]; exact hy7) (by rw [List.append_nil] at hp; exact hp)⟩
      | cons z0 zr =>
        refine iteT ?_
        generalize hzz : z0 :: zr = zs at hz7 hp hll hz
        have hpos : 0 < zs.length := by rw [← hzz]; simp
        refine ⟨.ref f, rfl, .inl ⟨rfl, _, SqL.of hy7⟩, .ref lf, rfl, .inl ⟨rfl, _, SqL.of hz7⟩, .ref p, rfl, .ref lf, rfl, lf, _, rfl, .inl (SqL.of hz7), p, l, _, rfl, D7, by omega, fun H8 r D8 E8 h0 h1 => ?_⟩
        have hr : r.toNat < zs.length := by omega
        have hz8 : H8 lf = some (.lst zs) := (hid_some (E8 lf _ (by rw [hid_ne nlp nll]; exact hz7))).2.2
        have hy8 : H8 f = some (.lst ys) := (hid_some (E8 f _ (by rw [hid_ne nfp nfl]; exact hy7))).2.2
        have E9 := E7.trans E8
        refine ⟨lf, zs, r, r.toNat, zs[r.toNat], rfl, rfl, hz8, by omega, by omega, seqIx h0 (by omega), List.getElem?_eq_getElem hr, ?_⟩
        refine ⟨f, ys, zs[r.toNat], rfl, rfl, by rw [upd_ne nff]; exact hy8, szl (by omega), ?_⟩
        refine ⟨⟨zs.eraseIdx r.toNat, ys ++ [zs[r.toNat]], rfl, (D8.mut nlp nll).mut nfp nfl, Ext.mut (Ext.mut E9 nlf) nf0, ?_, ?_, ?_⟩, ?_⟩
        · rw [upd_ne nff.symm, upd_same]
        · rw [upd_same]
        · rw [List.append_assoc]
          exact (List.Perm.append_left ys (erasev_perm zs hr)).trans hp
        · show (match upd (upd H8 lf _) f _ lf with | some (.lst zs) => zs.length | _ => 0) < (match H6 lf with | some (.lst zs) => zs.length | _ => 0)
          rw [upd_ne nff.symm, upd_same, hz]
          show (zs.eraseIdx r.toNat).length < zs.length
          rw [List.length_eraseIdx, if_pos hr]
          omega
    · rintro σ H6 Q1 Q2 hq ⟨x, hx, hs, g⟩
      refine ⟨x, hx, hs, fun c nc => ?_⟩
      obtain ⟨l', b, xs, i1, i2, i3, i4, kk, i5, i6⟩ := g c nc
      exact ⟨l', b, xs, i1, i2, i3, i4, kk, i5, hq _ _ i6⟩
theorem scLT : FnScope ["standing", "item"] ["standing"] (defScope sLawText) := ⟨rfl, rfl, rfl, by decide +kernel, rfl, by decide +kernel, by decide +kernel⟩
theorem o_lawText (D : Df K mg "_law_text" sLawText ["standing"]) (B : Bi mg) : Ok P w K mg base 1 "_law_text" ["standing"] spText := by
  refine D.ok fun f fd F => F.ok scLT (fun vs H Q E h => ?_) (fun cdv A outer s H vs Q E hr h => ?_)
  · obtain ⟨st, ss, rfl, _⟩ := h
    rfl
  · obtain ⟨st, ss, rfl, hst, hl, hb, q⟩ := h
    refine ⟨_, pss_one (ps_ret (pe_join pe_str (pe_lc (own := [("item", 1)]) (g := gName 1) rfl scLT.nd (pi_tup (pv 0)) (blkOk_by (own := [("item", 1)]) (N := ["standing", "item"]) (sc := defScope sLawText) (by decide +kernel)) (fun _ _ _ _ _ => pg_name (i := 1) scLT.nd rfl (.inl rfl)) (fun _ _ _ _ _ => pts_nil)
      (fun _ _ _ _ _ => pe_callTy call_str_int (by rfl) B.str (by decide +kernel) (pa_cons (pv 1) pa_nil))))), ?_⟩
    refine ⟨⟨_, rfl⟩, .ref st, rfl, st, rfl, ⟨_, SqT.of hst⟩, fun Da nDa => lc_tup (K := K) (xs := ss.map V.int) (fun i G => ∃ ws : List Str, G Da = some (.lst (ws.map V.str)) ∧ Same H G ∧ ws = (ss.take i).map nt)
      ⟨[], upd_same, same_new nDa, rfl⟩ (fun i G _ ⟨_, _, sm, _⟩ => SqT.of (sm _ _ hst)) ?_ ?_⟩
    · rintro j _ G hx ⟨ws, hDa, sm, rfl⟩
      obtain ⟨z, hz, hzm, rfl⟩ := mem_map_int hx
      have hzb := hb z hzm
      have hjl := (List.getElem?_eq_some_iff.mp hz).1
      refine ⟨rfl, ?_⟩
      dsimp only [tYes]
      rw [if_pos rfl]
      refine ⟨.int z, rfl, z, rfl, log_small (by omega), _, hDa, szl (by rw [List.length_map, List.length_map, List.length_take]; omega), (ss.take (j + 1)).map nt, ?_, fun b o hb' => ?_, rfl⟩
      · rw [upd_same, List.take_add_one, hz, List.map_append, List.map_append]
        rfl
      · rw [upd_ne (ne_of_none hb' nDa)]
        exact sm _ _ hb'
    · rintro G ⟨ws, hDa, sm, rfl⟩
      rw [List.length_map, List.take_length] at hDa
      refine ⟨_, Da, _, rfl, rfl, .inl (SqL.of hDa), ?_, q _ sm⟩
      have h2 := sum_len (ys := ss.map nt) fun y hy => by
        obtain ⟨z, hz, rfl⟩ := List.mem_map.mp hy
        have := hb z hz
        exact nt_len this.1 this.2
      have h1 : (" " : Str).length = 1 := by decide
      rw [h1]
      rw [List.length_map] at h2 ⊢
      omega
end
end Kr

namespace Kr
open PySem PySem.Spec PyProof.Rows L2 Builtin.Str
/-! ### the signs of what repr shows -/
def low (x : Str) : Prop := ∀ c ∈ x.cps, c < 16 ^ 8
theorem chr_lt (c : Char) : c.toNat < 16 ^ 8 := c.val.toNat_lt
theorem low_lit (s : String) : low (Str.ofString s) := fun c h => by
  rw [Str.ofString_eq_toList] at h
  have h' : c ∈ s.toList.map Char.toNat := by simpa using h
  obtain ⟨d, _, rfl⟩ := List.mem_map.mp h'
  exact chr_lt d
theorem low_app {a b : Str} (ha : low a) (hb : low b) : low (a ++ b) := fun c h => by
  have h' : c ∈ a.cps ++ b.cps := h
  rcases Array.mem_append.mp h' with h | h
  · exact ha c h
  · exact hb c h
theorem low_join {y : Str} (hy : low y) : ∀ {ts : List Str}, (∀ t ∈ ts, low t) → low (Str.join y ts)
  | [], _ => fun c h => by
    have : c ∈ (#[] : Array Nat) := h
    simp at this
  | [t], h => h t List.mem_cons_self
  | t :: u :: r, h => low_app (low_app (h t List.mem_cons_self) hy) (low_join hy fun z hz => h z (List.mem_cons_of_mem _ hz))
theorem low_from : ∀ {ts : List Str} {k : Nat} {acc : Str}, low acc → (∀ t ∈ ts, low t) → low (textFrom k acc ts)
  | [], _, _, ha, _ => ha
  | t :: r, k, acc, ha, h => by
    refine low_from (ts := r) (k := k + 1) (low_app (low_app ha ?_) (h t List.mem_cons_self)) fun z hz => h z (List.mem_cons_of_mem _ hz)
    split <;> exact low_lit _
theorem low_chr {q c : Nat} (hq : q < 16 ^ 8) (hc : c < 16 ^ 8) : ∀ d ∈ reprChar q c, d < 16 ^ 8 := by
  have hex : ∀ wd : Nat, ∀ d ∈ (List.replicate (wd - ((Nat.toDigits 16 c).map Char.toNat).length) 48 ++ (Nat.toDigits 16 c).map Char.toNat), d < 16 ^ 8 := fun wd d h => by
    rcases List.mem_append.mp h with h | h
    · rw [(List.mem_replicate.mp h).2]; decide
    · obtain ⟨e, _, rfl⟩ := List.mem_map.mp h
      exact chr_lt e
  have two : ∀ a b : Nat, a < 16 ^ 8 → b < 16 ^ 8 → ∀ d ∈ [a, b], d < 16 ^ 8 := fun a b ha hb d h => by
    simp only [List.mem_cons, List.not_mem_nil, or_false] at h
    rcases h with rfl | rfl
    · exact ha
    · exact hb
  intro d h
  unfold reprChar at h
  dsimp only at h
  split at h
  · exact two _ _ (by decide) hc d h
  split at h
  · exact two _ _ (by decide) (by decide) d h
  split at h
  · exact two _ _ (by decide) (by decide) d h
  split at h
  · exact two _ _ (by decide) (by decide) d h
  split at h
  · rw [List.mem_singleton.mp h]; exact hc
  split at h
  · rcases List.mem_append.mp h with h | h
    · exact two _ _ (by decide) (by decide) d h
    · exact hex 2 d h
  split at h
  · rcases List.mem_append.mp h with h | h
    · exact two _ _ (by decide) (by decide) d h
    · exact hex 4 d h
  · rcases List.mem_append.mp h with h | h
    · exact two _ _ (by decide) (by decide) d h
    · exact hex 8 d h
theorem low_fold {q : Nat} (hq : q < 16 ^ 8) : ∀ (l : List Nat) (acc : Array Nat), (∀ c ∈ acc, c < 16 ^ 8) → (∀ c ∈ l, c < 16 ^ 8) → ∀ c ∈ l.foldl (fun out c => out ++ (reprChar q c).toArray) acc, c < 16 ^ 8
  | [], acc, ha, _ => ha
  | x :: r, acc, ha, hl => by
    rw [List.foldl_cons]
    refine low_fold hq r _ (fun c hc => ?_) fun c hc => hl c (List.mem_cons_of_mem _ hc)
    rcases Array.mem_append.mp hc with hc | hc
    · exact ha c hc
    · exact low_chr hq (hl x List.mem_cons_self) c (by simpa using hc)
theorem quote_lt (x : Str) : reprQuote x < 16 ^ 8 := by
  unfold reprQuote
  split <;> decide
theorem low_repr {x : Str} (h : low x) : low (reprText x) := fun c hc => by
  unfold reprText at hc
  rw [← Array.foldl_toList] at hc
  rcases Array.mem_push.mp hc with hc | hc
  · refine low_fold (quote_lt x) _ _ (fun d hd => ?_) (fun d hd => h d (Array.mem_toList_iff.mp hd)) c hc
    have : d = reprQuote x := by simpa using hd
    rw [this]
    exact quote_lt x
  · rw [hc]; exact quote_lt x
mutual
theorem shown_low {B : Nat} : ∀ (d : PyData), d.leavesShort B = true → low d.shown
  | .none, _ => low_lit _
  | .bool b, _ => by
    unfold PyData.shown
    split <;> exact low_lit _
  | .int i, _ => by
    unfold PyData.shown
    exact low_lit _
  | .str x, h => by
    unfold PyData.shown
    refine low_repr fun c hc => ?_
    unfold PyData.leavesShort at h
    rw [List.all_eq_true] at h
    exact of_decide_eq_true (h c (Array.mem_toList_iff.mpr hc))
  | .list xs, h => by
    unfold PyData.shown
    unfold PyData.leavesShort at h
    exact low_app (low_from (low_lit _) (shownAll_low xs h)) (low_lit _)
  | .tuple xs, h => by
    unfold PyData.shown
    unfold PyData.leavesShort at h
    unfold tupleText
    refine low_app (low_app (low_lit _) (low_join (low_lit _) (shownAll_low xs h))) ?_
    split <;> exact low_lit _
  | .dict kvs, h => by
    unfold PyData.shown
    unfold PyData.leavesShort at h
    unfold dictText
    exact low_app (low_app (low_lit _) (low_join (low_lit _) (shownKv_low kvs h))) (low_lit _)
theorem shownAll_low {B : Nat} : ∀ (ds : List PyData), PyData.leavesShortAll B ds = true → ∀ t ∈ PyData.shownAll ds, low t
  | [], _, _, ht => nomatch ht
  | d :: ds, h, t, ht => by
    unfold PyData.leavesShortAll at h
    rw [Bool.and_eq_true] at h
    unfold PyData.shownAll at ht
    rcases List.mem_cons.mp ht with ht | ht
    · rw [ht]; exact shown_low d h.1
    · exact shownAll_low ds h.2 t ht
theorem shownKv_low {B : Nat} : ∀ (kvs : List (PyData × PyData)), PyData.leavesShortKv B kvs = true → ∀ t ∈ PyData.shownKv kvs, low t
  | [], _, _, ht => nomatch ht
  | (k, v) :: r, h, t, ht => by
    unfold PyData.leavesShortKv at h
    rw [Bool.and_eq_true, Bool.and_eq_true] at h
    unfold PyData.shownKv at ht
    rcases List.mem_cons.mp ht with ht | ht
    · rw [ht]; exact low_app (low_app (shown_low k h.1.1) (low_lit _)) (shown_low v h.1.2)
    · exact shownKv_low r h.2 t ht
end
end Kr

namespace Kr
open PySem PySem.Spec PyProof.Rows L2 CwR
/-! ### texts of some length, their signs small -/
def Tl (N : Nat) (x : Str) : Prop := x.length ≤ N ∧ low x
theorem Tl.mono {N M : Nat} {x : Str} (h : Tl N x) (hn : N ≤ M) : Tl M x := ⟨Nat.le_trans h.1 hn, h.2⟩
theorem sm_str {N : Nat} {x : Str} (h : Tl N x) : Sm 1 N (.str x) := by
  refine ⟨by simp [PyData.showable], ?_, by simp [PyData.depth], ?_⟩
  · simp only [PyData.leavesShort, List.all_eq_true]
    exact fun c hc => decide_eq_true (h.2 c (Array.mem_toList_iff.mp hc))
  · exact h.1
theorem tl_app {N M : Nat} {a b : Str} (ha : Tl N a) (hb : Tl M b) : Tl (N + M) (a ++ b) := by
  refine ⟨?_, low_app ha.2 hb.2⟩
  have e : (a ++ b).length = a.length + b.length := Array.size_append
  rw [e]
  exact Nat.add_le_add ha.1 hb.1
theorem tl_cut {N : Nat} {a : Str} (ha : Tl N a) (lo hi : Option Int) : Tl N (cutS a lo hi) := by
  refine ⟨Nat.le_trans (cutS_length a lo hi) ha.1, fun c hc => ?_⟩
  unfold cutS at hc
  have h' := List.mem_toArray.mp hc
  exact ha.2 c (Array.mem_toList_iff.mp (List.mem_of_mem_drop (List.mem_of_mem_take h')))
theorem tl_lit {N : Nat} (s : String) (h : (Str.ofString s).length ≤ N) : Tl N (Str.ofString s) := ⟨h, low_lit s⟩
theorem tl_join {N : Nat} : ∀ {us : List Str}, (∀ u ∈ us, Tl N u) → Tl ((N + 1) * us.length) (Txt.join " " us) := by
  intro us h
  rw [TL.join_eq]
  refine ⟨?_, low_join (low_lit _) fun u hu => (h u hu).2⟩
  induction us with
  | nil => exact Nat.zero_le _
  | cons u r ih =>
    cases r with
    | nil =>
      have := (h u List.mem_cons_self).1
      show u.length ≤ (N + 1) * 1
      omega
    | cons v r =>
      have i := ih fun z hz => h z (List.mem_cons_of_mem _ hz)
      have hu := (h u List.mem_cons_self).1
      have e : (Str.join " " (u :: v :: r)).length = u.length + 1 + (Str.join " " (v :: r)).length := by
        show (u ++ " " ++ Str.join " " (v :: r)).length = _
        show (u.cps ++ (" " : Str).cps ++ (Str.join " " (v :: r)).cps).size = _
        rw [Array.size_append, Array.size_append]
        rfl
      rw [e, List.length_cons, Nat.mul_succ]
      omega
/-- a text that is reckoned -/
def EvX (te : TE) (σ : L2.St) (P : Str → Prop) : Prop := ∀ (H : Hp) (Q : VK), (∀ y, P y → Q (.str y) H) → te σ H Q
def EvO (to : TO) (σ : L2.St) : Prop := ∀ (H : Hp) (Q : Option Int → Hp → Prop), (∀ o, Q o H) → to σ H Q
section
variable {p l : Addr} {σ : L2.St} {H : Hp} {te ta' tb : TE} {ta : TA} {R S R' : PyData → Prop} {n m N M : Nat} {K : PySem.W.Frag} {P P' : Str → Prop} {tlo thi : TO}
theorem ex_v {i : Nat} {x : Str} (h : σ[i]? = some (some (.str x))) (hp : P x) : EvX (tVar i) σ P := fun _ _ q => ⟨_, h, q x hp⟩
theorem ex_c {x : Str} (hp : P x) : EvX (tC (.str x)) σ P := fun _ _ q => q x hp
theorem eo_no : EvO tNoPart σ := fun _ _ q => q _
theorem eo_some {i : Int} (h : EvI te σ i) : EvO (tPart te) σ := fun H Q q => h H _ ⟨i, rfl, q _⟩
theorem ex_sl (h : EvX te σ (Tl N)) (hn : N ≤ 100000) (hl : EvO tlo σ) (hh : EvO thi σ) : EvX (tSl rSlS te tlo thi) σ (Tl N) := fun H Q q =>
  h H _ fun x hx => hl H _ fun lo => hh H _ fun hi => ⟨x, rfl, sz (Nat.le_trans hx.1 hn), q _ (tl_cut hx lo hi)⟩
theorem ex_add (ha : EvX ta' σ (Tl N)) (hb : EvX tb σ (Tl M)) (hn : N + M ≤ 100000) : EvX (tOp (fun x y H Q => ∃ i j, x = V.str i ∧ y = V.str j ∧ i.length + j.length ≤ sizeLine ∧ Q (.str (i ++ j)) H) ta' tb) σ (Tl (N + M)) := fun H Q q =>
  ha H _ fun x hx => hb H _ fun y hy => ⟨x, y, rfl, rfl, sz (Nat.le_trans (Nat.add_le_add hx.1 hy.1) hn), q _ (tl_app hx hy)⟩
theorem ex_rep {k : Int} {x : Str} (h0 : 2 ≤ k) (h1 : k ≤ 100000) (hx : Tl 1000 x) (hx0 : 0 < x.length) (hz : x.length * k.toNat ≤ 100000) (hN : x.length * k.toNat ≤ N) : EvX (tOp rRepS (tC (.str x)) (tC (.int k))) σ (Tl N) := fun H Q q =>
  ⟨x, k, rfl, rfl, h0, h1, hx0, hx.1, hz, q _ ⟨by
    show ((List.replicate k.toNat x.cps).foldl (· ++ ·) #[]).size ≤ N
    rw [rep_size, Nat.mul_comm]
    show 0 + x.length * k.toNat ≤ N
    omega, fun c hc => by
    rcases rep_mem x.cps k.toNat #[] hc with h | h
    · simp at h
    · exact hx.2 c h⟩⟩
theorem EvX.data (h : EvX te σ P) (r : ∀ y, P y → R (.str y)) : EvP p l te σ H R := fun H1 e D Q q => h H1 Q fun y hy => q _ H1 _ Ext.rfl D (.str y) (r y hy)
/-! ### lists of texts, by their signs in all -/
def IsS (N : Nat) (d : PyData) : Prop := ∃ u, d = .str u ∧ Tl N u
def tot : List Str → Nat
  | [] => 0
  | u :: r => u.length + 1 + tot r
def LT (T : Nat) (d : PyData) : Prop := ∃ us : List Str, d = .list (us.map .str) ∧ tot us ≤ T ∧ ∀ u ∈ us, low u
theorem tot_app : ∀ us vs : List Str, tot (us ++ vs) = tot us + tot vs
  | [], vs => by simp [tot]
  | u :: r, vs => by
    show u.length + 1 + tot (r ++ vs) = u.length + 1 + tot r + tot vs
    rw [tot_app r vs]
    omega
theorem tot_take (k : Nat) (us : List Str) : tot (us.take k) ≤ tot us := by
  have := tot_app (us.take k) (us.drop k)
  rw [List.take_append_drop] at this
  omega
theorem tot_drop (k : Nat) (us : List Str) : tot (us.drop k) ≤ tot us := by
  have := tot_app (us.take k) (us.drop k)
  rw [List.take_append_drop] at this
  omega
theorem tot_len : ∀ us : List Str, us.length ≤ tot us
  | [] => Nat.le_refl _
  | u :: r => by
    have := tot_len r
    show r.length + 1 ≤ u.length + 1 + tot r
    omega
theorem tot_join : ∀ us : List Str, us ≠ [] → (Str.join " " us).length + 1 = tot us
  | [u], _ => by
    show u.length + 1 = u.length + 1 + 0
    omega
  | u :: v :: r, _ => by
    have h := tot_join (v :: r) (by simp)
    have e : (Str.join " " (u :: v :: r)).length = u.length + 1 + (Str.join " " (v :: r)).length := by
      show (u.cps ++ (" " : Str).cps ++ (Str.join " " (v :: r)).cps).size = _
      rw [Array.size_append, Array.size_append]
      rfl
    show _ = u.length + 1 + tot (v :: r)
    omega
theorem tot_mem : ∀ {us : List Str} {u : Str}, u ∈ us → u.length + 1 ≤ tot us
  | v :: r, u, h => by
    show _ ≤ v.length + 1 + tot r
    rcases List.mem_cons.mp h with h | h
    · rw [h]; omega
    · have := tot_mem h
      omega
theorem tot_perm {us vs : List Str} (h : us.Perm vs) : tot us = tot vs := by
  induction h with
  | nil => rfl
  | cons x _ ih => show _ + tot _ = _ + tot _; rw [ih]
  | swap x y r => show y.length + 1 + (x.length + 1 + tot r) = x.length + 1 + (y.length + 1 + tot r); omega
  | trans _ _ a b => rw [a, b]
theorem tl_joinT {T : Nat} {us : List Str} (h : tot us ≤ T) (hl : ∀ u ∈ us, low u) : Tl T (Txt.join " " us) := by
  rw [TL.join_eq]
  refine ⟨?_, low_join (low_lit _) hl⟩
  by_cases he : us = []
  · subst he
    exact Nat.zero_le _
  · have := tot_join us he
    omega
theorem dqa_map {G : Hp} : ∀ us : List Str, DqA G (us.map V.str) (us.map PyData.str)
  | [] => .nil
  | u :: r => .cons (.str u) (dqa_map r)
theorem dq_LT {G : Hp} {v : V} {us : List Str} (h : Dq G v (.list (us.map .str))) : ∃ a, v = .ref a ∧ G a = some (.lst (us.map V.str)) := by
  generalize e : PyData.list (us.map .str) = d at h
  cases h with
  | @lst a xs ds ea q =>
    cases e
    refine ⟨a, rfl, ?_⟩
    have : xs = us.map V.str := by
      clear ea
      induction us generalizing xs with
      | nil => cases q; rfl
      | cons n ns ih =>
        cases q with
        | cons q1 q2 =>
          cases q1
          rw [ih q2]
          rfl
    rw [← this]
    exact ea
  | _ => cases e
theorem cutV_str (us : List Str) (lo hi : Option Int) : ∃ vs : List Str, cutV (us.map V.str) lo hi = vs.map V.str ∧ tot vs ≤ tot us ∧ ∀ v ∈ vs, v ∈ us := by
  unfold cutV
  rw [List.length_map, ← List.map_drop, ← List.map_take]
  exact ⟨_, rfl, Nat.le_trans (tot_take _ _) (tot_drop _ _), fun v hv => List.mem_of_mem_drop (List.mem_of_mem_take hv)⟩
theorem ev_slL {T : Nat} (h : EvP p l te σ H (LT T)) (hl : EvO tlo σ) (hh : EvO thi σ) : EvP p l (tSl (rSlL K) te tlo thi) σ H (LT T) := fun H1 e D Q q =>
  h H1 e D _ fun v H2 d e2 D2 hd hr => hl H2 _ fun lo => hh H2 _ fun hi => by
    obtain ⟨us, rfl, h1, h2⟩ := hr
    obtain ⟨a, rfl, ha⟩ := dq_LT hd
    refine ⟨a, _, rfl, SqL.of (hid_same p l _ _ _ ha), fun c nc => ?_⟩
    obtain ⟨vs, e1, e2', e3⟩ := cutV_str us lo hi
    rw [e1]
    obtain ⟨e4, D4, hc⟩ := new_dq (o := .lst (vs.map V.str)) D2 nc
    exact q _ _ _ (e2.trans e4) D4 (.lst hc (dqa_map vs)) ⟨vs, rfl, Nat.le_trans e2' h1, fun v hv => h2 v (e3 v hv)⟩
theorem ev_catL {T U : Nat} (ha : EvP p l ta' σ H (LT T)) (hb : EvP p l tb σ H (LT U)) (hnm : T + U ≤ 100000) : EvP p l (tOp rCat ta' tb) σ H (LT (T + U)) := fun H1 e D Q q =>
  ha H1 e D _ fun v H2 d e2 D2 hd hr => hb H2 (e.trans e2) D2 _ fun v' H3 d' e3 D3 hd' hr' => by
    obtain ⟨us, rfl, l1, r1⟩ := hr
    obtain ⟨vs, rfl, l2, r2⟩ := hr'
    obtain ⟨a, rfl, ha'⟩ := dq_LT (hd.up e3)
    obtain ⟨b, rfl, hb'⟩ := dq_LT hd'
    have t1 := tot_len us
    have t2 := tot_len vs
    refine ⟨a, b, _, _, rfl, rfl, hid_same p l _ _ _ ha', hid_same p l _ _ _ hb', sz (by rw [List.length_map, List.length_map]; omega), fun c nc => ?_⟩
    rw [← List.map_append]
    obtain ⟨e4, D4, hc⟩ := new_dq (o := .lst ((us ++ vs).map V.str)) D3 nc
    refine q _ _ _ (e2.trans (e3.trans e4)) D4 (.lst hc (dqa_map _)) ⟨us ++ vs, rfl, by rw [tot_app]; omega, fun x hx => ?_⟩
    rcases List.mem_append.mp hx with hx | hx
    · exact r1 x hx
    · exact r2 x hx
theorem ev_join {T : Nat} (h : EvP p l te σ H (LT T)) (hn : T ≤ 100000) (r : ∀ y, Tl T y → R (.str y)) :
    EvP p l (tM1 (fun x xs H Q => ∃ a p, ∃ ys : List Str, x = .str a ∧ xs = [.ref p] ∧ (SqL K H p (ys.map V.str) ∨ SqT K H p (ys.map V.str)) ∧ (ys.map (·.length)).sum + ys.length * a.length ≤ 16777216 ∧ Q (.str (Txt.join a ys)) H) (tC (.str " ")) te) σ H R := fun H1 e D Q q =>
  ⟨⟨_, rfl⟩, h H1 e D _ fun v H2 d e2 D2 hd hr => by
    obtain ⟨us, rfl, l1, r1⟩ := hr
    obtain ⟨a, rfl, ha⟩ := dq_LT hd
    refine ⟨" ", a, us, rfl, rfl, .inl (SqL.of (hid_same p l _ _ _ ha)), ?_, q _ _ _ e2 D2 (.str _) (r _ (tl_joinT l1 r1))⟩
    have hs : ∀ us : List Str, (us.map (·.length)).sum + us.length = tot us := fun us => by
      induction us with
      | nil => rfl
      | cons u r ih =>
        rw [List.map_cons, List.sum_cons, List.length_cons]
        show _ = u.length + 1 + tot r
        omega
    have h1 := hs us
    have h2 : (" " : Str).length = 1 := by decide
    rw [h2]
    omega⟩
end
end Kr

namespace Kr
open PySem PySem.Spec PyProof.Rows L2 CwR
theorem mem_join {y : Str} {c : Nat} : ∀ {us : List Str} {u : Str}, u ∈ us → c ∈ u.cps → c ∈ (Str.join y us).cps
  | [v], u, hu, hc => by
    rw [List.mem_singleton.mp hu] at hc
    exact hc
  | v :: w :: r, u, hu, hc => by
    show c ∈ (v.cps ++ y.cps ++ (Str.join y (w :: r)).cps)
    rcases List.mem_cons.mp hu with hu | hu
    · rw [hu] at hc
      exact Array.mem_append.mpr (.inl (Array.mem_append.mpr (.inl hc)))
    · exact Array.mem_append.mpr (.inr (mem_join hu hc))
theorem words_tl {N : Nat} {x : Str} (h : Tl N x) : ∀ w ∈ Txt.split x " ", Tl N w := fun w hw => by
  refine ⟨Nat.le_trans ((split_bd x).1 w hw) h.1, fun c hc => h.2 c ?_⟩
  have := mem_join (y := " ") hw hc
  rw [← TL.join_eq, join_back] at this
  exact this
theorem blank_is : (" " : Str) = ⟨#[32]⟩ := by decide
theorem tl_repl {N : Nat} {x : Str} (h : Tl N x) : Tl (2 * N + 1) (Txt.replace x " " ",") := by
  refine ⟨?_, ?_⟩
  · have := TK.replace_len x " " ","
    have e : (("," : Str).length) = 1 := by decide
    rw [e] at this
    have := h.1
    omega
  · rw [blank_is, StrLaws.replace_one, ← blank_is]
    exact low_join (low_lit _) fun w hw => (words_tl h w hw).2
abbrev S3 (d : PyData) : Prop := Sm 3 6000 d
theorem s3_str {N : Nat} {y : Str} (h : Tl N y) (hn : N ≤ 6000) : S3 (.str y) := (sm_str h).mono (by decide) hn
theorem seq_par_ev {p l : Addr} {te te2 : TE} {i j : Nat} {u : TS} {D : Ends} {σ : L2.St} {H : Hp} {R : PyData → Prop} (h : EvP p l te σ H R) (Dk : Deck H p l)
    (k : ∀ v H2 d, Ext p l H H2 → Deck H2 p l → Dq (hid p l H2) v d → R d → te2 σ H2 fun v2 H3 => ∃ x y, [v, v2] = [x, y] ∧ u D ((σ.set i (some x)).set j (some y)) H3) : tSeq (tPar i j (tCons te (tCons te2 tNil))) u D σ H := h H Ext.rfl Dk _ k
theorem ev_listS {p l : Addr} {σ : L2.St} {H : Hp} {z : String} (h0 : 0 < (Str.ofString z).length) (h1 : (Str.ofString z).length ≤ 100) :
    EvP p l (tCB rListS (tCons (tC (.str (Str.ofString z))) tNil)) σ H (AllL (IsS 10) 100) := fun H1 e D Q q =>
  ⟨Str.ofString z, rfl, sz (by omega), fun c nc => by
    obtain ⟨e4, D4, hc⟩ := new_dq (o := .lst ((Str.ofString z).cps.toList.map fun c => V.str ⟨#[c]⟩)) D nc
    have hq : ∀ (G : Hp) (cs : List Nat), DqA G (cs.map fun c => V.str ⟨#[c]⟩) (cs.map fun c => PyData.str ⟨#[c]⟩) := fun G cs => by
      induction cs with
      | nil => exact .nil
      | cons c r ih => exact .cons (.str _) ih
    have hl : (Str.ofString z).cps.toList.length = (Str.ofString z).length := Array.length_toList
    refine q _ _ _ e4 D4 (.lst hc (hq _ _)) ⟨_, rfl, by rw [List.length_map, hl]; exact ⟨h0, h1⟩, fun d hd => ?_⟩
    obtain ⟨c, hcm, rfl⟩ := List.mem_map.mp hd
    refine ⟨_, rfl, by show 1 ≤ 10; decide, fun k hk => ?_⟩
    have : k = c := by simpa using hk
    rw [this]
    exact low_lit z c (Array.mem_toList_iff.mp hcm)⟩
def spSpoilt3 : Sp := fun vs H Q _ => ∃ (p l : Addr) (x : Str), vs = [.ref p, .str x] ∧ Deck H p l ∧ Tl 72 x ∧
  ∀ (H' : Hp) (r : V) (d : PyData), Deck H' p l → Ext p l H H' → Dq (hid p l H') r d → S3 d → Q r H'
abbrev nS3 : List Str := ["deck", "text", "at", "way", "words", "sign", "spot", "odd"]
theorem ls_LT {N : Nat} {ds : List PyData} (h : ∀ d ∈ ds, IsS N d) : LT ((N + 1) * ds.length) (.list ds) := by
  have : ∀ ds : List PyData, (∀ d ∈ ds, IsS N d) → ∃ us : List Str, ds = us.map .str ∧ tot us ≤ (N + 1) * ds.length ∧ ∀ u ∈ us, low u := fun ds => by
    induction ds with
    | nil => intro _; exact ⟨[], rfl, Nat.le_refl _, fun _ h => nomatch h⟩
    | cons d r ih =>
      intro h
      obtain ⟨us, e1, e2, e3⟩ := ih fun z hz => h z (List.mem_cons_of_mem _ hz)
      obtain ⟨u, rfl, hu⟩ := h d List.mem_cons_self
      refine ⟨u :: us, by rw [e1]; rfl, ?_, fun z hz => ?_⟩
      · rw [List.length_cons, Nat.mul_succ]
        show u.length + 1 + tot us ≤ _
        have := hu.1
        omega
      · rcases List.mem_cons.mp hz with hz | hz
        · rw [hz]; exact hu.2
        · exact e3 z hz
  obtain ⟨us, rfl, e2, e3⟩ := this ds h
  exact ⟨us, rfl, e2, e3⟩
theorem LT.mono {T U : Nat} {d : PyData} (h : LT T d) (hn : T ≤ U) : LT U d := by
  obtain ⟨us, e, h1, h2⟩ := h
  exact ⟨us, e, Nat.le_trans h1 hn, h2⟩
theorem perm_strs {ys : List V} {ws : List Str} (h : ys.Perm (ws.map V.str)) : ∃ us : List Str, ys = us.map V.str ∧ us.Perm ws := by
  let g : V → Str := fun v => match v with | .str u => u | _ => ""
  refine ⟨ys.map g, ?_, ?_⟩
  · rw [List.map_map]
    refine (List.map_id ys).symm.trans (List.map_congr_left fun v hv => ?_)
    obtain ⟨u, _, rfl⟩ := List.mem_map.mp (h.mem_iff.mp hv)
    rfl
  · have := h.map g
    rw [List.map_map] at this
    exact this.trans (.of_eq (List.map_id ws))
section
variable {P : Program} {w : World} {K : PySem.W.Frag} {mg : Str → Option Value} {base : Heap}
theorem scS3 : FnScope nS3 ["deck", "text"] (defScope sSpoilt) := ⟨rfl, rfl, rfl, by decide +kernel, rfl, by decide +kernel, by decide +kernel⟩
theorem o_spoilt3 (D : Df K mg "_law_spoilt" sSpoilt ["deck", "text"]) (B : Bi mg) (d : Ok P w K mg base 1 "_law_draw" ["deck", "many"] spDraw) (dp : Ok P w K mg base 2 "_law_pick" ["deck", "items"] spPick) (dm : Ok P w K mg base 2 "_law_mixed" ["deck", "items"] spMixV) :
    Ok P w K mg base 3 "_law_spoilt" ["deck", "text"] spSpoilt3 := by
  refine D.ok fun f fd F => F.ok scS3 (fun vs H Q E h => ?_) (fun cdv A outer s H vs Q E hr h => ?_)
  · obtain ⟨p, l, x, rfl, _⟩ := h
    rfl
  · obtain ⟨p, l, x, rfl, Dk, hx, q⟩ := h
    have hr1 := hr.mono (show 1 ≤ 2 by decide)
    refine ⟨_, pss_cons (ps_par3 (i := 2) (j := 3) (l := 4) rfl scS3.nd rfl rfl rfl (by decide) (by decide) (by decide) rfl rfl rfl (pa_cons (pe_fn d hr1 (by rfl) (pa_cons (pv 0) (pa_cons (pe_op op_add (pe_callB call_len_str (by rfl) B.len boot_len (pa_cons (pv 1) pa_nil)) pe_int) pa_nil)))
          (pa_cons (pe_fn d hr1 (by rfl) (pa_cons (pv 0) (pa_cons pe_int pa_nil))) (pa_cons (pe_split (pv 1) pe_str) pa_nil))) (by rfl))
      (pss_cons (ps_par (i := 5) (j := 6) rfl scS3.nd rfl rfl (by decide) rfl rfl (pa_cons (pe_fn dp hr (by rfl) (pa_cons (pv 0) (pa_cons (pe_op op_cat (pe_callTy (call_listS rfl) (by rfl) B.list (by decide +kernel) (pa_cons pe_str pa_nil)) (pe_lst (pa_cons pe_str (pa_cons pe_str (pa_cons pe_str (pa_cons pe_str (pa_cons pe_str pa_nil))))))) pa_nil)))
          (pa_cons (pe_fn d hr1 (by rfl) (pa_cons (pv 0) (pa_cons (pe_callB call_len_seq (by rfl) B.len boot_len (pa_cons (pv 4) pa_nil)) pa_nil))) pa_nil)) (by rfl))
      (pss_cons (ps_if (pt_cmpR op_eq (pv 3) pe_int (nomark _)) (pss_one (ps_ret (pe_op op_add_str (pe_slice sl_str (pv 1) po_none (po_some (pv 2))) (pe_slice sl_str (pv 1) (po_some (pe_op op_add (pv 2) pe_int)) po_none)))) pss_nil)
      (pss_cons (ps_if (pt_cmpR op_eq (pv 3) pe_int (nomark _)) (pss_one (ps_ret (pe_op op_add_str (pe_op op_add_str (pe_slice sl_str (pv 1) po_none (po_some (pv 2))) (pv 5)) (pe_slice sl_str (pv 1) (po_some (pv 2)) po_none)))) pss_nil)
      (pss_cons (ps_if (pt_cmpR op_eq (pv 3) pe_int (nomark _)) (pss_one (ps_ret (pe_op op_add_str (pe_op op_add_str (pe_slice sl_str (pv 1) po_none (po_some (pv 2))) (pv 5)) (pe_slice sl_str (pv 1) (po_some (pe_op op_add (pv 2) pe_int)) po_none)))) pss_nil)
      (pss_cons (ps_if (pt_cmpR op_eq (pv 3) pe_int (nomark _)) (pss_one (ps_ret (pe_op op_add_str (pe_op op_add_str (pe_slice sl_str (pv 1) po_none (po_some (pv 2))) (pe_slice sl_str (pv 1) (po_some (pv 2)) (po_some (pe_op op_add (pv 2) pe_int)))) (pe_slice sl_str (pv 1) (po_some (pv 2)) po_none)))) pss_nil)
      (pss_cons (ps_if (pt_cmpR op_eq (pv 3) pe_int (nomark _)) (pss_one (ps_ret (pe_join pe_str (pe_fn dm hr (by rfl) (pa_cons (pv 0) (pa_cons (pv 4) pa_nil)))))) pss_nil)
      (pss_cons (ps_if (pt_cmpR op_eq (pv 3) pe_int (nomark _)) (pss_one (ps_ret (pe_join pe_str (pe_op op_cat (pe_op op_cat (pe_slice sl_list (pv 4) po_none (po_some (pv 6))) (pe_lst (pa_cons (pe_fn dp hr (by rfl) (pa_cons (pv 0) (pa_cons (pe_op op_cat (pv 4) (pe_lst (pa_cons pe_str (pa_cons pe_str (pa_cons pe_str (pa_cons pe_str (pa_cons pe_str pa_nil))))))) pa_nil))) pa_nil)))
          (pe_slice sl_list (pv 4) (po_some (pe_op op_add (pv 6) pe_int)) po_none))))) pss_nil)
      (pss_cons (ps_if (pt_cmpR op_eq (pv 3) pe_int (nomark _)) (pss_one (ps_ret (pe_join pe_str (pe_op op_cat (pe_op op_cat (pe_slice sl_list (pv 4) po_none (po_some (pv 6))) (pe_slice sl_list (pv 4) (po_some (pe_op op_add (pv 6) pe_int)) po_none))
          (pe_fn dp hr (by rfl) (pa_cons (pv 0) (pa_cons (pe_lst (pa_cons (pe_lst pa_nil) (pa_cons (pe_lst (pa_cons (pe_ix ix_list (pv 4) pe_int (fun _ _ => rfl)) pa_nil)) (pa_cons (pe_lst (pa_cons pe_str (pa_cons pe_str pa_nil))) (pa_cons (pe_lst (pa_cons pe_str pa_nil)) pa_nil))))) pa_nil))))))) pss_nil)
      (pss_cons (ps_set (i := 7) scS3.nd rfl (.inl rfl) (pe_lst (pa_cons pe_non (pa_cons pe_int (pa_cons pe_bl (pa_cons (pe_lst (pa_cons (pv 1) pa_nil)) (pa_cons (pe_tup (pa_cons (pv 1) pa_nil)) (pa_cons pe_dnewK (pa_cons pe_str (pa_cons pe_str (pa_cons (pe_op op_add_str (pv 1) pe_str) (pa_cons (pe_op op_add_str pe_str (pv 1))
          (pa_cons (pe_op op_add_str (pv 1) pe_str) (pa_cons (pe_op op_add_str (pv 1) (pv 1)) (pa_cons (pe_op op_repS pe_str pe_int) pa_nil)))))))))))))))
      (pss_one (ps_ret (pe_fn dp hr (by rfl) (pa_cons (pv 0) (pa_cons (pe_op op_cat (pv 7) (pe_lst (pa1_cons (pe1_op op_add_str (pe1_op op_repS pe1_str pe_int) pe_str) (pat_cons (PET.of (pe_op op_add_str pe_str (pe_op op_repS pe_str pe_int))) (pat_cons (pet_replC (pv 1)) (pat_cons (PET.of (pv 4)) (pat_cons (PET.of (pe_op op_repS pe_str pe_int)) pat_nil))))))) pa_nil)))))))))))))), ?_⟩
    have hxl := hx.1
    have hws := split_ne x
    have hwt := words_tl hx
    have hwn : tot (Txt.split x " ") ≤ 73 := by
      have := tot_join _ hws
      rw [← TL.join_eq, join_back] at this
      omega
    have hwl := tot_len (Txt.split x " ")
    refine ⟨.ref p, rfl, .str x, rfl, x, rfl, sz (by omega), _, _, rfl, rfl, p, l, _, rfl, Dk, by omega, fun H1 at' D1 e1 a0 a1 => ⟨.ref p, rfl, p, l, 9, rfl, D1, by decide, fun H2 way D2 e2 w0 w1 => ⟨.str x, rfl, ⟨_, rfl⟩, x, " ", rfl, rfl, rfl, Nat.le_trans (show x.length + 2 ≤ 100000 by omega) (by decide), fun c nc => ⟨_, _, _, rfl, ?_⟩⟩⟩⟩
    obtain ⟨e3, D3, hc3⟩ := new_dq (o := .lst ((Txt.split x " ").map V.str)) D2 nc
    generalize Txt.split x " " = ws at hws hwt hwn hwl hc3 e3 D3
    have hw3 : Dq (hid p l (upd H2 c (.lst (ws.map V.str)))) (.ref c) (.list (ws.map .str)) := .lst hc3 (dqa_map ws)
    have E3 : Ext p l H (upd H2 c (.lst (ws.map V.str))) := e1.trans (e2.trans e3)
    generalize upd H2 c (.lst (ws.map V.str)) = H3 at hc3 D3 hw3 E3
    have five : ∀ (N : Nat) (σ : L2.St) (H : Hp) (a b d f g : String), (Str.ofString a).length ≤ N → (Str.ofString b).length ≤ N → (Str.ofString d).length ≤ N → (Str.ofString f).length ≤ N → (Str.ofString g).length ≤ N →
        EvP p l (tLst (tCons (tC (.str (Str.ofString a))) (tCons (tC (.str (Str.ofString b))) (tCons (tC (.str (Str.ofString d))) (tCons (tC (.str (Str.ofString f))) (tCons (tC (.str (Str.ofString g))) tNil)))))) σ H (AllL (IsS N) 5) := fun N σ H a b d f g h1 h2 h3 h4 h5 =>
      ev_lst (S := IsS N) (n := 5) (ea_cons (ev_str ⟨_, rfl, tl_lit _ h1⟩) (ea_cons (ev_str ⟨_, rfl, tl_lit _ h2⟩) (ea_cons (ev_str ⟨_, rfl, tl_lit _ h3⟩) (ea_cons (ev_str ⟨_, rfl, tl_lit _ h4⟩) (ea_cons (ev_str ⟨_, rfl, tl_lit _ h5⟩) ea_nil))))) (by decide) fun ds hl hr => ⟨ds, rfl, by omega, hr⟩
    dsimp only
    refine seq_par_ev (p := p) (l := l) (R := IsS 10) ?_ D3 fun v H4 d4 e4 D4 hd4 r4 => ?_
    · exact ev_pick (n := 105) rfl (ev_cat (S := IsS 10) (n := 100) (m := 5) (ev_listS (by decide +kernel) (by decide +kernel)) (five 10 _ _ _ _ _ _ _ (by decide +kernel) (by decide +kernel) (by decide +kernel) (by decide +kernel) (by decide +kernel)) (by decide) fun d h => h) (by decide)
    obtain ⟨sg, rfl, hsg⟩ := r4
    cases hd4
    refine ⟨.ref p, rfl, .ref c, rfl, c, _, rfl, .inl (SqL.of (hid_same p l _ _ _ (e4 _ _ hc3))), p, l, _, rfl, D4, by rw [List.length_map]; omega, fun H5 spot D5 e5 s0 s1 => ⟨_, _, rfl, ?_⟩⟩
    have hw5 := hw3.up (e4.trans e5)
    have E5 : Ext p l H H5 := E3.trans (e4.trans e5)
    have fin : ∀ (v' : V) (H6 : Hp) (d' : PyData), Ext p l H5 H6 → Deck H6 p l → Dq (hid p l H6) v' d' → S3 d' → Q v' H6 := fun v' H6 d' e6 D6 h6 r6 => q H6 v' d' D6 (E5.trans e6) h6 r6
    have hwLT : LT 73 (.list (ws.map .str)) := ⟨ws, rfl, hwn, fun u hu => (hwt u hu).2⟩
    have hwA : AllL (IsS 72) 73 (.list (ws.map .str)) := ⟨_, rfl, by rw [List.length_map]; exact ⟨List.length_pos_iff.mpr hws, by omega⟩, fun d hd => by
      obtain ⟨u, hu, rfl⟩ := List.mem_map.mp hd
      exact ⟨u, rfl, hwt u hu⟩⟩
    refine ⟨.int way, rfl, rfl, _, rfl, ite2 (fun _ => ?_) (fun _ => ?_)⟩
    · refine ret_ev (p := p) (l := l) (R := S3) ?_ D5 fin
      exact EvX.data (ex_add (N := 72) (M := 72) (ex_sl (ex_v rfl hx) (by decide) eo_no (eo_some (ei_v rfl))) (ex_sl (ex_v rfl hx) (by decide) (eo_some (ei_add (ei_v rfl) ei_c)) eo_no) (by decide)) fun y hy => s3_str hy (by decide)
    refine ⟨.int way, rfl, rfl, _, rfl, ite2 (fun _ => ?_) (fun _ => ?_)⟩
    · refine ret_ev (p := p) (l := l) (R := S3) ?_ D5 fin
      exact EvX.data (ex_add (N := 82) (M := 72) (ex_add (N := 72) (M := 10) (ex_sl (ex_v rfl hx) (by decide) eo_no (eo_some (ei_v rfl))) (ex_v rfl hsg) (by decide)) (ex_sl (ex_v rfl hx) (by decide) (eo_some (ei_v rfl)) eo_no) (by decide)) fun y hy => s3_str hy (by decide)
    refine ⟨.int way, rfl, rfl, _, rfl, ite2 (fun _ => ?_) (fun _ => ?_)⟩
    · refine ret_ev (p := p) (l := l) (R := S3) ?_ D5 fin
      exact EvX.data (ex_add (N := 82) (M := 72) (ex_add (N := 72) (M := 10) (ex_sl (ex_v rfl hx) (by decide) eo_no (eo_some (ei_v rfl))) (ex_v rfl hsg) (by decide)) (ex_sl (ex_v rfl hx) (by decide) (eo_some (ei_add (ei_v rfl) ei_c)) eo_no) (by decide)) fun y hy => s3_str hy (by decide)
    refine ⟨.int way, rfl, rfl, _, rfl, ite2 (fun _ => ?_) (fun _ => ?_)⟩
    · refine ret_ev (p := p) (l := l) (R := S3) ?_ D5 fin
      exact EvX.data (ex_add (N := 144) (M := 72) (ex_add (N := 72) (M := 72) (ex_sl (ex_v rfl hx) (by decide) eo_no (eo_some (ei_v rfl))) (ex_sl (ex_v rfl hx) (by decide) (eo_some (ei_v rfl)) (eo_some (ei_add (ei_v rfl) ei_c))) (by decide)) (ex_sl (ex_v rfl hx) (by decide) (eo_some (ei_v rfl)) eo_no) (by decide)) fun y hy => s3_str hy (by decide)
    refine ⟨.int way, rfl, rfl, _, rfl, ite2 (fun _ => ?_) (fun _ => ?_)⟩
    · refine ret_ev (p := p) (l := l) (R := S3) ?_ D5 fin
      refine ev_join (T := 73) (fun G e D Q' g => ?_) (by decide) fun y hy => s3_str hy (by decide)
      obtain ⟨c', ec, hc'⟩ := dq_LT (hw5.up e)
      cases ec
      refine ⟨.ref p, rfl, .ref c, rfl, p, l, c, _, rfl, D, hc', by rw [List.length_map]; omega, fun H' f' ys D' e' hf hp => ?_⟩
      obtain ⟨us, rfl, hu⟩ := perm_strs hp
      exact g _ _ _ e' D' (.lst hf (dqa_map us)) ⟨us, rfl, by rw [tot_perm hu]; exact hwn, fun u hm => (hwt u (hu.mem_iff.mp hm)).2⟩
    have vw : ∀ σ' : L2.St, σ'[4]? = some (some (.ref c)) → EvP p l (tVar 4) σ' H5 (LT 73) := fun σ' h => ev_var h hw5 hwLT
    refine ⟨.int way, rfl, rfl, _, rfl, ite2 (fun _ => ?_) (fun _ => ?_)⟩
    · refine ret_ev (p := p) (l := l) (R := S3) ?_ D5 fin
      refine ev_join (T := 219) (ev_catL (T := 146) (U := 73) (ev_catL (T := 73) (U := 73) (ev_slL (vw _ rfl) eo_no (eo_some (ei_v rfl))) (ev_lst (S := IsS 72) (n := 1) (ea_cons (ev_pick (n := 78) rfl (ev_cat (S := IsS 72) (n := 73) (m := 5) (ev_var rfl hw5 hwA)
        (five 72 _ _ _ _ _ _ _ (by decide +kernel) (by decide +kernel) (by decide +kernel) (by decide +kernel) (by decide +kernel)) (by decide) fun d h => h) (by decide)) ea_nil) (by decide) fun ds hl hr => (ls_LT hr).mono (by omega)) (by decide)) (ev_slL (vw _ rfl) (eo_some (ei_add (ei_v rfl) ei_c)) eo_no) (by decide)) (by decide) fun y hy => s3_str hy (by decide)
    refine ⟨.int way, rfl, rfl, _, rfl, ite2 (fun _ => ?_) (fun _ => ?_)⟩
    · refine ret_ev (p := p) (l := l) (R := S3) ?_ D5 fin
      refine ev_join (T := 220) (ev_catL (T := 146) (U := 74) (ev_catL (T := 73) (U := 73) (ev_slL (vw _ rfl) eo_no (eo_some (ei_v rfl))) (ev_slL (vw _ rfl) (eo_some (ei_add (ei_v rfl) ei_c)) eo_no) (by decide)) (ev_pick (n := 4) rfl (ev_lst (S := LT 74) (n := 4) ?_ (by decide) fun ds hl hr => ⟨ds, rfl, by omega, hr⟩) (by decide)) (by decide)) (by decide) fun y hy => s3_str hy (by decide)
      refine ea_cons (ev_lst (S := IsS 5) (n := 0) ea_nil (by decide) fun ds hl hr => (ls_LT hr).mono (by rw [hl]; decide)) (ea_cons (ev_lst (S := IsS 72) (n := 1) (ea_cons (fun G e D Q' g => ?_) ea_nil) (by decide) fun ds hl hr => (ls_LT hr).mono (by rw [hl]; decide)) ?_)
      · obtain ⟨c', ec, hc'⟩ := dq_LT (hw5.up e)
        cases ec
        cases hws2 : ws with
        | nil => exact absurd hws2 hws
        | cons w0 wr =>
          rw [hws2] at hc'
          exact ⟨.ref c, rfl, c, _, 0, .str w0, rfl, rfl, SqL.of (hid_same p l _ _ _ hc'), atI_nat (j := 0) rfl, g _ G _ Ext.rfl D (.str w0) ⟨w0, rfl, hwt w0 (by rw [hws2]; exact List.mem_cons_self)⟩⟩
      · exact ea_cons (ev_lst (S := IsS 5) (n := 2) (ea_cons (ev_str ⟨_, rfl, tl_lit _ (by decide +kernel)⟩) (ea_cons (ev_str ⟨_, rfl, tl_lit _ (by decide +kernel)⟩) ea_nil)) (by decide) fun ds hl hr => (ls_LT hr).mono (by rw [hl]; decide))
          (ea_cons (ev_lst (S := IsS 5) (n := 1) (ea_cons (ev_str ⟨_, rfl, tl_lit _ (by decide +kernel)⟩) ea_nil) (by decide) fun ds hl hr => (ls_LT hr).mono (by rw [hl]; decide)) ea_nil)
    dsimp only [tNext]
    have one : ∀ {d : PyData}, Sm 1 140 d → S3 d := fun h => h.mono (by decide) (by decide)
    have tx : ∀ σ' : L2.St, σ'[1]? = some (some (.str x)) → EvP p l (tVar 1) σ' H5 (Sm 1 72) := fun σ' h => EvX.data (ex_v h hx) fun y hy => sm_str hy
    have lit : ∀ (σ' : L2.St) (a : String) (G : Hp), (Str.ofString a).length ≤ 100 → EvP p l (tC (.str (Str.ofString a))) σ' G S3 := fun σ' a G h => ev_str (s3_str (tl_lit (N := 100) a h) (by decide))
    refine seq_asg (p := p) (l := l) (R := AllL S3 13) ?_ D5 fun vodd H6 dodd e6 D6 hodd rodd => ?_
    · refine ev_lst (S := S3) (n := 13) ?_ (by decide) fun ds hl hr => ⟨ds, rfl, by omega, hr⟩
      refine ea_cons (ev_non (one Sm.non)) (ea_cons (ev_int (one (.int (by decide +kernel)))) (ea_cons (ev_bl (one (Sm.bl _))) ?_))
      refine ea_cons (ev_lst (S := Sm 1 72) (n := 1) (ea_cons (tx _ rfl) ea_nil) (by decide) fun ds hl hr => (Sm.lst hr (show ds.length ≤ 1 by omega)).mono (by decide) (by decide)) ?_
      refine ea_cons (ev_tup (S := Sm 1 72) (n := 1) (ea_cons (tx _ rfl) ea_nil) (by decide) fun ds hl hr => (Sm.tup hr (show ds.length ≤ 1 by omega)).mono (by decide) (by decide)) ?_
      refine ea_cons (ev_dic (one Sm.dic)) (ea_cons (lit _ _ _ (by decide +kernel)) (ea_cons (lit _ _ _ (by decide +kernel)) ?_))
      refine ea_cons (EvX.data (ex_add (N := 72) (M := 5) (ex_v rfl hx) (ex_c (tl_lit _ (by decide +kernel))) (by decide)) fun y hy => s3_str hy (by decide)) ?_
      refine ea_cons (EvX.data (ex_add (N := 5) (M := 72) (ex_c (tl_lit _ (by decide +kernel))) (ex_v rfl hx) (by decide)) fun y hy => s3_str hy (by decide)) ?_
      refine ea_cons (EvX.data (ex_add (N := 72) (M := 5) (ex_v rfl hx) (ex_c (tl_lit _ (by decide +kernel))) (by decide)) fun y hy => s3_str hy (by decide)) ?_
      refine ea_cons (EvX.data (ex_add (N := 72) (M := 72) (ex_v rfl hx) (ex_v rfl hx) (by decide)) fun y hy => s3_str hy (by decide)) ?_
      exact ea_cons (EvX.data (ex_rep (N := 5000) (by decide) (by decide) (tl_lit _ (by decide +kernel)) (by decide +kernel) (by decide +kernel) (by decide +kernel)) fun y hy => s3_str hy (by decide)) ea_nil
    have hw6 := hw5.up e6
    have hwS : S3 (.list (ws.map .str)) := by
      refine (Sm.lst (k := 1) (w := 72) (m := 73) (fun d hd => ?_) (by rw [List.length_map]; omega)).mono (by decide) (by decide)
      obtain ⟨u, hu, rfl⟩ := List.mem_map.mp hd
      exact sm_str (hwt u hu)
    have fin6 : ∀ (v' : V) (H7 : Hp) (d' : PyData), Ext p l H6 H7 → Deck H7 p l → Dq (hid p l H7) v' d' → S3 d' → Q v' H7 := fun v' H7 d' e7 D7 h7 r7 => fin v' H7 d' (e6.trans e7) D7 h7 r7
    refine ret_ev (p := p) (l := l) (R := S3) ?_ D6 fin6
    refine ev_pick (n := 18) rfl (ev_cat (S := S3) (n := 13) (m := 5) (ev_var rfl hodd rodd) (ev_lst (S := S3) (n := 5) ?_ (by decide) fun ds hl hr => ⟨ds, rfl, by omega, hr⟩) (by decide) fun d h => h) (by decide)
    refine ea_cons (EvX.data (ex_add (N := 46) (M := 5) (ex_rep (by decide) (by decide) (tl_lit _ (by decide +kernel)) (by decide +kernel) (by decide +kernel) (by decide +kernel)) (ex_c (tl_lit _ (by decide +kernel))) (by decide)) fun y hy => s3_str hy (by decide)) ?_
    refine ea_cons (EvX.data (ex_add (N := 10) (M := 5000) (ex_c (tl_lit _ (by decide +kernel))) (ex_rep (by decide) (by decide) (tl_lit _ (by decide +kernel)) (by decide +kernel) (by decide +kernel) (by decide +kernel)) (by decide)) fun y hy => s3_str hy (by decide)) ?_
    refine ea_cons (fun G e D Q' g => ⟨.str x, rfl, x, rfl, ?_, g _ G _ Ext.rfl D (.str _) (s3_str (tl_repl hx) (by decide))⟩) (ea_cons (ev_var rfl hw6 hwS) (ea_cons (EvX.data (ex_rep (N := 10) (by decide) (by decide) (tl_lit _ (by decide +kernel)) (by decide +kernel) (by decide +kernel) (by decide +kernel)) fun y hy => s3_str hy (by decide)) ea_nil))
    have e1 : (("," : Str).length) = 1 := by decide
    rw [e1]
    omega
end
end Kr

namespace Kr
open PySem PySem.Spec PyProof.Rows L2
theorem Sm.len {k w : Nat} {d : PyData} (h : Sm k w d) (hw : w ≤ 6000) : d.shown.length ≤ 300000 := by
  have h1 := PyData.shown_le 41 (by decide) d h.ls
  have h2 := h.wt
  omega
theorem sm_shown {k w : Nat} {d : PyData} (h : Sm k w d) (hw : w ≤ 6000) : Sm 1 300000 (.str d.shown) := sm_str ⟨Sm.len h hw, shown_low d h.ls⟩
theorem sm_two {k w1 w2 : Nat} {a b : PyData} (ha : Sm k w1 a) (hb : Sm k w2 b) : Sm (k + 1) (w1 + w2 + 2) (.list [a, b]) := by
  refine ⟨by simp [PyData.showable, PyData.showableAll, ha.sh, hb.sh], by simp [PyData.leavesShort, PyData.leavesShortAll, ha.ls, hb.ls], ?_, ?_⟩
  · have := ha.dp
    have := hb.dp
    simp only [PyData.depth, PyData.depthAll]
    omega
  · have := ha.wt
    have := hb.wt
    simp only [PyData.weight, PyData.weightAll]
    omega
theorem ints_sm {ss : List Int} (hl : ss.length ≤ 30) (h : ∀ z ∈ ss, 0 ≤ z ∧ z ≤ 99) : Sm 2 4230 (.tuple (ss.map .int)) := by
  refine (Sm.tup (k := 1) (w := 140) (m := 30) (fun d hd => ?_) (by rw [List.length_map]; exact hl)).mono (by decide) (by decide)
  obtain ⟨z, hz, rfl⟩ := List.mem_map.mp hd
  have := h z hz
  exact .int (Nat.lt_of_le_of_lt (show z.natAbs ≤ 99 by omega) (by decide +kernel))
theorem read_some {n : Int} {d : PyData} {ss : List Int} (h : readOf n d = some ss) : (ss.length : Int) = n ∧ ∀ z ∈ ss, 0 ≤ z ∧ z ≤ 99 := by
  cases d with
  | str x =>
    have h' : (if isNo (standErr n (.tuple (rd x))) = true then some ((rd x).map iv) else none) = some ss := h
    by_cases c : isNo (standErr n (.tuple (rd x))) = true
    · rw [if_pos c] at h'
      cases h'
      obtain ⟨h1, h2⟩ := standErr_ok c
      refine ⟨by rw [List.length_map]; exact h1, fun z hz => ?_⟩
      obtain ⟨e, he, rfl⟩ := List.mem_map.mp hz
      obtain ⟨i, rfl, i0, i1⟩ := isB_int (h2 e he)
      exact ⟨i0, i1⟩
    · rw [if_neg c] at h'
      cases h'
  | _ => cases h
theorem told_sm {n : Int} (hn : n ≤ 30) (d : PyData) : Sm 3 4400 (toldOf n d) := by
  unfold toldOf
  split
  · rename_i ss h
    obtain ⟨h1, h2⟩ := read_some h
    exact (sm_two (k := 2) (w1 := 100) (w2 := 4230) ((sm_str (N := 100) (tl_lit _ (by decide +kernel))).mono (by decide) (by decide)) (ints_sm (by omega) h2)).mono (by decide) (by decide)
  · exact (sm_two (k := 2) (w1 := 100) (w2 := 140) ((sm_str (N := 100) (tl_lit _ (by decide +kernel))).mono (by decide) (by decide)) ((Sm.bl true).mono (by decide) (by decide))).mono (by decide) (by decide)
theorem txt_tl {ss : List Int} (hl : ss.length ≤ 24) (h : ∀ z ∈ ss, 0 ≤ z ∧ z ≤ 99) : Tl 72 (txt ss) := by
  refine (tl_join (N := 2) (us := ss.map nt) fun u hu => ?_).mono (by rw [List.length_map]; omega)
  obtain ⟨z, hz, rfl⟩ := List.mem_map.mp hu
  exact ⟨nt_len (h z hz).1 (h z hz).2, low_lit _⟩
theorem txt_split {ss : List Int} (hne : ss ≠ []) (h : ∀ z ∈ ss, 0 ≤ z ∧ z ≤ 99) : Txt.split (txt ss) " " = ss.map nt := join_inj hne h rfl
theorem txt_read {ss : List Int} (hne : ss ≠ []) (h : ∀ z ∈ ss, 0 ≤ z ∧ z ≤ 99) (hd : (ss.filter fun z => decide (0 < z)).Nodup) : readOf (ss.length : Int) (.str (txt ss)) = some ss := by
  have e := txt_split hne h
  have e2 : (ss.map nt).map wv = ss := by
    rw [List.map_map]
    exact (List.map_congr_left fun z hz => (nt_wv (h z hz).1 (h z hz).2).2).trans (List.map_id ss)
  have ht : Told (ss.length : Int) (txt ss) := by
    unfold Told
    rw [e, e2]
    refine ⟨by rw [List.length_map], fun w hw => ?_, rfl, hd⟩
    obtain ⟨z, hz, rfl⟩ := List.mem_map.mp hw
    exact (nt_wv (h z hz).1 (h z hz).2).1
  rw [read_yes ht, e, e2]
theorem txt_inj {a b : List Int} (ha : a ≠ []) (hb : b ≠ []) (h1 : ∀ z ∈ a, 0 ≤ z ∧ z ≤ 99) (h2 : ∀ z ∈ b, 0 ≤ z ∧ z ≤ 99) (h : txt a = txt b) : a = b := by
  have e1 := txt_split ha h1
  rw [h, txt_split hb h2] at e1
  have back : ∀ s : List Int, (∀ z ∈ s, 0 ≤ z ∧ z ≤ 99) → (s.map nt).map wv = s := fun s hs => by
    rw [List.map_map]
    exact (List.map_congr_left fun z hz => (nt_wv (hs z hz).1 (hs z hz).2).2).trans (List.map_id s)
  rw [← back a h1, ← back b h2, e1]
theorem shaped_tup (ds : List Int) : SeqAt.shaped (.tuple (ds.map PyData.int)) = true := by
  unfold SeqAt.shaped
  have := dep_ints ds
  simp [PyData.canLay0, lay_ints ds, PyData.depth]
  omega
theorem eqv_tups : ∀ a b : List Int, PyData.eqv (.tuple (a.map .int)) (.tuple (b.map .int)) = decide (a = b)
  | [], [] => by simp [PyData.eqv, PyData.eqvAll]
  | [], _ :: _ => by simp [PyData.eqv, PyData.eqvAll]
  | _ :: _, [] => by simp [PyData.eqv, PyData.eqvAll]
  | x :: a, y :: b => by
    have ih := eqv_tups a b
    simp only [PyData.eqv] at ih
    rw [List.map_cons, List.map_cons]
    simp only [PyData.eqv, PyData.eqvAll]
    rw [ih, Bool.eq_iff_iff]
    simp
end Kr

namespace Kr
open PySem PySem.Spec PyProof.Rows L2
abbrev nLaw : List Str := ["script", "deck", "turn", "many", "standing", "other", "kept", "text", "told", "found", "less", "again", "value", "before", "due"]
theorem scLaw : FnScope nLaw ["script"] (defScope sLaw) := ⟨rfl, rfl, rfl, by decide +kernel, rfl, by decide +kernel, by decide +kernel⟩
def spLaw (K : PySem.W.Frag) : Sp := fun vs H Q _ => ∃ (a : Addr) (ns : List Int), vs = [.ref a] ∧ SqL K H a (ns.map V.int) ∧ ns.length ≤ 63 ∧ ∀ H', Q (.bl true) H'
/-- the defs that the law calls -/
structure Fns (P : Program) (w : World) (K : PySem.W.Frag) (mg : Str → Option Value) (base : Heap) : Prop where
  deck : Ok P w K mg base 1 "_law_deck" ["script"] (spDeck K)
  draw : Ok P w K mg base 1 "_law_draw" ["deck", "many"] spDraw
  standing : Ok P w K mg base 3 "_law_standing" ["deck", "many"] spStand2
  lawText : Ok P w K mg base 1 "_law_text" ["standing"] spText
  due : Ok P w K mg base 1 "_law_due" ["many", "value"] spDue3
  told : Ok P w K mg base 4 "_law_told" ["many", "value", "is_named"] spTold
  spoilt : Ok P w K mg base 3 "_law_spoilt" ["deck", "text"] spSpoilt3
  text : ∃ f fd, FnOk P w K mg base CX0 1 f fd ["standing"] spText ∧ PySem.W.keepIn K (.ref f) = true ∧ mg "standing_text" = some (.ref f) ∧ Binds K fd ["standing"] [] ∧ KBn K fd ["standing"] 0 ["standing"] (fun _ ws => ws) (fun _ zs => zs)
/-- x, y = repr(e), e'; rest -/
theorem seq_par_repr {te te2 : TE} {i j : Nat} {u : TS} {D : Ends} {σ : L2.St} {H : Hp} (h : te σ H fun v H1 => rRepr [v] H1 fun s H2 => te2 σ H2 fun v2 H3 => ∃ x y, [s, v2] = [x, y] ∧ u D ((σ.set i (some x)).set j (some y)) H3) :
    tSeq (tPar i j (tCons (tCB rRepr (tCons te tNil)) (tCons te2 tNil))) u D σ H := h
/-- repr(e) != repr(e'), as a test -/
theorem ne_repr {te te2 : TE} {σ : L2.St} {H : Hp} {Q : Bool → Hp → Prop} (h : te σ H fun v H1 => rRepr [v] H1 fun x H2 => te2 σ H2 fun v2 H3 => rRepr [v2] H3 fun y H4 => rNe x y H4 fun z H5 => ∃ k, z = .bl k ∧ Q k H5) :
    tTest (tOp rNe (tCB rRepr (tCons te tNil)) (tCB rRepr (tCons te2 tNil))) σ H Q := h
theorem ne_repr1 {te te2 : TE} {σ : L2.St} {H : Hp} {Q : Bool → Hp → Prop} (h : te σ H fun v H1 => rRepr [v] H1 fun x H2 => te2 σ H2 fun y H4 => rNe x y H4 fun z H5 => ∃ k, z = .bl k ∧ Q k H5) :
    tTest (tOp rNe (tCB rRepr (tCons te tNil)) te2) σ H Q := h
theorem last_repr {te : TE} {σ : L2.St} {H : Hp} {Q : List V → Hp → Prop} (h : te σ H fun v H1 => rRepr [v] H1 fun s H2 => Q [s] H2) : tCons (tCB rRepr (tCons te tNil)) tNil σ H Q := h
def EvS (te : TE) (σ : L2.St) (H : Hp) (R : PyData → Prop) : Prop := ∀ H1, Same H H1 → ∀ Q : VK, (∀ v H2 d, Same H1 H2 → Dq H2 v d → R d → Q v H2) → te σ H1 Q
theorem es_if {t : TT} {ta tb : TE} {σ : L2.St} {H : Hp} {R : PyData → Prop} (ht : ∀ (H1 : Hp) (Q : Bool → Hp → Prop), (∀ b, Q b H1) → t σ H1 Q) (ha : EvS ta σ H R) (hb : EvS tb σ H R) : EvS (tIf t ta tb) σ H R := fun H1 e Q q =>
  ht H1 _ fun b => by
    cases b with
    | true => exact iteT (ha H1 e Q q)
    | false => exact iteF (hb H1 e Q q)
theorem seq_asgS {te : TE} {g : TG} {u : TS} {D : Ends} {σ : L2.St} {H : Hp} {R : PyData → Prop} (h : EvS te σ H R) (k : ∀ v H2 d, Same H H2 → Dq H2 v d → R d → g v σ H2 (u D)) : tSeq (tAsg te g) u D σ H := h H (Same.refl _) _ k
section
variable {P : Program} {w : World} {K : PySem.W.Frag} {mg : Str → Option Value} {base : Heap}
theorem ok_law {f : Addr} {fd : FuncData} (F : Fun K "law" "law" sLaw f fd) (B : Bi mg) (T : Fns P w K mg base) : FnG P w K mg base CX0 5 f fd ["script"] (spLaw K) := by
  obtain ⟨fT, dT, gT, kT, mT, bT, nT⟩ := T.text
  refine okG F scLaw (fun vs H Q E h => ?_) (fun cdv A outer s H vs Q E hg hr h => ?_)
  · obtain ⟨a, ns, rfl, _⟩ := h
    rfl
  · obtain ⟨sa, ns, rfl, hS, hlen, q⟩ := h
    have hr1 := hr.mono (show 1 ≤ 4 by decide)
    have hr3 := hr.mono (show 3 ≤ 4 by decide)
    have cr := call_repr (X := (cxOf CX0 P w K mg base nLaw "law" (defScope sLaw) f cdv A outer s H E).nox) hg hr.units
    refine ⟨_, pss_cons (ps_set (i := 1) scLaw.nd rfl (.inl rfl) (pe_fn T.deck hr1 (by rfl) (pa_cons (pv 0) pa_nil)))
      (pss_cons (ps_for PassesOwn.never rfl (pi_range1 (by rfl) B.range (pa_cons pe_int pa_nil)) (pg_name (i := 2) scLaw.nd rfl (.inl rfl))
        (pss_cons (ps_set (i := 3) scLaw.nd rfl (.inl rfl) (pe_op op_add pe_int (pe_fn T.draw hr1 (by rfl) (pa_cons (pv 1) (pa_cons (pe_ifExp (pt_cmpR op_lt (pv 2) pe_int (nomark _)) pe_int pe_int) pa_nil)))))
        (pss_cons (ps_par (i := 4) (j := 5) rfl scLaw.nd rfl rfl (by decide) rfl rfl (pa_cons (pe_fn T.standing hr3 (by rfl) (pa_cons (pv 1) (pa_cons (pv 3) pa_nil))) (pa_cons (pe_fn T.standing hr3 (by rfl) (pa_cons (pv 1) (pa_cons (pv 3) pa_nil))) pa_nil)) (by rfl))
        (pss_cons (ps_par (i := 6) (j := 7) rfl scLaw.nd rfl rfl (by decide) rfl rfl (pa_cons (pe_callB cr (by rfl) B.repr (by decide +kernel) (pa_cons (pv 4) pa_nil)) (pa_cons (pe_fn T.lawText hr1 (by rfl) (pa_cons (pv 4) pa_nil)) pa_nil)) (by rfl))
        (pss_cons (ps_set (i := 8) scLaw.nd rfl (.inl rfl) (pe_ifExp (pt_cmpR op_eq (pv 2) pe_int (nomark _)) (pe_callN gT hr1 (by rfl) mT kT nT pass0 (pk_cons (pv 4) pk_nil)) (pe_call gT hr1 (by rfl) mT kT bT .nil pass0 (pa_cons (pv 4) pa_nil))))
        (pss_cons (ps_set (i := 9) scLaw.nd rfl (.inl rfl) (pe_lst (pa_cons (pv 8) (pa_cons (pe_fn T.told hr (by rfl) (pa_cons (pv 3) (pa_cons (pv 7) (pa_cons (pe_cmpR op_eq (pv 2) pe_int (nomark _)) pa_nil)))) (pa_cons (pe_call gT hr1 (by rfl) mT kT bT .nil pass0 (pa_cons (pv 4) pa_nil)) pa_nil)))))
        (pss_cons (ps_if (pt_cmpR op_ne (pe_callB cr (by rfl) B.repr (by decide +kernel) (pa_cons (pv 9) pa_nil)) (pe_callB cr (by rfl) B.repr (by decide +kernel) (pa_cons (pe_lst (pa_cons (pv 7) (pa_cons (pe_lst (pa_cons pe_str (pa_cons (pv 4) pa_nil))) (pa_cons (pv 7) pa_nil)))) pa_nil)) (nomark _)) (pss_one (ps_ret pe_bl)) pss_nil)
        (pss_cons (ps_if (PW.pt (pw_or (pt_cmpR op_ne (pe_cmpR op_eq (pe_call gT hr1 (by rfl) mT kT bT .nil pass0 (pa_cons (pv 5) pa_nil)) (pv 7) (nomark _)) (pe_cmpR (op_eqD hr.units) (pv 5) (pv 4) (nomark _)) (nomark _))
          (pw_or1 (pt_cmpR op_ne (pe_callB cr (by rfl) B.repr (by decide +kernel) (pa_cons (pv 4) pa_nil)) (pv 6) (nomark _))))) (pss_one (ps_ret pe_bl)) pss_nil)
        (pss_cons (ps_set (i := 10) scLaw.nd rfl (.inl rfl) (pe_op op_add pe_int (pe_fn T.draw hr1 (by rfl) (pa_cons (pv 1) (pa_cons pe_int pa_nil)))))
        (pss_cons (ps_if (pt_cmpR op_ne (pe_callB cr (by rfl) B.repr (by decide +kernel) (pa_cons (pe_fn T.told hr (by rfl) (pa_cons (pv 10) (pa_cons (pv 7) (pa_cons pe_bl pa_nil)))) pa_nil)) (pe_callB cr (by rfl) B.repr (by decide +kernel) (pa_cons (pe_fn T.due hr1 (by rfl) (pa_cons (pv 10) (pa_cons (pv 7) pa_nil))) pa_nil)) (nomark _)) (pss_one (ps_ret pe_bl)) pss_nil)
        (pss_one (ps_for PassesOwn.never rfl (pi_range1 (by rfl) B.range (pa_cons pe_int pa_nil)) (pg_name (i := 11) scLaw.nd rfl (.inl rfl))
          (pss_cons (ps_set (i := 12) scLaw.nd rfl (.inl rfl) (pe_fn T.spoilt hr3 (by rfl) (pa_cons (pv 1) (pa_cons (pv 7) pa_nil))))
          (pss_cons (ps_par (i := 13) (j := 14) rfl scLaw.nd rfl rfl (by decide) rfl rfl (pa_cons (pe_callB cr (by rfl) B.repr (by decide +kernel) (pa_cons (pv 12) pa_nil)) (pa_cons (pe_fn T.due hr1 (by rfl) (pa_cons (pv 3) (pa_cons (pv 12) pa_nil))) pa_nil)) (by rfl))
          (pss_one (ps_if (pt_cmpR op_ne (pe_callB cr (by rfl) B.repr (by decide +kernel) (pa_cons (pe_lst (pa_cons (pe_fn T.told hr (by rfl) (pa_cons (pv 3) (pa_cons (pv 12) (pa_cons (pe_cmpR op_eq (pv 11) pe_int (nomark _)) pa_nil)))) (pa_cons (pe_callB cr (by rfl) B.repr (by decide +kernel) (pa_cons (pv 12) pa_nil)) pa_nil))) pa_nil))
            (pe_callB cr (by rfl) B.repr (by decide +kernel) (pa_cons (pe_lst (pa_cons (pv 14) (pa_cons (pv 13) pa_nil))) pa_nil)) (nomark _)) (pss_one (ps_ret pe_bl)) pss_nil))))))))))))))))
      (pss_one (ps_ret pe_bl))), ?_⟩
    refine ⟨.ref sa, rfl, sa, ns, rfl, hS, hlen, fun H1 p l s1 np nl D1 => ?_⟩
    refine ⟨6, rfl, by decide, by decide, for_range (n := 6) (fun i σ H2 => ∃ y2 y3 y4 y5 y6 y7 y8 y9 y10 y11 y12 y13 y14 : Option V,
      σ = [some (.ref sa), some (.ref p), y2, y3, y4, y5, y6, y7, y8, y9, y10, y11, y12, y13, y14] ∧ Deck H2 p l) ⟨none, none, none, none, none, none, none, none, none, none, none, none, none, rfl, D1⟩ ?_ ?_⟩
    rotate_left
    · rintro σ H2 _
      exact q H2
    rintro i σ H2 hi ⟨y2, y3, y4, y5, y6, y7, y8, y9, y10, y11, y12, y13, y14, rfl, D2⟩
    -- many
    refine seq_asg (p := p) (l := l) (R := fun d => ∃ m : Int, d = .int m ∧ 3 ≤ m ∧ m ≤ 24) (fun G e D Q' q' => ?_) D2 fun v H3 d e3 D3 hd r => ?_
    · refine ⟨.ref p, rfl, .int _, rfl, _, _, rfl, rfl, _, rfl, ite2 (fun _ => ?_) (fun _ => ?_)⟩
      · exact ⟨p, l, 22, rfl, D, by decide, fun G2 z D' e' z0 z1 => ⟨3, z, rfl, rfl, q' _ G2 _ e' D' (.int _) ⟨_, rfl, by omega, by omega⟩⟩⟩
      · exact ⟨p, l, 4, rfl, D, by decide, fun G2 z D' e' z0 z1 => ⟨3, z, rfl, rfl, q' _ G2 _ e' D' (.int _) ⟨_, rfl, by omega, by omega⟩⟩⟩
    obtain ⟨m, rfl, m0, m1⟩ := r
    cases hd
    -- standing, other
    refine ⟨.ref p, rfl, .int m, rfl, p, l, m, rfl, D3, by omega, by omega, fun H4 st ss D4 e4 hst hsl hsb hsn => ?_⟩
    refine ⟨.ref p, rfl, .int m, rfl, p, l, m, rfl, D4, by omega, by omega, fun H5 ot os D5 e5 hot hol hob hon => ⟨_, _, rfl, ?_⟩⟩
    have hst5 := hid_same p l _ _ _ (e5 _ _ hst)
    have hot5 := hid_same p l _ _ _ hot
    have hmn : (ss.length : Int) = m := by omega
    have hne : ss ≠ [] := fun z => by rw [z] at hsl; simp at hsl; omega
    have hno : os ≠ [] := fun z => by rw [z] at hol; simp at hol; omega
    have hx := txt_tl (show ss.length ≤ 24 by omega) hsb
    have hrd := txt_read hne hsb hsn
    rw [hmn] at hrd
    have smS := ints_sm (show ss.length ≤ 30 by omega) hsb
    generalize hshS : (PyData.tuple (ss.map .int)).shown = shownS
    -- kept, text
    dsimp only
    refine seq_par_repr ⟨.ref st, rfl, repr_sm (.tup hst5 (DqA.ints ss)) smS (by decide) (by decide) ?_⟩
    rw [hshS]
    refine ⟨.ref st, rfl, st, ss, rfl, hst5, by omega, hsb, fun H6 s6 => ⟨_, _, rfl, ?_⟩⟩
    generalize hxx : txt ss = x at hx hrd
    have hst6 := s6 _ _ hst5
    -- told
    refine seq_asgS (R := fun d => d = .str x) (es_if (fun G3 Q' q' => ?_) (fun G3 e3 Q' q' => ?_) (fun G3 e3 Q' q' => ?_)) fun vt H7 dt s7 ht7 et => ?_
    · exact ⟨_, rfl, rfl, _, rfl, q' _⟩
    · exact ⟨.ref st, rfl, rfl, st, ss, rfl, e3 _ _ hst6, by omega, hsb, fun G5 s5 => by rw [hxx]; exact q' _ _ _ s5 (.str x) rfl⟩
    · exact ⟨.ref st, rfl, st, ss, rfl, e3 _ _ hst6, by omega, hsb, fun G5 s5 => by rw [hxx]; exact q' _ _ _ s5 (.str x) rfl⟩
    subst et
    cases ht7
    have t7 := s6.trans s7
    have hst7 := t7 _ _ hst5
    have hot7 := t7 _ _ hot5
    have hxs : ∀ y, PyData.str x = .str y → y.length ≤ 30000 := fun y e => by
      cases e
      have := hx.1
      omega
    have eTold : toldOf m (.str x) = .list [.str "told", .tuple (ss.map .int)] := by
      unfold toldOf
      rw [hrd]
    have smF : Sm 4 14000 (.list [.str x, .list [.str "told", .tuple (ss.map .int)], .str x]) := by
      refine (Sm.lst (k := 3) (w := 4400) (m := 3) (fun d hd => ?_) (Nat.le_refl _)).mono (by decide) (by decide)
      simp only [List.mem_cons, List.not_mem_nil, or_false] at hd
      rcases hd with rfl | rfl | rfl
      · exact (sm_str hx).mono (by decide) (by decide)
      · rw [← eTold]
        exact told_sm (by omega) _
      · exact (sm_str hx).mono (by decide) (by decide)
    -- found
    refine ⟨.str x, rfl, .int m, rfl, .str x, rfl, .int _, rfl, rfl, m, .str x, .str x, _, rfl, .str x, hxs, fun H8 r s8 hr8 => ?_⟩
    rw [eTold] at hr8
    refine ⟨.ref st, rfl, st, ss, rfl, s8 _ _ hst7, by omega, hsb, fun H9 s9 => ⟨by show 3 ≤ sizeLine; decide, fun c nc => ?_⟩⟩
    rw [hxx]
    have s10 : Same H9 (upd H9 c (.lst [.str x, r, .str x])) := same_new nc
    have hf10 : Dq (upd H9 c (.lst [.str x, r, .str x])) (.ref c) (.list [.str x, .list [.str "told", .tuple (ss.map .int)], .str x]) := .lst upd_same (.cons (.str x) (.cons (hr8.up (s9.trans s10)) (.cons (.str x) .nil)))
    have t10 := t7.trans (s8.trans (s9.trans s10))
    generalize upd H9 c (.lst [.str x, r, .str x]) = H10 at hf10 t10
    have hst10 := t10 _ _ hst5
    dsimp only
    refine ne_repr ⟨.ref c, rfl, repr_sm hf10 smF (by decide) (by decide) ?_⟩
    refine ⟨.str x, rfl, .ref st, rfl, by show 2 ≤ sizeLine; decide, fun c2 nc2 => ?_⟩
    have s11 : Same H10 (upd H10 c2 (.lst [.str "told", .ref st])) := same_new nc2
    refine ⟨.str x, rfl, by show 3 ≤ sizeLine; decide, fun c3 nc3 => ?_⟩
    have hc2 : upd H10 c2 (.lst [.str "told", .ref st]) c2 = some (.lst [.str "told", .ref st]) := upd_same
    generalize upd H10 c2 (.lst [.str "told", .ref st]) = H11 at s11 hc2 nc3
    have s12 : Same H11 (upd H11 c3 (.lst [.str x, .ref c2, .str x])) := same_new nc3
    refine repr_sm (.lst upd_same (.cons (.str x) (.cons (.lst (s12 _ _ hc2) (.cons (.str _) (.cons (.tup (s12 _ _ (s11 _ _ hst10)) (DqA.ints ss)) .nil))) (.cons (.str x) .nil)))) smF (by decide) (by decide) ?_
    have t12 := t10.trans (s11.trans s12)
    generalize upd H11 c3 (.lst [.str x, .ref c2, .str x]) = H12 at t12
    refine ⟨rfl, _, rfl, iteNS rfl ?_⟩
    -- texts alike just if standings are
    have hst12 := t12 _ _ hst5
    have hot12 := t12 _ _ hot5
    dsimp only [tNext]
    refine ⟨.ref ot, rfl, ot, os, rfl, hot12, by omega, hob, fun H13 s13 => ?_⟩
    have t13 := t12.trans s13
    have hst13 := t13 _ _ hst5
    have hot13 := t13 _ _ hot5
    refine ⟨.str x, rfl, rfl, .ref ot, rfl, .ref st, rfl, .tuple (os.map .int), .tuple (ss.map .int), .tup (SqT.of hot13) (dp_ints os), .tup (SqT.of hst13) (dp_ints ss), shaped_tup os, shaped_tup ss, rfl, _, rfl, ?_⟩
    have eb : decide (V.str (txt os) = V.str x) = PyData.eqv (.tuple (os.map .int)) (.tuple (ss.map .int)) := by
      rw [eqv_tups, Bool.eq_iff_iff, decide_eq_true_eq, decide_eq_true_eq]
      constructor
      · intro z
        exact txt_inj hno hne hob hsb ((V.str.inj z).trans hxx.symm)
      · intro z
        rw [z, hxx]
    rw [eb]
    refine iteNS rfl ?_
    refine ne_repr1 ⟨.ref st, rfl, repr_sm (.tup hst13 (DqA.ints ss)) smS (by decide) (by decide) ?_⟩
    rw [hshS]
    refine ⟨.str shownS, rfl, rfl, _, rfl, iteNS rfl ?_⟩
    have D13 := D5.up t13
    dsimp only [tNext]
    -- less
    refine seq_asg (p := p) (l := l) (R := fun d => ∃ k : Int, d = .int k ∧ 3 ≤ k ∧ k ≤ 24) (fun G e D Q' q' => ?_) D13 fun v H14 d e14 D14 hd rk => ?_
    · exact ⟨.ref p, rfl, p, l, 22, rfl, D, by decide, fun G2 z D' e' z0 z1 => ⟨3, z, rfl, rfl, q' _ G2 _ e' D' (.int _) ⟨_, rfl, by omega, by omega⟩⟩⟩
    obtain ⟨k, rfl, k0, k1⟩ := rk
    cases hd
    have esm := told_sm (n := k) (by omega) (.str x)
    refine ne_repr ⟨.int k, rfl, .str x, rfl, k, .str x, .str x, false, rfl, .str x, hxs, fun Ha ra sa' hra => repr_sm hra esm (by decide) (by decide) ⟨.int k, rfl, .str x, rfl, k, .str x, .str x, rfl, .str x, hxs, fun Hb rb sb hrb => repr_sm hrb esm (by decide) (by decide) ⟨rfl, _, rfl, iteNS rfl ?_⟩⟩⟩
    have D15 := D14.up (sa'.trans sb)
    -- spoilt texts
    refine ⟨6, rfl, by decide, by decide, for_range (n := 6) (fun j σ G => ∃ y11 y12 y13 y14 : Option V, σ = [some (.ref sa), some (.ref p), some (.int (0 + (i : Nat))), some (.int m), some (.ref st), some (.ref ot), some (.str shownS), some (.str x), some (.str x), some (.ref c), some (.int k), y11, y12, y13, y14] ∧ Deck G p l)
      ⟨_, _, _, _, rfl, D15⟩ ?_ ?_⟩
    rotate_left
    · rintro σ G ⟨y11, y12, y13, y14, rfl, DG⟩
      exact ⟨_, _, _, _, _, _, _, _, _, _, _, _, _, rfl, DG⟩
    rintro j σ G hj ⟨y11, y12, y13, y14, rfl, DG⟩
    refine seq_asg (p := p) (l := l) (R := S3) (fun G' e D Q' q' => ?_) DG fun v G1 d e1 DG1 hd hs => ?_
    · exact ⟨.ref p, rfl, .str x, rfl, p, l, x, rfl, D, hx, fun G2 r d D' e' hr hs => q' _ _ _ e' D' hr hs⟩
    have hd1 : Dq G1 v d := hd.up (hid_same p l G1)
    have hds : ∀ y, d = .str y → y.length ≤ 30000 := fun y e => by
      subst e
      have h1 := hs.wt
      have h2 : (PyData.str y).weight = y.length := rfl
      omega
    have tsm := told_sm (n := m) (by omega) d
    have smP : Sm 4 304402 (.list [toldOf m d, .str d.shown]) := sm_two (k := 3) (w1 := 4400) (w2 := 300000) tsm ((sm_shown hs (by decide)).mono (by decide) (by decide))
    refine seq_par_repr ⟨v, rfl, repr_sm hd1 hs (by decide) (by decide) ⟨.int m, rfl, v, rfl, m, v, d, rfl, hd1, hds, fun G2 rd2 sg2 hrd2 => ⟨_, _, rfl, ?_⟩⟩⟩
    refine ne_repr ⟨.int m, rfl, v, rfl, .int _, rfl, rfl, m, v, d, _, rfl, hd1.up sg2, hds, fun G3 r3 sg3 hr3 => ?_⟩
    dsimp only
    refine last_repr ⟨v, rfl, repr_sm (hd1.up (sg2.trans sg3)) hs (by decide) (by decide) ⟨by show 2 ≤ sizeLine; decide, fun c4 nc4 => ?_⟩⟩
    have sg4 : Same G3 (upd G3 c4 (.lst [r3, .str d.shown])) := same_new nc4
    refine repr_sm (.lst upd_same (.cons (hr3.up sg4) (.cons (.str _) .nil))) smP (by decide) (by decide) ?_
    have hrd4 := hrd2.up (sg3.trans sg4)
    have tg4 := sg2.trans (sg3.trans sg4)
    generalize upd G3 c4 (.lst [r3, .str d.shown]) = G4 at hrd4 tg4
    refine ⟨rd2, rfl, .str d.shown, rfl, by show 2 ≤ sizeLine; decide, fun c5 nc5 => ?_⟩
    have sg5 : Same G4 (upd G4 c5 (.lst [rd2, .str d.shown])) := same_new nc5
    refine repr_sm (.lst upd_same (.cons (hrd4.up sg5) (.cons (.str _) .nil))) smP (by decide) (by decide) ⟨rfl, _, rfl, iteNS rfl ?_⟩
    exact ⟨_, _, _, _, rfl, DG1.up (tg4.trans sg5)⟩
end
end Kr

namespace Kr
open PySem PySem.Spec PyProof.Rows L2
/-! ### what the head has written -/
theorem df_mk {K : PySem.W.Frag} {h : Heap} {mg : Str → Option Value} {x : Str} {st : Stmt} {f : Addr} {ps : List Str} {oc : Value} {od an : Option Addr} {osl : Array (Option Value)} {kV doc pm cdv ct : Value} (X : K.In h) (G : h.Ns mainGlobals mg)
    (a : PySem.W.nsIn K mainGlobals x = some (some (.ref f))) (l : K.lookup f = some ⟨oc, od, .func (PySem.W.fnOf x x (defArgs st) (defBody st) (defScope st) .none kV doc pm an cdv ct), osl⟩) (c : PySem.W.codeIn K cdv x = true) (k : PySem.W.keepIn K (.ref f) = true)
    (hb : ∀ (kV doc pm : Value) (an : Option Addr) (cdv ct : Value) (us : List Value), us.length = ps.length → bindArgs (PySem.W.fnOf x x (defArgs st) (defBody st) (defScope st) .none kV doc pm an cdv ct) ⟨us, []⟩ = pure (ps.zip us)) : Df K mg x st ps :=
  ⟨_, _, fun_mk l c k, (fun_mk l c k).binds hb, PySem.W.mg_of X G a⟩

theorem all_mk {l : PySem.W.OpenLaw} {w : World} {K : PySem.W.Frag} {h : Heap} {mg : Str → Option Value} {fa : Addr} (X : K.In h) (G : h.Ns mainGlobals mg) (hfa : mg "law" = some (.ref fa))
    {f1 : Addr} {oc1 kV1 dc1 pm1 cd1 ct1 : Value} {od1 an1 : Option Addr} {sl1 : Array (Option Value)}
    {f2 : Addr} {oc2 kV2 dc2 pm2 cd2 ct2 : Value} {od2 an2 : Option Addr} {sl2 : Array (Option Value)}
    {f3 : Addr} {oc3 kV3 dc3 pm3 cd3 ct3 : Value} {od3 an3 : Option Addr} {sl3 : Array (Option Value)}
    {f4 : Addr} {oc4 kV4 dc4 pm4 cd4 ct4 : Value} {od4 an4 : Option Addr} {sl4 : Array (Option Value)}
    {f5 : Addr} {oc5 kV5 dc5 pm5 cd5 ct5 : Value} {od5 an5 : Option Addr} {sl5 : Array (Option Value)}
    {f6 : Addr} {oc6 kV6 dc6 pm6 cd6 ct6 : Value} {od6 an6 : Option Addr} {sl6 : Array (Option Value)}
    {f7 : Addr} {oc7 kV7 dc7 pm7 cd7 ct7 : Value} {od7 an7 : Option Addr} {sl7 : Array (Option Value)}
    {f8 : Addr} {oc8 kV8 dc8 pm8 cd8 ct8 : Value} {od8 an8 : Option Addr} {sl8 : Array (Option Value)}
    {f9 : Addr} {oc9 kV9 dc9 pm9 cd9 ct9 : Value} {od9 an9 : Option Addr} {sl9 : Array (Option Value)}
    {f10 : Addr} {oc10 kV10 dc10 pm10 cd10 ct10 : Value} {od10 an10 : Option Addr} {sl10 : Array (Option Value)}
    {f11 : Addr} {oc11 kV11 dc11 pm11 cd11 ct11 : Value} {od11 an11 : Option Addr} {sl11 : Array (Option Value)}
    {f12 : Addr} {oc12 kV12 dc12 pm12 cd12 ct12 : Value} {od12 an12 : Option Addr} {sl12 : Array (Option Value)}
    {f13 : Addr} {oc13 kV13 dc13 pm13 cd13 ct13 : Value} {od13 an13 : Option Addr} {sl13 : Array (Option Value)}
    {f14 : Addr} {oc14 kV14 dc14 pm14 cd14 ct14 : Value} {od14 an14 : Option Addr} {sl14 : Array (Option Value)}
    {f15 : Addr} {oc15 kV15 dc15 pm15 cd15 ct15 : Value} {od15 an15 : Option Addr} {sl15 : Array (Option Value)}
    {f16 : Addr} {oc16 kV16 dc16 pm16 cd16 ct16 : Value} {od16 an16 : Option Addr} {sl16 : Array (Option Value)}
    (a1 : PySem.W.nsIn K mainGlobals "is_between" = some (some (.ref f1))) (l1 : K.lookup f1 = some ⟨oc1, od1, .func (PySem.W.fnOf "is_between" "is_between" (defArgs sBetween) (defBody sBetween) (defScope sBetween) .none kV1 dc1 pm1 an1 cd1 ct1), sl1⟩) (c1 : PySem.W.codeIn K cd1 "is_between" = true) (k1 : PySem.W.keepIn K (.ref f1) = true)
    (a2 : PySem.W.nsIn K mainGlobals "is_tuple_of" = some (some (.ref f2))) (l2 : K.lookup f2 = some ⟨oc2, od2, .func (PySem.W.fnOf "is_tuple_of" "is_tuple_of" (defArgs sTupleOf) (defBody sTupleOf) (defScope sTupleOf) .none kV2 dc2 pm2 an2 cd2 ct2), sl2⟩) (c2 : PySem.W.codeIn K cd2 "is_tuple_of" = true) (k2 : PySem.W.keepIn K (.ref f2) = true)
    (a3 : PySem.W.nsIn K mainGlobals "read_number" = some (some (.ref f3))) (l3 : K.lookup f3 = some ⟨oc3, od3, .func (PySem.W.fnOf "read_number" "read_number" (defArgs sReadNum) (defBody sReadNum) (defScope sReadNum) .none kV3 dc3 pm3 an3 cd3 ct3), sl3⟩) (c3 : PySem.W.codeIn K cd3 "read_number" = true) (k3 : PySem.W.keepIn K (.ref f3) = true)
    (a4 : PySem.W.nsIn K mainGlobals "standing_error" = some (some (.ref f4))) (l4 : K.lookup f4 = some ⟨oc4, od4, .func (PySem.W.fnOf "standing_error" "standing_error" (defArgs sStandErr) (defBody sStandErr) (defScope sStandErr) .none kV4 dc4 pm4 an4 cd4 ct4), sl4⟩) (c4 : PySem.W.codeIn K cd4 "standing_error" = true) (k4 : PySem.W.keepIn K (.ref f4) = true)
    (a5 : PySem.W.nsIn K mainGlobals "standing_text" = some (some (.ref f5))) (l5 : K.lookup f5 = some ⟨oc5, od5, .func (PySem.W.fnOf "standing_text" "standing_text" (defArgs sText) (defBody sText) (defScope sText) .none kV5 dc5 pm5 an5 cd5 ct5), sl5⟩) (c5 : PySem.W.codeIn K cd5 "standing_text" = true) (k5 : PySem.W.keepIn K (.ref f5) = true)
    (a6 : PySem.W.nsIn K mainGlobals "read_standing" = some (some (.ref f6))) (l6 : K.lookup f6 = some ⟨oc6, od6, .func (PySem.W.fnOf "read_standing" "read_standing" (defArgs sRead) (defBody sRead) (defScope sRead) .none kV6 dc6 pm6 an6 cd6 ct6), sl6⟩) (c6 : PySem.W.codeIn K cd6 "read_standing" = true) (k6 : PySem.W.keepIn K (.ref f6) = true)
    (a7 : PySem.W.nsIn K mainGlobals "_law_deck" = some (some (.ref f7))) (l7 : K.lookup f7 = some ⟨oc7, od7, .func (PySem.W.fnOf "_law_deck" "_law_deck" (defArgs sDeck) (defBody sDeck) (defScope sDeck) .none kV7 dc7 pm7 an7 cd7 ct7), sl7⟩) (c7 : PySem.W.codeIn K cd7 "_law_deck" = true) (k7 : PySem.W.keepIn K (.ref f7) = true)
    (a8 : PySem.W.nsIn K mainGlobals "_law_draw" = some (some (.ref f8))) (l8 : K.lookup f8 = some ⟨oc8, od8, .func (PySem.W.fnOf "_law_draw" "_law_draw" (defArgs sDraw) (defBody sDraw) (defScope sDraw) .none kV8 dc8 pm8 an8 cd8 ct8), sl8⟩) (c8 : PySem.W.codeIn K cd8 "_law_draw" = true) (k8 : PySem.W.keepIn K (.ref f8) = true)
    (a9 : PySem.W.nsIn K mainGlobals "_law_pick" = some (some (.ref f9))) (l9 : K.lookup f9 = some ⟨oc9, od9, .func (PySem.W.fnOf "_law_pick" "_law_pick" (defArgs sPick) (defBody sPick) (defScope sPick) .none kV9 dc9 pm9 an9 cd9 ct9), sl9⟩) (c9 : PySem.W.codeIn K cd9 "_law_pick" = true) (k9 : PySem.W.keepIn K (.ref f9) = true)
    (a10 : PySem.W.nsIn K mainGlobals "_law_mixed" = some (some (.ref f10))) (l10 : K.lookup f10 = some ⟨oc10, od10, .func (PySem.W.fnOf "_law_mixed" "_law_mixed" (defArgs sMixed) (defBody sMixed) (defScope sMixed) .none kV10 dc10 pm10 an10 cd10 ct10), sl10⟩) (c10 : PySem.W.codeIn K cd10 "_law_mixed" = true) (k10 : PySem.W.keepIn K (.ref f10) = true)
    (a11 : PySem.W.nsIn K mainGlobals "_law_standing" = some (some (.ref f11))) (l11 : K.lookup f11 = some ⟨oc11, od11, .func (PySem.W.fnOf "_law_standing" "_law_standing" (defArgs sStanding) (defBody sStanding) (defScope sStanding) .none kV11 dc11 pm11 an11 cd11 ct11), sl11⟩) (c11 : PySem.W.codeIn K cd11 "_law_standing" = true) (k11 : PySem.W.keepIn K (.ref f11) = true)
    (a12 : PySem.W.nsIn K mainGlobals "_law_text" = some (some (.ref f12))) (l12 : K.lookup f12 = some ⟨oc12, od12, .func (PySem.W.fnOf "_law_text" "_law_text" (defArgs sLawText) (defBody sLawText) (defScope sLawText) .none kV12 dc12 pm12 an12 cd12 ct12), sl12⟩) (c12 : PySem.W.codeIn K cd12 "_law_text" = true) (k12 : PySem.W.keepIn K (.ref f12) = true)
    (a13 : PySem.W.nsIn K mainGlobals "_law_due" = some (some (.ref f13))) (l13 : K.lookup f13 = some ⟨oc13, od13, .func (PySem.W.fnOf "_law_due" "_law_due" (defArgs sDue) (defBody sDue) (defScope sDue) .none kV13 dc13 pm13 an13 cd13 ct13), sl13⟩) (c13 : PySem.W.codeIn K cd13 "_law_due" = true) (k13 : PySem.W.keepIn K (.ref f13) = true)
    (a14 : PySem.W.nsIn K mainGlobals "_law_told" = some (some (.ref f14))) (l14 : K.lookup f14 = some ⟨oc14, od14, .func (PySem.W.fnOf "_law_told" "_law_told" (defArgs sTold) (defBody sTold) (defScope sTold) .none kV14 dc14 pm14 an14 cd14 ct14), sl14⟩) (c14 : PySem.W.codeIn K cd14 "_law_told" = true) (k14 : PySem.W.keepIn K (.ref f14) = true)
    (a15 : PySem.W.nsIn K mainGlobals "_law_spoilt" = some (some (.ref f15))) (l15 : K.lookup f15 = some ⟨oc15, od15, .func (PySem.W.fnOf "_law_spoilt" "_law_spoilt" (defArgs sSpoilt) (defBody sSpoilt) (defScope sSpoilt) .none kV15 dc15 pm15 an15 cd15 ct15), sl15⟩) (c15 : PySem.W.codeIn K cd15 "_law_spoilt" = true) (k15 : PySem.W.keepIn K (.ref f15) = true)
    (a16 : PySem.W.nsIn K mainGlobals "law" = some (some (.ref f16))) (l16 : K.lookup f16 = some ⟨oc16, od16, .func (PySem.W.fnOf "law" "law" (defArgs sLaw) (defBody sLaw) (defScope sLaw) .none kV16 dc16 pm16 an16 cd16 ct16), sl16⟩) (c16 : PySem.W.codeIn K cd16 "law" = true) (k16 : PySem.W.keepIn K (.ref f16) = true)
    (z1 : PySem.W.nsIn K mainGlobals "len" = some none)
    (z2 : PySem.W.nsIn K mainGlobals "abs" = some none)
    (z3 : PySem.W.nsIn K mainGlobals "int" = some none)
    (z4 : PySem.W.nsIn K mainGlobals "bool" = some none)
    (z5 : PySem.W.nsIn K mainGlobals "tuple" = some none)
    (z6 : PySem.W.nsIn K mainGlobals "list" = some none)
    (z7 : PySem.W.nsIn K mainGlobals "range" = some none)
    (z8 : PySem.W.nsIn K mainGlobals "enumerate" = some none)
    (z9 : PySem.W.nsIn K mainGlobals "isinstance" = some none)
    (z10 : PySem.W.nsIn K mainGlobals "repr" = some none)
    (z11 : PySem.W.nsIn K mainGlobals "sorted" = some none)
    (z12 : PySem.W.nsIn K mainGlobals "min" = some none)
    (z13 : PySem.W.nsIn K mainGlobals "max" = some none)
    (z14 : PySem.W.nsIn K mainGlobals "any" = some none)
    (z15 : PySem.W.nsIn K mainGlobals "zip" = some none)
    (z16 : PySem.W.nsIn K mainGlobals "str" = some none)
    {tM : Tok} {C R : Addr} (m : PySem.W.nsIn K mainGlobals "MAX_RIDER" = some (some (.int 99 tM)))
    (e1 : PySem.W.nsIn K mainGlobals "BadText" = some (some (.ref C))) (e2 : PySem.W.nsIn K mainGlobals "RidersError" = some (some (.ref R)))
    (x1 : PySem.W.excIn K C [.type "ValueError", .type "Exception", .type "BaseException", .type "object"] "ValueError.__new__" = true) (x2 : PySem.W.keepIn K (.ref C) = true) (x3 : PySem.W.subIn K (.ref C) (.type "BaseException") = some true) (x4 : PySem.W.typeIn K (.ref C) = some (.type "type"))
    (y1 : PySem.W.findIn K (.ref C) "__getattribute__" = some (some (.builtin "BaseException.__getattribute__"))) (y2 : PySem.W.findIn K (.ref C) "__getattr__" = some none) (y3 : PySem.W.hasDictIn K C = true) (y4 : PySem.W.findIn K (.ref C) "__class__" = some (some (.builtin "object.__class__")))
    (y5 : PySem.W.specialIn K (.builtin "object.__class__") "__get__" = some (some (.builtin "getset_descriptor.__get__"))) (y6 : PySem.W.takesIn K (.builtin "object.__class__") = some true) (y7 : PySem.W.mroIn K C (.type "object") = some true) (y8 : PySem.W.subIn K (.ref C) (.ref C) = some true) (y9 : PySem.W.kitOne K (.ref C) (.ref R) = some true) :
    ∃ fd : FuncData, (∀ (s : Shared) (u : Value), BindsTo s fd ⟨[u], []⟩ [("script", u)]) ∧ ∀ base : Heap, K.In base → base.Ns mainGlobals mg → FnG l.prog w K mg base CX0 5 fa fd ["script"] (spLaw K) := by
  have e := hfa.symm.trans (PySem.W.mg_of X G a16)
  cases e
  have D1 : Df K mg "is_between" sBetween ["value", "least", "most"] := df_mk X G a1 l1 c1 k1 fun _ _ _ _ _ _ us hl => match us, hl with | [_, _, _], _ => rfl
  have D2 : Df K mg "is_tuple_of" sTupleOf ["value", "size"] := df_mk X G a2 l2 c2 k2 fun _ _ _ _ _ _ us hl => match us, hl with | [_, _], _ => rfl
  have D3 : Df K mg "read_number" sReadNum ["text", "most"] := df_mk X G a3 l3 c3 k3 fun _ _ _ _ _ _ us hl => match us, hl with | [_, _], _ => rfl
  have D4 : Df K mg "standing_error" sStandErr ["n", "value"] := df_mk X G a4 l4 c4 k4 fun _ _ _ _ _ _ us hl => match us, hl with | [_, _], _ => rfl
  have F5 := fun_mk (st := sText) l5 c5 k5
  have b5 := F5.binds (ps := ["standing"]) fun _ _ _ _ _ _ us hl => match us, hl with | [_], _ => rfl
  have g5 := PySem.W.mg_of X G a5
  have n5 := kbn_of (ps := ["standing"]) (ks := ["standing"]) F5 (fun zs => zs) (fun r => r) fun _ _ _ _ _ _ ws hl => match ws, hl with | [_], _ => rfl
  have F6 := fun_mk (st := sRead) l6 c6 k6
  have b6 := F6.binds (ps := ["n", "value"]) fun _ _ _ _ _ _ us hl => match us, hl with | [_, _], _ => rfl
  have g6 := PySem.W.mg_of X G a6
  have n6 := kbn_of (ps := ["n", "value"]) (ks := ["value", "n"]) F6 (fun zs => zs.reverse) vals_swap fun _ _ _ _ _ _ ws hl => match ws, hl with | [_, _], _ => rfl
  have D7 : Df K mg "_law_deck" sDeck ["script"] := df_mk X G a7 l7 c7 k7 fun _ _ _ _ _ _ us hl => match us, hl with | [_], _ => rfl
  have D8 : Df K mg "_law_draw" sDraw ["deck", "many"] := df_mk X G a8 l8 c8 k8 fun _ _ _ _ _ _ us hl => match us, hl with | [_, _], _ => rfl
  have D9 : Df K mg "_law_pick" sPick ["deck", "items"] := df_mk X G a9 l9 c9 k9 fun _ _ _ _ _ _ us hl => match us, hl with | [_, _], _ => rfl
  have D10 : Df K mg "_law_mixed" sMixed ["deck", "items"] := df_mk X G a10 l10 c10 k10 fun _ _ _ _ _ _ us hl => match us, hl with | [_, _], _ => rfl
  have D11 : Df K mg "_law_standing" sStanding ["deck", "many"] := df_mk X G a11 l11 c11 k11 fun _ _ _ _ _ _ us hl => match us, hl with | [_, _], _ => rfl
  have D12 : Df K mg "_law_text" sLawText ["standing"] := df_mk X G a12 l12 c12 k12 fun _ _ _ _ _ _ us hl => match us, hl with | [_], _ => rfl
  have D13 : Df K mg "_law_due" sDue ["many", "value"] := df_mk X G a13 l13 c13 k13 fun _ _ _ _ _ _ us hl => match us, hl with | [_, _], _ => rfl
  have D14 : Df K mg "_law_told" sTold ["many", "value", "is_named"] := df_mk X G a14 l14 c14 k14 fun _ _ _ _ _ _ us hl => match us, hl with | [_, _, _], _ => rfl
  have D15 : Df K mg "_law_spoilt" sSpoilt ["deck", "text"] := df_mk X G a15 l15 c15 k15 fun _ _ _ _ _ _ us hl => match us, hl with | [_, _], _ => rfl
  have B : Bi mg := ⟨PySem.W.mg_none_of X G z1, PySem.W.mg_none_of X G z2, PySem.W.mg_none_of X G z3, PySem.W.mg_none_of X G z4, PySem.W.mg_none_of X G z5, PySem.W.mg_none_of X G z6, PySem.W.mg_none_of X G z7, PySem.W.mg_none_of X G z8, PySem.W.mg_none_of X G z9, PySem.W.mg_none_of X G z10, PySem.W.mg_none_of X G z11, PySem.W.mg_none_of X G z12, PySem.W.mg_none_of X G z13, PySem.W.mg_none_of X G z14, PySem.W.mg_none_of X G z15, PySem.W.mg_none_of X G z16⟩
  refine ⟨PySem.W.fnOf "law" "law" (defArgs sLaw) (defBody sLaw) (defScope sLaw) .none kV16 dc16 pm16 an16 cd16 ct16, fun s v => .of_eq rfl, fun base _ _ => ?_⟩
  have hM : ∃ t, mg "MAX_RIDER" = some (.int 99 t) := ⟨_, PySem.W.mg_of X G m⟩
  have TB : Bad K mg C := ⟨x1, PySem.W.mg_of X G e1, x2, x3, x4⟩
  have TE : ExcC K C := ⟨y1, y2, x3, y3, y4, y5, y6, y7⟩
  have ob := o_between (P := l.prog) (w := w) (base := base) D1 B
  have ot := o_tupleOf (P := l.prog) (w := w) (base := base) D2 B
  have on := o_readNum (P := l.prog) (w := w) (base := base) D3 B
  have od := o_draw (P := l.prog) (w := w) (base := base) D8 B
  have ok := o_deck (P := l.prog) (w := w) (base := base) D7 B
  have op := o_pick D9 B od
  have om := o_mixV D10 B od
  have ose : Ok l.prog w K mg base 2 "standing_error" ["n", "value"] (spErr standErr) := D4.ok fun _ _ F => f_standErr F B hM ot ob
  have otd := o_told D14 B TB TE (PySem.W.exm_ref x3 y3 x4 y8) (PySem.W.mg_of X G e2) y9 ⟨_, _, f_read F6 B TB hM on ose, F6.kp, g6, b6, n6⟩
  exact ok_law (fun_mk (st := sLaw) l16 c16 k16) B ⟨ok, od, o_stand2 D11 B od op, o_lawText D12 B, o_due D13 B, otd, o_spoilt3 D15 B od op om,
    ⟨_, _, f_text F5 B, F5.kp, g5, b5, n5⟩⟩
end Kr

open PySem PySem.W PyProof.Rows
set_option maxHeartbeats 0 in
theorem PySem.Challenge.cw_keyriders_k03_whole_texts_of_standings_holds : PySem.Challenge.rw_keyriders_k03_whole_texts_of_standings.Holds := by
  w_on; o_law; k_head; (case hw => w_witness2)
  k_fill
  refine Kr.walkG (l := PySem.Challenge.rw_keyriders_k03_whole_texts_of_standings) (n := 63) (k := 5) (x := "script") (sp := Kr.spLaw) rfl (by decide) rfl ⟨rfl, by decide, by decide⟩ (fun w h Y => PySem.W.kIn_of Y) ?F (fun _ _ a ns hl _ hS => ⟨a, ns, rfl, hS, hl, fun _ => rfl⟩)
  case F =>
    intro w mg fa h KX G hmg
    refine' Kr.all_mk KX G hmg ?a1 ?l1 ?c1 ?k1 ?a2 ?l2 ?c2 ?k2 ?a3 ?l3 ?c3 ?k3 ?a4 ?l4 ?c4 ?k4 ?a5 ?l5 ?c5 ?k5 ?a6 ?l6 ?c6 ?k6 ?a7 ?l7 ?c7 ?k7 ?a8 ?l8 ?c8 ?k8 ?a9 ?l9 ?c9 ?k9 ?a10 ?l10 ?c10 ?k10 ?a11 ?l11 ?c11 ?k11 ?a12 ?l12 ?c12 ?k12 ?a13 ?l13 ?c13 ?k13 ?a14 ?l14 ?c14 ?k14 ?a15 ?l15 ?c15 ?k15 ?a16 ?l16 ?c16 ?k16 ?z1 ?z2 ?z3 ?z4 ?z5 ?z6 ?z7 ?z8 ?z9 ?z10 ?z11 ?z12 ?z13 ?z14 ?z15 ?z16 ?m ?e1 ?e2 ?x1 ?x2 ?x3 ?x4 ?y1 ?y2 ?y3 ?y4 ?y5 ?y6 ?y7 ?y8 ?y9
    (case a1 => k_is); (case l1 => k_is); (case c1 => k_is); (case k1 => k_is); (case a2 => k_is); (case l2 => k_is); (case c2 => k_is); (case k2 => k_is); (case a3 => k_is); (case l3 => k_is); (case c3 => k_is); (case k3 => k_is); (case a4 => k_is); (case l4 => k_is); (case c4 => k_is); (case k4 => k_is); (case a5 => k_is); (case l5 => k_is); (case c5 => k_is); (case k5 => k_is); (case a6 => k_is); (case l6 => k_is); (case c6 => k_is); (case k6 => k_is); (case a7 => k_is); (case l7 => k_is); (case c7 => k_is); (case k7 => k_is); (case a8 => k_is); (case l8 => k_is); (case c8 => k_is); (case k8 => k_is); (case a9 => k_is); (case l9 => k_is); (case c9 => k_is); (case k9 => k_is); (case a10 => k_is); (case l10 => k_is); (case c10 => k_is); (case k10 => k_is); (case a11 => k_is); (case l11 => k_is); (case c11 => k_is); (case k11 => k_is); (case a12 => k_is); (case l12 => k_is); (case c12 => k_is); (case k12 => k_is); (case a13 => k_is); (case l13 => k_is); (case c13 => k_is); (case k13 => k_is); (case a14 => k_is); (case l14 => k_is); (case c14 => k_is); (case k14 => k_is); (case a15 => k_is); (case l15 => k_is); (case c15 => k_is); (case k15 => k_is); (case a16 => k_is); (case l16 => k_is); (case c16 => k_is); (case k16 => k_is); (case z1 => k_is); (case z2 => k_is); (case z3 => k_is); (case z4 => k_is); (case z5 => k_is); (case z6 => k_is); (case z7 => k_is); (case z8 => k_is); (case z9 => k_is); (case z10 => k_is); (case z11 => k_is); (case z12 => k_is); (case z13 => k_is); (case z14 => k_is); (case z15 => k_is); (case z16 => k_is); (case m => k_is); (case e1 => k_is); (case e2 => k_is); (case x1 => k_exc); (case x2 => k_is); (case x3 => k_is); (case x4 => k_is); (case y1 => k_is); (case y2 => k_is); (case y3 => k_is); (case y4 => k_is); (case y5 => k_is); (case y6 => k_is); (case y7 => k_is); (case y8 => k_is); (case y9 => kit_is)
