import PyProof.Rows.All
import Wide.All
import OpenK.AllK
import Wide.FinOn
import HandS.ForMost
import HandS.IsInst
import HandS.TupAny
import HandS.TupMul
import HandS.Walk
import HandS.Conv
import HandS.Zip
import HandS.SortInts
import HandS.Defaults
import PyProof.ReprReads
import PyProof.ReprRoads
import KE.KMathGC
import PyProof.ReprLen
import HandS.NoneIn
import KE.GoesEnum
import KE.KRevSl
import HandS.WordsExc
import HandS.ExcOwn
import HandS.ExcIs
import HandS.ExcInit
import HandS.DictComp
import HandS.Wide
import HandS.Style
import PyProof.EqKinds
import HandS.List
import PyProof.AutoSeq1
import PyProof.EqAt
import PyProof.TupleCall
import Open.SpecLaws
import KE.OsGo
import HandS.ForExc
import PySem.Challenge.RW_keyriders_k18_whole_programs_alike
set_option Elab.async false
set_option linter.all false
set_option maxRecDepth 100000
set_option maxHeartbeats 4000000
namespace Kr
open PySem PySem.Spec PyProof.Rows L2
/-- the names of the built-ins are theirs -/
structure Bi (mg : Str → Option Value) : Prop where
  len : mg "len" = none
  abs : mg "abs" = none
  int : mg "int" = none
  bool : mg "bool" = none
  tuple : mg "tuple" = none
  list : mg "list" = none
  range : mg "range" = none
  zip : mg "zip" = none
  repr : mg "repr" = none
  enumerate : mg "enumerate" = none
  isinstance : mg "isinstance" = none
  all : mg "all" = none
  sorted : mg "sorted" = none
  set : mg "set" = none
  sum : mg "sum" = none
  min : mg "min" = none
  max : mg "max" = none
  any : mg "any" = none
  str : mg "str" = none
theorem sz {n : Nat} (h : n ≤ 100000) : n ≤ sizeLine := Nat.le_trans h (by decide)
theorem szl {n : Nat} (h : n < 100000) : n < sizeLine := Nat.lt_of_lt_of_le h (by decide)
/-- two ways that meet again -/
theorem join2 {c A : Prop} [Decidable c] {G R : Hp → Prop} {H2 : Hp} (tail : ∀ H3, R H3 → G H3) (h2 : ¬ c → R H2) (h1 : c → (∀ H3, R H3 → G H3) → A) : if c then A else G H2 :=
  ite2 (fun h => h1 h tail) fun h => tail _ (h2 h)
theorem same_new {H : Hp} {q : Addr} {o : HO} (h : H q = none) : Same H (upd H q o) := fun b x e => by
  rw [upd_ne (ne_of_none e h)]
  exact e
structure Df (K : PySem.W.Frag) (mg : Str → Option Value) (x : Str) (st : Stmt) (ps : List Str) : Prop where
  ex : ∃ f fd, Fun K x x st f fd ∧ Binds K fd ps [] ∧ mg x = some (.ref f)
structure Ok (P : Program) (w : World) (K : PySem.W.Frag) (mg : Str → Option Value) (base : Heap) (k : Nat) (x : Str) (ps : List Str) (sp : Sp) : Prop where
  ex : ∃ f fd, FnOk P w K mg base CX0 k f fd ps sp ∧ PySem.W.keepIn K (.ref f) = true ∧ mg x = some (.ref f) ∧ Binds K fd ps []
section
variable {P : Program} {w : World} {K : PySem.W.Frag} {mg : Str → Option Value} {base : Heap}
theorem Df.ok {x : Str} {st : Stmt} {ps : List Str} {k : Nat} {sp : Sp} (D : Df K mg x st ps) (h : ∀ f fd, Fun K x x st f fd → FnOk P w K mg base CX0 k f fd ps sp) : Ok P w K mg base k x ps sp := by
  obtain ⟨f, fd, F, b, g⟩ := D.ex
  exact ⟨f, fd, h f fd F, F.kp, g, b⟩
theorem Ok.mono {x : Str} {ps : List Str} {j k : Nat} {sp : Sp} (D : Ok P w K mg base j x ps sp) (h : j ≤ k) : Ok P w K mg base k x ps sp := by
  obtain ⟨f, fd, F, r⟩ := D.ex
  exact ⟨f, fd, F.mono h, r⟩
end
theorem pe_fn {X : Cx} {k : Nat} {x : Str} {ps : List Str} {sp : Sp} {p pos : Pos} {e : Expr} {es : List Expr} {t : TA} (D : Ok X.prog X.w X.K X.mg X.base k x ps sp) (hr : Room k X.A) (hg : Gl X x) (ha : PA X (e :: es) t)
    (hdb : (x == ("__debug__" : Str)) = false := by decide) (he : starEach (e :: es) X.env = (false, eval e X.env) :: starEach es X.env := by rfl) (hpl : (backTo pos (starEach es X.env)).any (·.1) = false := by rfl) :
    PE X (.Call (.Name x p) (e :: es) [] pos) (tCall sp [] E0 t) := by
  obtain ⟨f, fd, F, kp, g, b⟩ := D.ex
  exact pe_call F hr hg g kp b .nil pass0 ha hdb he hpl
theorem atI_int {α : Type} {xs : List α} {r : Int} {v : α} (h0 : 0 ≤ r) (h : xs[r.toNat]? = some v) : atI xs r = some v := by
  have e : r = ((r.toNat : Nat) : Int) := by omega
  rw [e]
  exact atI_nat h
end Kr
namespace Kr
open PySem PySem.Spec PyProof.Rows L2
/-- f(k = v, ..), names alone: how they bind -/
theorem kbn_of {K : PySem.W.Frag} {x qual : Str} {st : Stmt} {f : Addr} {fd : FuncData} {ps ks : List Str} (F : Fun K x qual st f fd) (g : {α : Type} → List α → List α)
    (hrel : ∀ {zs : List V} {ws : List Value}, Vals zs ws → Vals (g zs) (g ws))
    (h : ∀ (kV doc pm : Value) (an : Option Addr) (cdv ct : Value) (ws : List Value), ws.length = ks.length → bindArgs (PySem.W.fnOf x qual (defArgs st) (defBody st) (defScope st) .none kV doc pm an cdv ct) ⟨[], ks.zip ws⟩ = pure (ps.zip (g ws))) :
    KBn K fd ps 0 ks (fun _ ws => g ws) (fun _ zs => g zs) := by
  obtain ⟨oc, od, kV, doc, pm, an, cdv, ct, osl, rfl, lk, hcd⟩ := F.ex
  refine ⟨fun s us ws _ hu hw => ?_, fun _ r => hrel r⟩
  obtain rfl : us = [] := List.length_eq_zero_iff.mp hu
  exact .of_eq (h kV doc pm an cdv ct ws hw)
theorem vals_swap {zs : List V} {ws : List Value} (r : Vals zs ws) : Vals zs.reverse ws.reverse := r.reverse
section
variable {X : Cx} {CX : CXT} {k : Nat} {f : Addr} {fd : FuncData} {ps ks : List Str} {sp : Sp} {E : XK} {x : Str} {p pos : Pos} {kws : List Keyword} {tk : TA} {g : List Value → List Value → List Value} {gV : List V → List V → List V}
def tCallN (m : Nat) (sp : Sp) (gV : List V → List V → List V) (E : XK) (tk : TA) : TE := fun σ H Q => tk σ H fun zs H1 => zs.length = m ∧ sp (gV [] zs) H1 Q E
theorem pe_callN (F : FnOk X.prog X.w X.K X.mg X.base CX k f fd ps sp) (hr : Room k X.A) (hg : Gl X x) (hm : X.mg x = some (.ref f)) (hk : PySem.W.keepIn X.K (.ref f) = true) (hb : KBn X.K fd ps 0 ks g gV) (hx : Passes CX X E) (hkw : PK X kws tk)
    (hall : (backToKw pos (keywordEach kws X.env)).all (·.1.isSome) = true := by rfl) (hks : (backToKw pos (keywordEach kws X.env)).filterMap (·.1) = ks := by rfl) (hdb : (x == ("__debug__" : Str)) = false := by decide)
    (hpl : ((backTo pos (starEach [] X.env)).any (·.1) || (backToKw pos (keywordEach kws X.env)).any (·.1.isNone)) = false := by rfl) :
    PE X (.Call (.Name x p) [] kws pos) (tCallN ks.length sp gV E tk) := by
  refine ⟨fun pins s σ H Q I h => wpAny_Call_Name_kw (ld_glob I hg hm ?_ hdb)⟩
  refine PySem.W.callWith_KW0 (h₀ := X.base) I.ok.mod.kin hk hall ?_ hpl
  refine thn (hkw.run pos pins s σ H _ I h) fun ws s2 ⟨zs, H2, I2, rz, l2, q2⟩ => ⟨I2.kIn, ?_⟩
  rw [hks]
  have r2 := hb.rel .nil rz
  refine wpAny_call (codeAny_mono (F.run X.A X.stack s2 H2 ⟨[], ks.zip ws⟩ (g [] ws) (gV [] zs) _ E hr I2.env0 (hb.to s2 [] ws I2.kIn rfl (rz.length.symm.trans l2)) r2 q2) fun r s' hq => ?_)
  cases r with
  | error e => exact hx pins σ _ _ e s' I2 hq
  | ok fl =>
    cases fl with
    | ret u => exact I2.after hq
    | next => exact hq.elim
    | brk => exact hq.elim
    | cont => exact hq.elim
end
end Kr
namespace Kr
open PySem PySem.Spec PyProof.Rows L2
/-! ### defs that are called where no repr is under way -/
structure FnG (P : Program) (w : World) (K : PySem.W.Frag) (mg : Str → Option Value) (base : Heap) (CX : CXT) (k : Nat) (f : Addr) (fd : FuncData) (ps : List Str) (sp : Sp) : Prop where
  len : ∀ vs H Q E, sp vs H Q E → vs.length = ps.length
  run : ∀ (A : Around) (outer : List Env) (s : Shared) (H : Hp) (args : Args) (us : List Value) (vs : List V) (Q : VK) (E : XK), A.guards = some [] → Room k A → Env0 P w K mg base A outer s H → BindsTo s fd args (ps.zip us) → Vals vs us → sp vs H Q E →
    codeAny (model P w) A (.call (.ref f) args) (CR CX outer P w H s Q E) s
section
variable {P : Program} {w : World} {K : PySem.W.Frag} {mg : Str → Option Value} {base : Heap} {CX : CXT}
theorem FnG.mono {j k : Nat} {f : Addr} {fd : FuncData} {ps : List Str} {sp : Sp} (F : FnG P w K mg base CX j f fd ps sp) (h : j ≤ k) : FnG P w K mg base CX k f fd ps sp :=
  ⟨F.len, fun A outer s H args us vs Q E hg hr => F.run A outer s H args us vs Q E hg (hr.mono h)⟩
/-- by the body, as Fun.ok; the body is told that no repr is under way -/
theorem okG {x qual : Str} {st : Stmt} {f : Addr} {fd : FuncData} {N ps : List Str} {k : Nat} {sp : Sp} (F : Fun K x qual st f fd) (S : FnScope N ps (defScope st)) (len : ∀ vs H Q E, sp vs H Q E → vs.length = ps.length)
    (hbody : ∀ (cdv : Value) (A : Around) (outer : List Env) (s : Shared) (H : Hp) (vs : List V) (Q : VK) (E : XK), (A.deeper (envOfC qual (defScope st) s.heap.objs.size f cdv)).guards = some [] → Room k (A.deeper (envOfC qual (defScope st) s.heap.objs.size f cdv)) → sp vs H Q E →
      ∃ t, PSs (cxOf CX0 P w K mg base N qual (defScope st) f cdv A outer s H E).nox (defBody st) t ∧ t { nx := fun _ H' => Q .non H', rt := Q } (start N vs) H) : FnG P w K mg base CX0 (k + 1) f fd ps sp := by
  obtain ⟨oc, od, kV, doc, pm, an, cdv, ct, osl, rfl, lk, hcd⟩ := F.ex
  refine ⟨len, fun A outer s H args us vs Q E hg hr e0 hb r hsp => ?_⟩
  have KX : K.In s.heap := e0.mod.kin.keeps fun b o e => (e0.bs b o e).1
  have lim : s.heap.NoLimit := e0.mod.nolimit.keeps fun b o e => (e0.bs b o e).1
  refine codeAny_call_function hr.depth (KX _ _ lk) rfl S.co S.gen rfl (PySem.W.codeRec_of KX hcd) (hb _ _ _ _ ?_)
  have kinds : ∀ y ∈ ps.zip us, (defScope st).names.lookup y.1 = some .local ∨ ((defScope st).names.lookup y.1 = some .cell ∧ ((cellsFrom (s.heap.objs.size + 1) (defScope st).names []).lookup y.1).isSome = true) := by
    rintro ⟨n, v⟩ hy
    rcases S.par n (List.of_mem_zip hy).1 with q | q
    · exact .inl q
    · exact .inr ⟨q, PySem.W.cellsFrom_some _ _ _ (.inl q)⟩
  refine wpAny_newFunctionEnv_cells S.kind kinds fun env he s1 x => ?_
  subst he
  refine ⟨lim.keeps x.toInCall.keep, codeAny_func ?_⟩
  obtain ⟨t, ht, hq⟩ := hbody cdv A outer s H vs Q E (by first | exact hg | simpa [Around.deeper] using hg) (hr.deeper _) hsp
  have I : Inv (cxOf CX0 P w K mg base N qual (defScope st) f cdv A outer s H E) [] (start N vs) H s1 := inv_start S hr.hd e0 (len _ _ _ _ hsp) r x
  refine wpAny_mono (ht.nox.run [] s1 (start N vs) H _ I hq) (fun fl s' hs => ?_) fun e s' hs => hs
  cases fl with
  | ret u =>
    obtain ⟨v, σ', H', J, rv, q⟩ := hs
    exact ⟨v, H', J.os, J.bare, J.base, J.hok, rv, q⟩
  | next =>
    obtain ⟨σ', H', J, q⟩ := hs
    exact ⟨.non, H', J.os, J.bare, J.base, J.hok, rfl, q⟩
  | brk => exact hs.elim fun _ h => h.elim fun _ h => h.2.elim
  | cont => exact hs.elim fun _ h => h.elim fun _ h => h.2.elim
end
section
variable {X : Cx} {CX : CXT} {k : Nat} {f : Addr} {fd : FuncData} {ps : List Str} {sp : Sp} {dvs : List V} {ds : List Value} {E : XK} {x : Str} {p pos : Pos} {e : Expr} {es : List Expr} {t : TA}
/-- such a def's call, from a body of the same kind -/
theorem pe_callG (F : FnG X.prog X.w X.K X.mg X.base CX k f fd ps sp) (gd : X.A.guards = some []) (hr : Room k X.A) (hg : Gl X x) (hm : X.mg x = some (.ref f)) (hk : PySem.W.keepIn X.K (.ref f) = true) (hb : Binds X.K fd ps ds) (hd : Vals dvs ds) (hx : Passes CX X E)
    (ha : PA X (e :: es) t) (hdb : (x == ("__debug__" : Str)) = false := by decide) (he : starEach (e :: es) X.env = (false, eval e X.env) :: starEach es X.env := by rfl) (hpl : (backTo pos (starEach es X.env)).any (·.1) = false := by rfl) :
    PE X (.Call (.Name x p) (e :: es) [] pos) (tCall sp dvs E t) := by
  refine ⟨fun pins s σ H Q I h => wpAny_Call_Name_kw (ld_glob I hg hm ?_ hdb)⟩
  refine PySem.W.callWith_K (h₀ := X.base) I.ok.mod.kin hk (thn (ha.run pos pins s σ H _ I h) fun us s1 ⟨vs, H1, I1, r, q⟩ => ⟨I1.kIn, ?_⟩) he hpl
  have r2 : Vals (vs ++ dvs) (us ++ ds) := r.append hd
  have hl : (us ++ ds).length = ps.length := r2.length.symm.trans (F.len _ _ _ _ q)
  refine wpAny_call (codeAny_mono (F.run X.A X.stack s1 H1 ⟨us, []⟩ (us ++ ds) (vs ++ dvs) Q E gd hr I1.env0 (hb s1 us I1.kIn hl) r2 q) fun r s' hq => ?_)
  cases r with
  | error e => exact hx pins σ H1 s1 e s' I1 hq
  | ok fl =>
    cases fl with
    | ret u => exact I1.after hq
    | next => exact hq.elim
    | brk => exact hq.elim
    | cont => exact hq.elim
end

/-! ### the head: the law is called where nothing is under way -/
theorem law_callG {P : Program} {w : World} {K : PySem.W.Frag} {mg mb : Str → Option Value} {k : Nat} {fa a : Addr} {fd : FuncData} {x : Str} {sp : Sp} {s₁ : Shared} {vs : List Value} {ns : List Int}
    (KX : K.In s₁.heap) (hns : s₁.heap.Ns mainGlobals mg) (hb : s₁.heap.Ns builtinsNs mb) (hbb : ∀ x : Str, x ≠ "__name__" → mb x = bootBuiltins x) (hlim : s₁.heap.NoLimit) (hg : s₁.gens = #[])
    (ha : s₁.heap.get? a = some { cls := .type "list", data := .seq vs.toArray }) (hi : IntsAre vs ns) (hl : ns.length ≤ sizeLine) (hr : Room k callerA)
    (F : ∀ base : Heap, K.In base → base.Ns mainGlobals mg → FnG P w K mg base CX0 k fa fd [x] sp) (hbind : ∀ (s : Shared) (u : Value), BindsTo s fd ⟨[u], []⟩ [(x, u)])
    (hsp : ∀ H : Hp, Only H → SqL K H a (ns.map V.int) → sp [.ref a] H (fun v _ => v = .bl true) fun _ _ _ => False) :
    codeAny (model P w) callerA (.call (.ref fa) ⟨[.ref a], []⟩) (fun r s' => r = .ok (.ret (.bool true)) ∧ OldK s₁.heap s'.heap ∧ s'.os = s₁.os ∧ AllBare s'.gens) s₁ := by
  have rv := vals_ints hi
  have lenV := hi.length
  have step : ∀ H : Hp, Only H → SqL K H a (ns.map V.int) → HOk P w H s₁.heap → (∀ b, H b ≠ none → b = a) → (H a ≠ none → K.lookup a = none) →
      codeAny (model P w) callerA (.call (.ref fa) ⟨[.ref a], []⟩) (fun r s' => r = .ok (.ret (.bool true)) ∧ OldK s₁.heap s'.heap ∧ s'.os = s₁.os ∧ AllBare s'.gens) s₁ := by
    intro H hO hS hok only hK
    have free : ∀ {b : Addr} {o : Obj}, s₁.heap.get? b = some o → (b = a → H b = none) → (hidT s₁.heap H).get? b = some o := fun {b o} e n => hidT_get e (by
      cases q : H b with
      | none => rfl
      | some u => rw [n (only b (by rw [q]; simp))] at q; cases q)
    have ns2 : ∀ {b : Addr} {m : Str → Option Value}, s₁.heap.Ns b m → (hidT s₁.heap H).Ns b m := by
      rintro b m ⟨o, es, ep, e, d, r⟩
      refine ⟨o, es, ep, free e fun z => ?_, d, r⟩
      subst z
      rw [ha] at e
      cases e
      cases (show Data.seq vs.toArray _ = Data.dict es ep from d)
    have kin : K.In (hidT s₁.heap H) := fun b o e => free (KX b o e) fun z => by
      subst z
      cases q : H b with
      | none => rfl
      | some u => rw [hK (by rw [q]; simp)] at e; cases e
    have md : Mod K mg (hidT s₁.heap H) := ⟨kin, ns2 hns, ⟨mb, ns2 hb, hbb⟩, hlim.elim fun mc h => ⟨mc, ns2 h.1, h.2⟩⟩
    have e0 : Env0 P w K mg (hidT s₁.heap H) callerA [] s₁ H :=
      ⟨rfl, md, fun b o e => of_hidT e, Nat.le_of_eq (hidT_size _ _), trivial, fun b hb => absurd (show b ∈ ([] : List Addr) from hb) (by simp), hok, .of_eq hg⟩
    refine codeAny_mono ((F _ kin (ns2 hns)).run callerA [] s₁ H ⟨[.ref a], []⟩ [.ref a] [.ref a] _ _ rfl hr e0 (hbind s₁ (.ref a)) (.cons rfl .nil) (hsp H hO hS)) fun r s' h => ?_
    cases r with
    | error e => exact h.elim
    | ok fl =>
      cases fl with
      | next => exact h.elim
      | brk => exact h.elim
      | cont => exact h.elim
      | ret u =>
        obtain ⟨v, H', os, bare, un, hok', r', q⟩ := h
        obtain rfl : v = .bl true := q
        obtain rfl : u = Value.bool true := r'
        refine ⟨rfl, OldK.of_keep fun b o e => ?_, os, bare⟩
        rcases hO b with z | ⟨ob, xs, z⟩
        · exact un.keep b o e z (fun q => absurd (show b ∈ ([] : List Addr) from q) (by simp)) (by simp)
        · have e1 := (hok b _ z).1
          have e2 := (hok' b _ (un.frzs b ob _ z)).1
          rw [e] at e1
          cases e1
          exact e2
  cases hk : K.lookup a with
  | some o =>
    have e := KX a o hk
    rw [ha] at e
    cases e
    exact step (fun _ => none) (fun _ => .inl rfl) (.inr ⟨_, vs.toArray, _, hk, rfl, rfl, rfl, by rw [List.size_toArray, lenV]; exact hl, by simpa using rv⟩) (fun b u z => nomatch (show (none : Option HO) = some u from z)) (fun b z => absurd rfl z) fun z => absurd rfl z
  | none =>
    refine step (fun b => if b = a then some (.frz { cls := .type "list", data := .seq vs.toArray } (.lst (ns.map V.int))) else none) (fun b => ?_) (.inl (.inr ⟨_, if_pos rfl⟩)) (fun b u z => ?_) (fun b z => ?_) fun _ => hk
    · by_cases q : b = a
      · exact .inr ⟨_, _, if_pos q⟩
      · exact .inl (if_neg q)
    · by_cases q : b = a
      · cases (if_pos q).symm.trans z
        subst q
        exact ⟨ha, by rw [List.length_map]; exact hl, vs, _, rv, ha⟩
      · cases (if_neg q).symm.trans z
    · by_cases q : b = a
      · exact q
      · exact absurd (if_neg q) z
theorem walkG {l : PySem.W.OpenLaw} {n k : Nat} {q : Program} {loose : List Str} {XP : (Str → Option Value) → Heap → Prop} {YP : World → Heap → Prop} {d : DefRec} {K : Params → PySem.W.Frag} {sp : PySem.W.Frag → Sp} {x : Str}
    (hn : l.most = some n) (hn2 : n ≤ sizeLine) (hdf : d.params.defaults = []) (hr : Room k callerA) (hY : ∀ (w : World) (h : Heap), YP w h → (K w.params).In h)
    (F : ∀ (w : World) (mg : Str → Option Value) (fa : Addr) (h : Heap), (K w.params).In h → h.Ns mainGlobals mg → mg d.name = some (.ref fa) →
      ∃ fd : FuncData, (∀ (s : Shared) (u : Value), BindsTo s fd ⟨[u], []⟩ [(x, u)]) ∧ ∀ base : Heap, (K w.params).In base → base.Ns mainGlobals mg → FnG l.prog w (K w.params) mg base CX0 k fa fd [x] (sp (K w.params)))
    (hsp : ∀ (K : PySem.W.Frag) (H : Hp) (a : Addr) (ns : List Int), ns.length ≤ n → Only H → SqL K H a (ns.map V.int) → sp K [.ref a] H (fun v _ => v = .bl true) fun _ _ _ => False) :
    PySem.W.WalkO q loose XP YP l.row.toRowW d [] (fun f vs => PySem.call f vs) := by
  refine Att.attach_call hn hdf fun w s₀ s₁ mg mb fa o pm cd doc a vs ns G Y ho hd hcd hmg hobj hints hlen hg => ?_
  obtain ⟨fd, hb, hF⟩ := F w mg fa _ (hY w _ Y) G.T.g hmg
  exact law_callG (hY w _ Y) G.T.g G.T.b G.T.builtins G.T.nolimit hg hobj hints (Nat.le_trans hlen hn2) hr hF hb fun H hO hS => hsp _ H a ns hlen hO hS
end Kr
namespace Kr
open PySem PySem.Spec PyProof.Rows L2
/-! ### data over the abstract heap: None, bools, ints, texts, lists, tuples, {} -/
mutual
inductive Dq (H : Hp) : V → PyData → Prop
  | non : Dq H .non .none
  | bl (b : Bool) : Dq H (.bl b) (.bool b)
  | int (i : Int) : Dq H (.int i) (.int i)
  | str (x : Str) : Dq H (.str x) (.str x)
  | lst {a : Addr} {xs : List V} {ds : List PyData} (e : H a = some (.lst xs)) (q : DqA H xs ds) : Dq H (.ref a) (.list ds)
  | tup {a : Addr} {xs : List V} {ds : List PyData} (e : H a = some (.tup xs)) (q : DqA H xs ds) : Dq H (.ref a) (.tuple ds)
  | dic {a : Addr} (e : H a = some (.dK [])) : Dq H (.ref a) (.dict [])
inductive DqA (H : Hp) : List V → List PyData → Prop
  | nil : DqA H [] []
  | cons {v : V} {vs : List V} {d : PyData} {ds : List PyData} (h : Dq H v d) (t : DqA H vs ds) : DqA H (v :: vs) (d :: ds)
end
mutual
theorem Dq.up {H H' : Hp} (s : Same H H') : ∀ {v : V} {d : PyData}, Dq H v d → Dq H' v d
  | _, _, .non => .non
  | _, _, .bl b => .bl b
  | _, _, .int i => .int i
  | _, _, .str x => .str x
  | _, _, .lst e q => .lst (s _ _ e) (DqA.up s q)
  | _, _, .tup e q => .tup (s _ _ e) (DqA.up s q)
  | _, _, .dic e => .dic (s _ _ e)
theorem DqA.up {H H' : Hp} (s : Same H H') : ∀ {vs : List V} {ds : List PyData}, DqA H vs ds → DqA H' vs ds
  | _, _, .nil => .nil
  | _, _, .cons h t => .cons (Dq.up s h) (DqA.up s t)
end
theorem DqA.len {H : Hp} : ∀ {vs : List V} {ds : List PyData}, DqA H vs ds → vs.length = ds.length
  | _, _, .nil => rfl
  | _, _, .cons _ t => by rw [List.length_cons, List.length_cons, DqA.len t]
theorem DqA.get {H : Hp} : ∀ {vs : List V} {ds : List PyData} {i : Nat} {v : V}, DqA H vs ds → vs[i]? = some v → ∃ d, ds[i]? = some d ∧ Dq H v d
  | _, _, _, _, .nil, e => by simp at e
  | _, _, 0, _, .cons h _, e => by
    simp at e
    subst e
    exact ⟨_, rfl, h⟩
  | _, _, i + 1, _, .cons _ t, e => by
    obtain ⟨d, h1, h2⟩ := DqA.get (i := i) t (by simpa using e)
    exact ⟨d, by simpa using h1, h2⟩
theorem DqA.app {H : Hp} : ∀ {vs us : List V} {ds es : List PyData}, DqA H vs ds → DqA H us es → DqA H (vs ++ us) (ds ++ es)
  | _, _, _, _, .nil, q => q
  | _, _, _, _, .cons h t, q => .cons h (DqA.app t q)
theorem DqA.take {H : Hp} : ∀ {vs : List V} {ds : List PyData} (n : Nat), DqA H vs ds → DqA H (vs.take n) (ds.take n)
  | _, _, 0, _ => .nil
  | _, _, _ + 1, .nil => .nil
  | _, _, n + 1, .cons h t => .cons h (DqA.take n t)
theorem DqA.drop {H : Hp} : ∀ {vs : List V} {ds : List PyData} (n : Nat), DqA H vs ds → DqA H (vs.drop n) (ds.drop n)
  | _, _, 0, q => q
  | _, _, _ + 1, .nil => .nil
  | _, _, n + 1, .cons _ t => DqA.drop n t
theorem DqA.set {H : Hp} {v : V} {d : PyData} (q : Dq H v d) : ∀ {vs : List V} {ds : List PyData} (i : Nat), DqA H vs ds → DqA H (vs.set i v) (ds.set i d)
  | _, _, _, .nil => .nil
  | _, _, 0, .cons _ t => .cons q t
  | _, _, i + 1, .cons h t => .cons h (DqA.set q i t)
theorem DqA.one {H : Hp} {v : V} {d : PyData} (q : Dq H v d) : DqA H [v] [d] := .cons q .nil
theorem DqA.rev {H : Hp} : ∀ {vs : List V} {ds : List PyData}, DqA H vs ds → DqA H vs.reverse ds.reverse
  | _, _, .nil => .nil
  | _, _, .cons h t => by
    rw [List.reverse_cons, List.reverse_cons]
    exact DqA.app (DqA.rev t) (.one h)
theorem DqA.ints {H : Hp} : ∀ ns : List Int, DqA H (ns.map V.int) (ns.map PyData.int)
  | [] => .nil
  | n :: r => .cons (.int n) (DqA.ints r)
theorem DqA.rep {H : Hp} {v : V} {d : PyData} (q : Dq H v d) : ∀ n : Nat, DqA H (List.replicate n v) (List.replicate n d)
  | 0 => .nil
  | n + 1 => .cons q (DqA.rep q n)
theorem Dq.tup_inv {H : Hp} {v : V} {ds : List PyData} (q : Dq H v (.tuple ds)) : ∃ a xs, v = .ref a ∧ H a = some (.tup xs) ∧ DqA H xs ds := by
  cases q with
  | tup e h => exact ⟨_, _, rfl, e, h⟩

/-! ### how long what is shown is -/
mutual
def big : PyData → Nat
  | .none | .bool _ => 5
  | .int i => (toString i : Str).length
  | .str x => (reprText x).length
  | .list xs | .tuple xs => bigA xs + 3
  | .dict _ => 2
def bigA : List PyData → Nat
  | [] => 0
  | x :: xs => big x + 2 + bigA xs
end

section
variable {X : Cx} {pins : List (Addr × Obj)} {σ : L2.St} {H : Hp} {s : Shared}
mutual
theorem Dq.reprs (I : Inv X pins σ H s) : ∀ (d : PyData) (v : V) (u : Value), Dq H v d → RelV v u → d.showable = true → d.shown.length ≤ sizeLine →
    ∃ as, Reads s.heap u d as ∧ ∃ bs, ReadAtMost s.heap d.depth bs ∧ ReprK X.prog X.w bs s.heap d.depth u d.shown
  | .none, _, _, h, r, _, _ => by
    cases h
    cases r
    exact ⟨_, .none, [], (fun _ h => nomatch h), by simp only [PyData.shown]; exact .of_is ReprIs.none _ _ _⟩
  | .bool b, _, _, h, r, _, _ => by
    cases h
    cases r
    exact ⟨_, .bool b, [], (fun _ h => nomatch h), by simp only [PyData.shown]; exact .of_is (ReprIs.bool b) _ _ _⟩
  | .int i, _, _, h, r, hs, _ => by
    cases h
    obtain ⟨t, rfl⟩ := r
    exact ⟨_, .int i t, [], (fun _ h => nomatch h), by simp only [PyData.shown]; exact .of_is (ReprIs.int t (by simpa [PyData.showable] using hs)) _ _ _⟩
  | .str x, _, _, h, r, _, hz => by
    cases h
    obtain ⟨t, rfl⟩ := r
    exact ⟨_, .str x t, [], (fun _ h => nomatch h), by simp only [PyData.shown]; exact .of_is (ReprIs.str x t (by simpa only [PyData.shown] using hz)) _ _ _⟩
  | .list ds, _, _, h, r, hs, hz => by
    cases h with
    | @lst a xs _ e ha =>
      cases r
      have hz' : (listText (PyData.shownAll ds)).length ≤ sizeLine := by simpa only [PyData.shown] using hz
      obtain ⟨its, rv, ⟨o, n, ho, hc, _, hd⟩, _⟩ := I.list (SqL.of (K := X.K) e)
      obtain ⟨as, hr, bs, hb, hk⟩ := DqA.reprs I ds _ its ha rv (by simpa [PyData.showable] using hs) fun t ht => Nat.le_trans (listText_mem_le ht) hz'
      have rd : Reads s.heap (.ref a) (.list ds) _ := .list ho hc hd hr
      have hna : a ∉ bs := not_mem_of_deeper rd (by simp only [PyData.depth]; omega) hb
      refine ⟨_, rd, a :: bs, ReadAtMost.cons rd (by simp only [PyData.depth]; omega) hb, ?_⟩
      simp only [PyData.depth, PyData.shown]
      cases its with
      | nil =>
        cases hr
        simp only [PyData.shownAll, listText_nil]
        exact ReprK.listEmpty ho hc hd
      | cons y l => exact ReprK.list ho hc hd hna (by simpa using hk.length_eq) (fun i y e => hk.item i y (by simpa using e))
  | .tuple ds, _, _, h, r, hs, hz => by
    cases h with
    | @tup a xs _ e ha =>
      cases r
      have hz' : (tupleText (PyData.shownAll ds)).length ≤ sizeLine := by simpa only [PyData.shown] using hz
      obtain ⟨its, rv, ⟨o, ho, hc, n, hd⟩, _⟩ := I.tuple (SqT.of (K := X.K) e)
      obtain ⟨as, hr, bs, hb, hk⟩ := DqA.reprs I ds _ its ha rv (by simpa [PyData.showable] using hs) fun t ht => Nat.le_trans (tupleText_mem_le ht) hz'
      have rd : Reads s.heap (.ref a) (.tuple ds) _ := .tuple ho hc hd hr
      have hna : a ∉ bs := not_mem_of_deeper rd (by simp only [PyData.depth]; omega) hb
      refine ⟨_, rd, a :: bs, ReadAtMost.cons rd (by simp only [PyData.depth]; omega) hb, ?_⟩
      simp only [PyData.depth, PyData.shown]
      exact ReprK.tuple ho hc hd hna (by simpa using hk)
  | .dict kv, _, _, h, r, _, _ => by
    cases h with
    | @dic a e =>
      cases r
      obtain ⟨_, hsys, vs, rel, o, es, ep, ho, hx, hd, _, hp, _⟩ := I.hok a _ e
      cases rel
      have hes : es = #[] := by
        obtain ⟨l⟩ := es
        have : l = [] := by
          cases l with
          | nil => rfl
          | cons y l => exact nomatch hp
        rw [this]
      subst hes
      have rd : Reads s.heap (.ref a) (.dict []) _ := .dict ho hx.1 hd .nil .nil
      refine ⟨_, rd, [a], ReadAtMost.cons rd (Nat.zero_le _) (fun _ h => nomatch h), ?_⟩
      have := ReprK.dict (prog := X.prog) (w := X.w) (as := []) (d := 0) ho hx.1 hd hsys (fun h => nomatch h) .nil
      simpa only [PyData.depth, PyData.depthKv, PyData.shown, PyData.shownKv] using this
theorem DqA.reprs (I : Inv X pins σ H s) : ∀ (ds : List PyData) (vs : List V) (us : List Value), DqA H vs ds → Vals vs us → PyData.showableAll ds = true → (∀ t ∈ PyData.shownAll ds, t.length ≤ sizeLine) →
    ∃ as, ReadsAll s.heap us ds as ∧ ∃ bs, ReadAtMost s.heap (PyData.depthAll ds) bs ∧ ReprAllK X.prog X.w bs s.heap (PyData.depthAll ds) us (PyData.shownAll ds)
  | [], _, _, h, r, _, _ => by
    cases h
    cases r
    exact ⟨_, .nil, [], (fun _ h => nomatch h), by simp only [PyData.shownAll]; exact .nil⟩
  | d :: ds, _, _, h, r, hs, hz => by
    cases h with
    | cons h1 h2 =>
      cases r with
      | cons r1 r2 =>
        have hs' : d.showable = true ∧ PyData.showableAll ds = true := by simpa [PyData.showableAll] using hs
        obtain ⟨as, q1, b1, hb1, k1⟩ := Dq.reprs I d _ _ h1 r1 hs'.1 (hz _ (by simp only [PyData.shownAll]; exact List.mem_cons_self ..))
        obtain ⟨cs, q2, b2, hb2, k2⟩ := DqA.reprs I ds _ _ h2 r2 hs'.2 (fun t ht => hz t (by simp only [PyData.shownAll]; exact List.mem_cons_of_mem _ ht))
        refine ⟨_, .cons q1 q2, b1 ++ b2, ?_, ?_⟩
        · simp only [PyData.depthAll]
          exact (hb1.mono (Nat.le_max_left _ _)).append (hb2.mono (Nat.le_max_right _ _))
        · simp only [PyData.depthAll, PyData.shownAll]
          exact .cons ((k1.more fun b hb => List.mem_append_left _ hb).level_le (Nat.le_max_left _ _)) (k2.more_le (fun b hb => List.mem_append_right _ hb) (Nat.le_max_right _ _))
end
end

/-- repr(x) of data, where no repr is under way -/
def rRepr : List V → Hp → VK → Prop := fun xs H Q => ∃ v d, xs = [v] ∧ Dq H v d ∧ d.showable = true ∧ d.depth ≤ 40 ∧ d.shown.length ≤ sizeLine ∧ Q (.str d.shown) H
theorem call_repr {X : Cx} (hg : X.A.guards = some []) (hu : X.A.units + 64 < cLine) : CallR X (.builtin "repr") rRepr := by
  intro pins s σ H xs us Q I r h
  obtain ⟨v, d, rfl, hd, hs, hdep, hz, q⟩ := h
  obtain ⟨u, rfl, r1⟩ : ∃ u, us = [u] ∧ RelV v u := by
    cases r with
    | cons a b =>
      cases b
      exact ⟨_, rfl, a⟩
  have fin : ∀ (h' : Heap) (t : Tok) (tk : Nat), (∀ b o, s.heap.get? b = some o → h'.get? b = some o) → EP X pins σ Q (.str d.shown t) { s with heap := h', toks := tk } :=
    fun h' t tk hk => ⟨.str d.shown, H, I.kept (t' := tk) hk, ⟨t, rfl⟩, q⟩
  cases hd with
  | non =>
    simp only [PyData.shown] at fin
    cases r1
    exact PySem.P.repr_of_none (fin s.heap _ _ fun _ _ e => e)
  | bl b =>
    simp only [PyData.shown] at fin
    cases r1
    have := PySem.P.repr_of_bool (prog := X.prog) (w := X.w) (A := X.A) (E := X.xe) (b := b) (s := s) (Q := EP X pins σ Q)
    refine this ?_
    have f := fin s.heap s.toks (s.toks + 1) fun _ _ e => e
    cases b <;> exact f
  | int i =>
    simp only [PyData.shown] at fin
    obtain ⟨t, rfl⟩ := r1
    exact PySem.P.repr_of_int (by simpa [PyData.showable] using hs) (fin s.heap _ _ fun _ _ e => e)
  | str x =>
    simp only [PyData.shown] at fin hz
    obtain ⟨t, rfl⟩ := r1
    exact PySem.P.repr_of_str (fin s.heap _ _ fun _ _ e => e) hz
  | @lst a xs ds e ha =>
    obtain rfl : u = Value.ref a := r1
    simp only [PyData.depth] at hdep
    have hz' : (listText (PyData.shownAll ds)).length ≤ sizeLine := by simpa only [PyData.shown] using hz
    simp only [PyData.shown] at fin
    obtain ⟨its, rv, ⟨o, n, ho, hc, _, hd⟩, _⟩ := I.list (SqL.of (K := X.K) e)
    obtain ⟨as, hr, bs, hb, hk⟩ := DqA.reprs I ds _ its ha rv (by simpa [PyData.showable] using hs) fun t ht => Nat.le_trans (listText_mem_le ht) hz'
    have rd : Reads s.heap (.ref a) (.list ds) _ := .list ho hc hd hr
    have hna : a ∉ bs := not_mem_of_deeper rd (by simp only [PyData.depth]; omega) hb
    refine call_repr_slot (by omega) ⟨o, ho, hc⟩ F.slot_list_repr.toG ?_
    cases its with
    | nil =>
      cases hr
      have e0 : listText (PyData.shownAll []) = ("[]" : Str) := by simp only [PyData.shownAll, listText_nil]
      rw [e0] at fin
      exact call_list_repr_empty ⟨o, ho, hc⟩ ho hd ⟨_, _, rfl, fin s.heap _ _ fun _ _ e => e⟩
    | cons y l =>
      exact call_list_reprK ho hc hd hna (by simpa using hk.length_eq) (fun i y e => hk.item i y (by simpa using e)) hg (fun b _ => Clear.nil b) (by show X.A.units + 1 + _ < cLine; omega) (fun _ _ e => e) (fun h' t tk hk => ⟨_, _, rfl, fin h' t tk hk⟩) hz'
  | @tup a xs ds e ha =>
    obtain rfl : u = Value.ref a := r1
    simp only [PyData.depth] at hdep
    have hz' : (tupleText (PyData.shownAll ds)).length ≤ sizeLine := by simpa only [PyData.shown] using hz
    simp only [PyData.shown] at fin
    obtain ⟨its, rv, ⟨o, ho, hc, n, hd⟩, _⟩ := I.tuple (SqT.of (K := X.K) e)
    obtain ⟨as, hr, bs, hb, hk⟩ := DqA.reprs I ds _ its ha rv (by simpa [PyData.showable] using hs) fun t ht => Nat.le_trans (tupleText_mem_le ht) hz'
    have rd : Reads s.heap (.ref a) (.tuple ds) _ := .tuple ho hc hd hr
    have hna : a ∉ bs := not_mem_of_deeper rd (by simp only [PyData.depth]; omega) hb
    refine call_repr_slot (by omega) ⟨o, ho, hc⟩ F.slot_tuple_repr ?_
    exact call_tuple_reprK ho hc hd hna (by simpa using hk) hg (fun b _ => Clear.nil b) (by show X.A.units + 1 + _ < cLine; omega) (fun _ _ e => e) (fun h' t tk hk => ⟨_, _, rfl, fin h' t tk hk⟩) hz'
  | @dic a e =>
    obtain rfl : u = Value.ref a := r1
    obtain ⟨_, hsys, vs, rel, o, es, ep, ho, hx, hd, _, hp, _⟩ := I.hok a _ e
    cases rel
    have hes : es = #[] := by
      obtain ⟨l⟩ := es
      have : l = [] := by
        cases l with
        | nil => rfl
        | cons y l => exact nomatch hp
      rw [this]
    subst hes
    simp only [PyData.shown, PyData.shownKv] at fin hz
    refine call_repr_slot (by omega) ⟨o, ho, hx.1⟩ F.slot_dict_repr ?_
    exact call_dict_reprK (as := []) (d := 0) ho hx.1 hd hsys (fun h => nomatch h) .nil hg (fun b _ => Clear.nil b) (by show X.A.units + 1 + _ < cLine; omega) (fun _ _ e => e) (fun h' t tk hk => ⟨_, _, rfl, fin h' t tk hk⟩) hz
end Kr
namespace Kr
open PySem PySem.Spec PyProof.Rows L2
/-! ### a module's name that holds a built-in (from math import comb) -/
theorem pe_callBG {X : Cx} {id : String} {r : List V → Hp → VK → Prop} {x : Str} {e : Expr} {es : List Expr} {t : TA} {p pos : Pos} (hc : CallR X (.builtin id) r) (hg : Gl X x) (hm : X.mg x = some (.builtin id)) (ha : PA X (e :: es) t) (hdb : (x == ("__debug__" : Str)) = false := by decide)
    (he : starEach (e :: es) X.env = (false, eval e X.env) :: starEach es X.env := by rfl) (hpl : (backTo pos (starEach es X.env)).any (·.1) = false := by rfl) : PE X (.Call (.Name x p) (e :: es) [] pos) (tCB r t) :=
  ⟨fun pn sh st hp W Iv hh => wpAny_Call_Name_kw (ld_glob Iv hg hm (PyProof.Rows.callWith_builtin1 (thn (ha.run pos pn sh st hp _ Iv hh) fun us s1 ⟨vs, H1, I1, r1, q1⟩ => hc pn s1 st H1 vs us W I1 r1 q1) he hpl) hdb)⟩
/-- comb(a, b) -/
def rComb : List V → Hp → VK → Prop := fun vs H Q => ∃ a b : Int, vs = [.int a, .int b] ∧ 0 ≤ a ∧ 0 ≤ b ∧ a < 1000 ∧ Q (.int (PySem.W.mcComb a b)) H
theorem call_comb {X : Cx} : CallR X (.builtin "math.comb") rComb := by
  intro pn sh st hp xs us Q Iv r h
  obtain ⟨a, b, rfl, h1, h2, h3, q⟩ := h
  cases r with
  | cons ra r =>
    cases r with
    | cons rb r =>
      cases r
      obtain ⟨t, rfl⟩ := ra
      obtain ⟨u, rfl⟩ := rb
      exact PySem.W.mc_comb h1 h2 (by omega) (.inr (by omega)) fun _ => ⟨.int (PySem.W.mcComb a b), hp, Iv.kept (t' := sh.toks + 1) (fun _ _ e => e), ⟨_, rfl⟩, q⟩
end Kr
namespace Kr
open PySem PySem.Spec PyProof.Rows L2
/-! ### data without lists and dicts: it stays while tuples stay -/
def TS (H H' : Hp) : Prop := ∀ b xs, H b = some (.tup xs) → H' b = some (.tup xs)
theorem TS.rfl {H : Hp} : TS H H := fun _ _ h => h
theorem TS.trans {H H' H'' : Hp} (a : TS H H') (b : TS H' H'') : TS H H'' := fun c xs h => b c xs (a c xs h)
theorem TS.of {H H' : Hp} (s : Same H H') : TS H H' := fun b xs h => s _ _ h
theorem TS.lst {H : Hp} {D : Addr} {xs ys : List V} (h : H D = some (.lst xs)) : TS H (upd H D (.lst ys)) := fun b zs e => by
  rw [upd_ne (ne_of e h (by intro z; cases z))]
  exact e
theorem TS.new {H : Hp} {q : Addr} {o : HO} (h : H q = none) : TS H (upd H q o) := fun b zs e => by
  rw [upd_ne (ne_of_none e h)]
  exact e
mutual
def flatT : PyData → Bool
  | .none | .bool _ | .int _ | .str _ => true
  | .tuple xs => flatTA xs
  | .list _ | .dict _ => false
def flatTA : List PyData → Bool
  | [] => true
  | x :: xs => flatT x && flatTA xs
end
mutual
theorem Dq.upT {H H' : Hp} (s : TS H H') : ∀ {v : V} {d : PyData}, flatT d = true → Dq H v d → Dq H' v d
  | _, _, _, .non => .non
  | _, _, _, .bl b => .bl b
  | _, _, _, .int i => .int i
  | _, _, _, .str x => .str x
  | _, _, h, .lst _ _ => by simp [flatT] at h
  | _, _, h, .tup e q => .tup (s _ _ e) (DqA.upT s (by simpa [flatT] using h) q)
  | _, _, h, .dic _ => by simp [flatT] at h
theorem DqA.upT {H H' : Hp} (s : TS H H') : ∀ {vs : List V} {ds : List PyData}, flatTA ds = true → DqA H vs ds → DqA H' vs ds
  | _, _, _, .nil => .nil
  | _ :: _, d :: ds, h, .cons a t => by
    have h2 : flatT d = true ∧ flatTA ds = true := by simpa [flatTA] using h
    exact .cons (Dq.upT s h2.1 a) (DqA.upT s h2.2 t)
end
theorem flatTA_of : ∀ {ds : List PyData}, (∀ d ∈ ds, flatT d = true) → flatTA ds = true
  | [], _ => rfl
  | d :: ds, h => by
    have h1 := h d List.mem_cons_self
    have h2 := flatTA_of (ds := ds) fun e he => h e (List.mem_cons_of_mem _ he)
    simp [flatTA, h1, h2]
mutual
/-- as the layer's own data, for == -/
theorem Dq.dp {K : PySem.W.Frag} {H : Hp} : ∀ {v : V} {d : PyData}, flatT d = true → Dq H v d → Dp K H v d
  | _, _, _, .non => .non
  | _, _, _, .bl b => .bl b
  | _, _, _, .int i => .int i
  | _, _, _, .str x => .str x
  | _, _, h, .lst _ _ => by simp [flatT] at h
  | _, _, h, .tup e q => .tup (SqT.of e) (DqA.dp (by simpa [flatT] using h) q)
  | _, _, h, .dic _ => by simp [flatT] at h
theorem DqA.dp {K : PySem.W.Frag} {H : Hp} : ∀ {vs : List V} {ds : List PyData}, flatTA ds = true → DqA H vs ds → DpAll K H vs ds
  | _, _, _, .nil => .nil
  | _ :: _, d :: ds, h, .cons a t => by
    have h2 : flatT d = true ∧ flatTA ds = true := by simpa [flatTA] using h
    exact .cons (Dq.dp h2.1 a) (DqA.dp h2.2 t)
end
theorem dqa_snoc {H : Hp} {vs : List V} {ds : List PyData} {v : V} {d : PyData} (a : DqA H vs ds) (b : Dq H v d) : DqA H (vs ++ [v]) (ds ++ [d]) := a.app (.one b)
/-! ### rows of signs -/
abbrev Row := List (Bool × Bool)
def bi (b : Bool) : Int := if b = true then 1 else 0
def pairD (p : Bool × Bool) : PyData := .tuple [.int (bi p.1), .int (bi p.2)]
def rowD (r : Row) : PyData := .tuple (r.map pairD)
theorem pair_flat (p : Bool × Bool) : flatT (pairD p) = true := by simp [pairD, flatT, flatTA]
theorem pairs_flat (r : Row) : flatTA (r.map pairD) = true := flatTA_of fun d hd => by
  obtain ⟨p, _, rfl⟩ := List.mem_map.mp hd
  exact pair_flat p
theorem row_flat (r : Row) : flatT (rowD r) = true := by
  simp only [rowD, flatT]
  exact pairs_flat r
theorem bi_inj {a b : Bool} : bi a = bi b ↔ a = b := by cases a <;> cases b <;> decide
theorem bi_one (a : Bool) : decide (bi a = 1) = a := by cases a <;> rfl
theorem bi_xor (a b : Bool) : Builtin.bitXor (bi a) (bi b) = bi (a ^^ b) := by cases a <;> cases b <;> decide +kernel
theorem bi_sum (a b : Bool) : (bi a + bi b) % 2 = bi (a ^^ b) := by cases a <;> cases b <;> decide +kernel
theorem pair_at {H : Hp} {b : Addr} {p : Bool × Bool} (h : H b = some (.tup [.int (bi p.1), .int (bi p.2)])) : Dq H (.ref b) (pairD p) := .tup h (.cons (.int _) (.cons (.int _) .nil))
theorem pair_inv {H : Hp} {v : V} {p : Bool × Bool} (h : Dq H v (pairD p)) : ∃ b, v = .ref b ∧ H b = some (.tup [.int (bi p.1), .int (bi p.2)]) := by
  obtain ⟨b, xs, rfl, e, q⟩ := Dq.tup_inv (show Dq H v (.tuple [.int (bi p.1), .int (bi p.2)]) from h)
  cases q with
  | cons h1 q =>
    cases q with
    | cons h2 q =>
      cases q
      cases h1
      cases h2
      exact ⟨b, rfl, e⟩
theorem row_inv {H : Hp} {v : V} {r : Row} (h : Dq H v (rowD r)) : ∃ a xs, v = .ref a ∧ H a = some (.tup xs) ∧ DqA H xs (r.map pairD) := Dq.tup_inv h
theorem pairs_get {H : Hp} {xs : List V} {r : Row} {i : Nat} {y : V} (q : DqA H xs (r.map pairD)) (e : xs[i]? = some y) : ∃ p, r[i]? = some p ∧ ∃ b, y = .ref b ∧ H b = some (.tup [.int (bi p.1), .int (bi p.2)]) := by
  obtain ⟨d, h1, h2⟩ := q.get e
  rw [List.getElem?_map] at h1
  cases hr : r[i]? with
  | none => rw [hr] at h1; cases h1
  | some p =>
    rw [hr] at h1
    cases Option.some.inj h1
    exact ⟨p, rfl, pair_inv h2⟩
theorem pairs_len {H : Hp} {xs : List V} {r : Row} (q : DqA H xs (r.map pairD)) : xs.length = r.length := by rw [q.len, List.length_map]
theorem pairD_inj {p q : Bool × Bool} : PyData.eqv (pairD p) (pairD q) = decide (p = q) := by
  obtain ⟨a, b⟩ := p
  obtain ⟨c, d⟩ := q
  cases a <;> cases b <;> cases c <;> cases d <;> decide +kernel
theorem rows_eqv : ∀ a b : Row, PyData.eqv (rowD a) (rowD b) = decide (a = b)
  | [], [] => by simp [rowD, PyData.eqv, PyData.eqvAll]
  | [], _ :: _ => by simp [rowD, PyData.eqv, PyData.eqvAll]
  | _ :: _, [] => by simp [rowD, PyData.eqv, PyData.eqvAll]
  | x :: a, y :: b => by
    have ih := rows_eqv a b
    simp only [rowD, PyData.eqv] at ih
    simp only [rowD, List.map_cons, PyData.eqv, PyData.eqvAll]
    rw [ih, pairD_inj, Bool.eq_iff_iff]
    simp
theorem pairs_lay : ∀ r : Row, PyData.canLayAll0 (r.map pairD) = true ∧ PyData.depthAll (r.map pairD) ≤ 2
  | [] => by simp [PyData.canLayAll0, PyData.depthAll]
  | p :: r => by
    obtain ⟨h1, h2⟩ := pairs_lay r
    simp only [List.map_cons, PyData.canLayAll0, PyData.depthAll, pairD, PyData.canLay0, PyData.depth, h1]
    refine ⟨by simp, by omega⟩
theorem row_shaped (r : Row) : SeqAt.shaped (rowD r) = true := by
  obtain ⟨h1, h2⟩ := pairs_lay r
  unfold SeqAt.shaped
  simp only [rowD, PyData.canLay0, PyData.depth, h1, Bool.true_and, decide_eq_true_eq]
  omega
theorem pair_shaped (p : Bool × Bool) : SeqAt.shaped (pairD p) = true := by
  obtain ⟨a, b⟩ := p
  cases a <;> cases b <;> decide +kernel
/-! ### sums of rows, rows of kinds -/
def addR (a b : Row) : Row := List.zipWith (fun p q => (p.1 ^^ q.1, p.2 ^^ q.2)) a b
def zeroR (n : Nat) : Row := List.replicate (n + 1) (false, false)
def chB (a b : Int) : Bool := if 0 ≤ b then PySem.W.mcComb a b % 2 == 1 else false
def kindR (n k : Nat) : Row := (List.range (n + 1)).map fun (m : Nat) => (chB ((n : Int) - 2 - k) (((m : Nat) : Int) - 1 - k), chB ((n : Int) - 2 - k) (((m : Nat) : Int) - k))
theorem addR_len {a b : Row} (h : a.length = b.length) : (addR a b).length = b.length := by
  unfold addR
  rw [List.length_zipWith, h, Nat.min_self]
theorem zeroR_len (n : Nat) : (zeroR n).length = n + 1 := List.length_replicate
theorem kindR_len (n k : Nat) : (kindR n k).length = n + 1 := by
  unfold kindR
  rw [List.length_map, List.length_range]
theorem addR_zero : ∀ (n : Nat) (r : Row), r.length = n → addR (List.replicate n (false, false)) r = r
  | 0, [], _ => rfl
  | n + 1, p :: r, h => by
    have ih := addR_zero n r (by simpa using h)
    unfold addR at ih ⊢
    rw [List.replicate_succ, List.zipWith_cons_cons, ih]
    simp
  | 0, _ :: _, h => by simp at h
  | _ + 1, [], h => by simp at h
end Kr
namespace Kr
open PySem PySem.Spec PyProof.Rows L2
/-! ### small data: what repr can show -/
structure Sm (k w : Nat) (d : PyData) : Prop where
  sh : d.showable = true
  ls : d.leavesShort 41 = true
  dp : d.depth ≤ k
  wt : d.weight ≤ w
theorem Sm.mono {k w k' w' : Nat} {d : PyData} (h : Sm k w d) (hk : k ≤ k') (hw : w ≤ w') : Sm k' w' d := ⟨h.sh, h.ls, Nat.le_trans h.dp hk, Nat.le_trans h.wt hw⟩
theorem sm_all {k w : Nat} : ∀ {ds : List PyData}, (∀ d ∈ ds, Sm k w d) → PyData.showableAll ds = true ∧ PyData.leavesShortAll 41 ds = true ∧ PyData.depthAll ds ≤ k ∧ PyData.weightAll ds ≤ (w + 1) * ds.length
  | [], _ => ⟨by simp [PyData.showableAll], by simp [PyData.leavesShortAll], by simp [PyData.depthAll], by simp [PyData.weightAll]⟩
  | d :: ds, h => by
    obtain ⟨h1, h2, h3, h4⟩ := sm_all fun x hx => h x (List.mem_cons_of_mem _ hx)
    have hd := h d List.mem_cons_self
    refine ⟨by simp [PyData.showableAll, hd.sh, h1], by simp [PyData.leavesShortAll, hd.ls, h2], ?_, ?_⟩
    · simp only [PyData.depthAll]
      have := hd.dp
      omega
    · simp only [PyData.weightAll, List.length_cons, Nat.mul_add]
      have := hd.wt
      omega
theorem Sm.lst {k w m : Nat} {ds : List PyData} (h : ∀ d ∈ ds, Sm k w d) (hm : ds.length ≤ m) : Sm (k + 1) ((w + 1) * m) (.list ds) := by
  obtain ⟨h1, h2, h3, h4⟩ := sm_all h
  refine ⟨by simpa [PyData.showable] using h1, by simpa [PyData.leavesShort] using h2, by simp only [PyData.depth]; omega, ?_⟩
  simp only [PyData.weight]
  exact Nat.le_trans h4 (Nat.mul_le_mul_left _ hm)
theorem Sm.tup {k w m : Nat} {ds : List PyData} (h : ∀ d ∈ ds, Sm k w d) (hm : ds.length ≤ m) : Sm (k + 1) ((w + 1) * m) (.tuple ds) := by
  obtain ⟨h1, h2, h3, h4⟩ := sm_all h
  refine ⟨by simpa [PyData.showable] using h1, by simpa [PyData.leavesShort] using h2, by simp only [PyData.depth]; omega, ?_⟩
  simp only [PyData.weight]
  exact Nat.le_trans h4 (Nat.mul_le_mul_left _ hm)
theorem Sm.int {i : Int} (h : i.natAbs < 10 ^ 40) : Sm 1 140 (.int i) := by
  have hl : (PyData.shown (.int i)).length ≤ 41 := by
    have e := int_text_length_le10 (k := 40) (by decide) h
    show (Str.ofString (toString i)).length ≤ 41
    rw [PySem.ofString_length]
    exact e
  have hg : i.natAbs.log2 < 134 := by
    by_cases h0 : i.natAbs = 0
    · rw [h0]
      decide
    · rw [Nat.log2_lt h0]
      exact Nat.lt_of_lt_of_le h (by decide)
  refine ⟨?_, by simpa [PyData.leavesShort] using hl, by simp [PyData.depth], ?_⟩
  · simp only [PyData.showable, decide_eq_true_eq]
    omega
  · simp only [PyData.weight]
    split <;> omega
theorem Sm.non : Sm 1 140 .none := ⟨rfl, rfl, by simp [PyData.depth], by simp [PyData.weight]⟩
theorem Sm.bl (b : Bool) : Sm 1 140 (.bool b) := ⟨rfl, rfl, by simp [PyData.depth], by simp [PyData.weight]⟩
theorem Sm.dic : Sm 1 140 (.dict []) := ⟨by simp [PyData.showable, PyData.showableKv], by simp [PyData.leavesShort, PyData.leavesShortKv], by simp [PyData.depth, PyData.depthKv], by simp [PyData.weight, PyData.weightKv]⟩
theorem Sm.str {x : Str} (h : (x.cps.toList.all fun c => decide (c < 16 ^ 8)) = true) (hs : x.length ≤ 4) : Sm 1 140 (.str x) :=
  ⟨by simp [PyData.showable], by simpa [PyData.leavesShort] using h, by simp [PyData.depth], Nat.le_trans (show x.cps.size ≤ 4 from hs) (by decide)⟩
/-- the text is short enough -/
theorem Sm.fits {k w : Nat} {d : PyData} (h : Sm k w d) (hw : w ≤ 380000) : d.shown.length ≤ sizeLine := by
  have h1 := PyData.shown_le 41 (by decide) d h.ls
  have h2 := h.wt
  rw [sizeLine_eq]
  omega
/-- repr of small data -/
theorem repr_sm {v : V} {d : PyData} {H : Hp} {Q : VK} {k w : Nat} (hd : Dq H v d) (h : Sm k w d) (hk : k ≤ 40) (hw : w ≤ 380000) (q : Q (.str d.shown) H) : rRepr [v] H Q :=
  ⟨v, d, rfl, hd, h.sh, Nat.le_trans h.dp hk, h.fits hw, q⟩
/-- t + u, tuples of any lengths: some object that holds both -/
theorem catA_k {K : PySem.W.Frag} {a b : Addr} {xs ys : List V} {Q : VK} {H : Hp} (ha : H a = some (.tup xs)) (hb : H b = some (.tup ys)) (hl : xs.length + ys.length ≤ 100000) (k : ∀ y H5, Same H H5 → H5 y = some (.tup (xs ++ ys)) → Q (.ref y) H5) : rCatA K (.ref a) (.ref b) H Q := by
  refine ⟨a, b, xs, ys, rfl, rfl, SqT.of ha, SqT.of hb, Nat.le_trans hl (by decide), fun e => k _ _ (Same.refl _) (by rw [e]; exact hb), fun _ e => k _ _ (Same.refl _) (by rw [e, List.append_nil]; exact ha), fun _ _ p np => k _ _ (fun c o h => ?_) upd_same⟩
  rw [upd_ne (ne_of_none h np)]
  exact h
/-- t[i:j] of a tuple: some object that holds it -/
theorem sliceA_k {K : PySem.W.Frag} {a : Addr} {xs : List V} {lo hi : Option Int} {Q : VK} {H : Hp} (ha : H a = some (.tup xs)) (k : ∀ y H5, Same H H5 → H5 y = some (.tup (cutV xs lo hi)) → Q (.ref y) H5) : rSlA K (.ref a) lo hi H Q := by
  refine ⟨a, xs, rfl, SqT.of ha, fun ⟨e1, e2⟩ => k _ _ (Same.refl _) ?_, fun _ p np => k _ _ (fun c o h => ?_) upd_same⟩
  · unfold cutV
    rw [e1, e2, List.drop_zero, Nat.sub_zero, List.take_length]
    exact ha
  · rw [upd_ne (ne_of_none h np)]
    exact h
theorem cut_to {xs : List V} {i : Nat} (h : i ≤ xs.length) : cutV xs none (some (i : Int)) = xs.take i := by
  unfold cutV
  rw [HT.sIx_none, HT.sIx_nat, List.drop_zero, Nat.sub_zero, Nat.min_eq_left h]
theorem cut_from {xs : List V} {i : Nat} (h : i ≤ xs.length) : cutV xs (some (i : Int)) none = xs.drop i := by
  unfold cutV
  rw [HT.sIx_none, HT.sIx_nat, Nat.min_eq_left h]
  exact List.take_of_length_le (by rw [List.length_drop]; exact Nat.le_refl _)
end Kr
namespace Kr
open PySem PySem.Spec PyProof.Rows L2
/-! ### defs that may be called by names in the contrary order; defs that are called where no repr is under way -/
structure OkN (P : Program) (w : World) (K : PySem.W.Frag) (mg : Str → Option Value) (base : Heap) (k : Nat) (x : Str) (ps ks : List Str) (sp : Sp) : Prop where
  ex : ∃ f fd, FnOk P w K mg base CX0 k f fd ps sp ∧ PySem.W.keepIn K (.ref f) = true ∧ mg x = some (.ref f) ∧ Binds K fd ps [] ∧ KBn K fd ps 0 ks (fun _ ws => ws.reverse) (fun _ zs => zs.reverse)
structure DfN (K : PySem.W.Frag) (mg : Str → Option Value) (x : Str) (st : Stmt) (ps ks : List Str) : Prop where
  ex : ∃ f fd, Fun K x x st f fd ∧ Binds K fd ps [] ∧ mg x = some (.ref f) ∧ KBn K fd ps 0 ks (fun _ ws => ws.reverse) (fun _ zs => zs.reverse)
structure OkG (P : Program) (w : World) (K : PySem.W.Frag) (mg : Str → Option Value) (base : Heap) (k : Nat) (x : Str) (ps : List Str) (sp : Sp) : Prop where
  ex : ∃ f fd, FnG P w K mg base CX0 k f fd ps sp ∧ PySem.W.keepIn K (.ref f) = true ∧ mg x = some (.ref f) ∧ Binds K fd ps []
section
variable {P : Program} {w : World} {K : PySem.W.Frag} {mg : Str → Option Value} {base : Heap}
theorem OkN.ok {x : Str} {ps ks : List Str} {k : Nat} {sp : Sp} (D : OkN P w K mg base k x ps ks sp) : Ok P w K mg base k x ps sp := let ⟨f, fd, a, b, c, d, _⟩ := D.ex; ⟨f, fd, a, b, c, d⟩
theorem OkN.mono {x : Str} {ps ks : List Str} {j k : Nat} {sp : Sp} (D : OkN P w K mg base j x ps ks sp) (h : j ≤ k) : OkN P w K mg base k x ps ks sp := let ⟨f, fd, a, r⟩ := D.ex; ⟨f, fd, a.mono h, r⟩
theorem DfN.df {x : Str} {st : Stmt} {ps ks : List Str} (D : DfN K mg x st ps ks) : Df K mg x st ps := let ⟨f, fd, a, b, c, _⟩ := D.ex; ⟨f, fd, a, b, c⟩
/-- a promise of the def by place holds by names -/
theorem DfN.okN {x : Str} {st : Stmt} {ps ks : List Str} {k : Nat} {sp : Sp} (D : DfN K mg x st ps ks) (h : ∀ f fd, Fun K x x st f fd → FnOk P w K mg base CX0 k f fd ps sp) : OkN P w K mg base k x ps ks sp := by
  obtain ⟨f, fd, F, b, g, n⟩ := D.ex
  exact ⟨f, fd, h f fd F, F.kp, g, b, n⟩
theorem Df.okG {x : Str} {st : Stmt} {ps : List Str} {k : Nat} {sp : Sp} (D : Df K mg x st ps) (h : ∀ f fd, Fun K x x st f fd → FnG P w K mg base CX0 k f fd ps sp) : OkG P w K mg base k x ps sp := by
  obtain ⟨f, fd, F, b, g⟩ := D.ex
  exact ⟨f, fd, h f fd F, F.kp, g, b⟩
theorem OkG.mono {x : Str} {ps : List Str} {j k : Nat} {sp : Sp} (D : OkG P w K mg base j x ps sp) (h : j ≤ k) : OkG P w K mg base k x ps sp := by
  obtain ⟨f, fd, F, r⟩ := D.ex
  exact ⟨f, fd, F.mono h, r⟩
end
section
variable {X : Cx} {k : Nat} {x : Str} {ps ks : List Str} {sp : Sp} {p pos : Pos} {e : Expr} {es : List Expr} {t : TA} {kws : List Keyword} {tk : TA}
theorem pe_fnN (D : OkN X.prog X.w X.K X.mg X.base k x ps ks sp) (hr : Room k X.A) (hg : Gl X x) (hkw : PK X kws tk)
    (hall : (backToKw pos (keywordEach kws X.env)).all (·.1.isSome) = true := by rfl) (hks : (backToKw pos (keywordEach kws X.env)).filterMap (·.1) = ks := by rfl) (hdb : (x == ("__debug__" : Str)) = false := by decide)
    (hpl : ((backTo pos (starEach [] X.env)).any (·.1) || (backToKw pos (keywordEach kws X.env)).any (·.1.isNone)) = false := by rfl) :
    PE X (.Call (.Name x p) [] kws pos) (tCallN ks.length sp (fun _ zs => zs.reverse) E0 tk) := by
  obtain ⟨f, fd, F, kp, g, b, n⟩ := D.ex
  exact pe_callN F hr hg g kp n pass0 hkw hall hks hdb hpl
theorem pe_fnG (D : OkG X.prog X.w X.K X.mg X.base k x ps sp) (gd : X.A.guards = some []) (hr : Room k X.A) (hg : Gl X x) (ha : PA X (e :: es) t)
    (hdb : (x == ("__debug__" : Str)) = false := by decide) (he : starEach (e :: es) X.env = (false, eval e X.env) :: starEach es X.env := by rfl) (hpl : (backTo pos (starEach es X.env)).any (·.1) = false := by rfl) :
    PE X (.Call (.Name x p) (e :: es) [] pos) (tCall sp [] E0 t) := by
  obtain ⟨f, fd, F, kp, g, b⟩ := D.ex
  exact pe_callG F gd hr hg g kp b .nil pass0 ha hdb he hpl
end
/-! ### what is shown is small -/
theorem Sm.lit {i : Int} (h : i.natAbs < 32) : Sm 1 5 (.int i) := by
  have a := Sm.int (i := i) (by omega)
  refine ⟨a.sh, a.ls, a.dp, ?_⟩
  simp only [PyData.weight]
  split
  · omega
  · rename_i h0
    have h1 : i.natAbs ≠ 0 := fun z => h0 (by simp; omega)
    have : i.natAbs.log2 < 5 := (Nat.log2_lt h1).mpr h
    omega
theorem Sm.strm {x : Str} {m : Nat} (h : (x.cps.toList.all fun c => decide (c < 16 ^ 8)) = true) (hs : x.length ≤ m) : Sm 1 m (.str x) :=
  ⟨by simp [PyData.showable], by simpa [PyData.leavesShort] using h, by simp [PyData.depth], hs⟩
theorem Sm.two {k w : Nat} {a b : PyData} (ha : Sm k w a) (hb : Sm k w b) : Sm (k + 1) ((w + 1) * 2) (.list [a, b]) := Sm.lst (fun d hd => by
  simp only [List.mem_cons, List.not_mem_nil, or_false] at hd
  rcases hd with rfl | rfl
  · exact ha
  · exact hb) (Nat.le_refl _)
/-- repr(e) != repr(e'), as a test -/
theorem ne_repr {te te2 : TE} {σ : L2.St} {H : Hp} {Q : Bool → Hp → Prop} (h : te σ H fun v H1 => rRepr [v] H1 fun x H2 => te2 σ H2 fun v2 H3 => rRepr [v2] H3 fun y H4 => rNe x y H4 fun z H5 => ∃ k, z = .bl k ∧ Q k H5) :
    tTest (tOp rNe (tCB rRepr (tCons te tNil)) (tCB rRepr (tCons te2 tNil))) σ H Q := h
/-- repr(e) != x, x a text in a slot -/
theorem ne_reprV {te te2 : TE} {σ : L2.St} {H : Hp} {Q : Bool → Hp → Prop} (h : te σ H fun v H1 => rRepr [v] H1 fun x H2 => te2 σ H2 fun y H4 => rNe x y H4 fun z H5 => ∃ k, z = .bl k ∧ Q k H5) :
    tTest (tOp rNe (tCB rRepr (tCons te tNil)) te2) σ H Q := h
theorem ret_eq_repr {te te2 : TE} {σ : L2.St} {H : Hp} {D : Ends} (h : te σ H fun v H1 => rRepr [v] H1 fun x H2 => te2 σ H2 fun v2 H3 => rRepr [v2] H3 fun y H4 => rEq x y H4 fun z H5 => D.rt z H5) : tRet (tOp rEq (tCB rRepr (tCons te tNil)) (tCB rRepr (tCons te2 tNil))) D σ H := h
theorem ret_eq_reprV {te te2 : TE} {σ : L2.St} {H : Hp} {D : Ends} (h : te σ H fun v H1 => rRepr [v] H1 fun x H2 => te2 σ H2 fun y H4 => rEq x y H4 fun z H5 => D.rt z H5) : tRet (tOp rEq (tCB rRepr (tCons te tNil)) te2) D σ H := h
/-- repr of small data, the text under a name -/
theorem repr_x {v : V} {d : PyData} {H : Hp} {Q : VK} {k w : Nat} (hd : Dq H v d) (h : Sm k w d) (hk : k ≤ 40) (hw : w ≤ 380000) (q : ∀ x, x = d.shown → Q (.str x) H) : rRepr [v] H Q := repr_sm hd h hk hw (q _ rfl)
theorem repr_ne {v : V} {d : PyData} {H : Hp} {x : Str} {Q : Bool → Hp → Prop} {k w : Nat} (hx : x = d.shown) (hd : Dq H v d) (h : Sm k w d) (hk : k ≤ 40) (hw : w ≤ 380000) (q : Q false H) :
    rRepr [v] H fun y H4 => rNe (.str x) y H4 fun z H5 => ∃ k, z = .bl k ∧ Q k H5 := by
  refine repr_x hd h hk hw fun y hy => ?_
  rw [← hy] at hx
  subst hx
  refine ⟨rfl, _, rfl, ?_⟩
  rw [decide_eq_true rfl]
  exact q
theorem repr_eq {v : V} {d : PyData} {H : Hp} {x : Str} {Q : VK} {k w : Nat} (hx : x = d.shown) (hd : Dq H v d) (h : Sm k w d) (hk : k ≤ 40) (hw : w ≤ 380000) (q : Q (.bl true) H) :
    rRepr [v] H fun y H4 => rEq (.str x) y H4 fun z H5 => Q z H5 := by
  refine repr_x hd h hk hw fun y hy => ?_
  rw [← hy] at hx
  subst hx
  refine ⟨rfl, ?_⟩
  rw [decide_eq_true rfl]
  exact q
theorem txt_eq {x y : Str} {d : PyData} {H : Hp} {Q : VK} (hx : x = d.shown) (hy : y = d.shown) (q : Q (.bl true) H) : rEq (.str x) (.str y) H Q := by
  rw [← hy] at hx
  subst hx
  refine ⟨rfl, ?_⟩
  rw [decide_eq_true rfl]
  exact q
theorem Sm.three {k w : Nat} {a b c : PyData} (ha : Sm k w a) (hb : Sm k w b) (hc : Sm k w c) : Sm (k + 1) ((w + 1) * 3) (.list [a, b, c]) := Sm.lst (fun d hd => by
  simp only [List.mem_cons, List.not_mem_nil, or_false] at hd
  rcases hd with rfl | rfl | rfl
  · exact ha
  · exact hb
  · exact hc) (Nat.le_refl _)
/-- two texts of the same data -/
theorem txt_ne {x y : Str} {d : PyData} {H : Hp} {Q : Bool → Hp → Prop} (hx : x = d.shown) (hy : y = d.shown) (q : Q false H) : rNe (.str x) (.str y) H fun z H5 => ∃ k, z = .bl k ∧ Q k H5 := by
  rw [← hy] at hx
  subst hx
  refine ⟨rfl, _, rfl, ?_⟩
  rw [decide_eq_true rfl]
  exact q
end Kr
namespace Kr
open PySem PySem.Spec PyProof.Rows L2
/-! ### tuple * k, k at least 1 -/
theorem tuple_mul1 (l : Addr) (items : Array Value) (n : Nat) (dd : Option Addr) (sl : Array (Option Value)) (u : Tok) :
    Meets (Builtin.«tuple.__mul__» ⟨[.ref l, .int 1 u], []⟩) (fun _ R s => s.heap.get? l = some { cls := .type "tuple", dict := dd, data := .seq items n, slots := sl } ∧ R (.ok (.ret (Value.ref l))) s) :=
  .of_wp fun prog w A R s h => by
    obtain ⟨hp, g, d, tk, os⟩ := s
    obtain ⟨hl, h⟩ := h
    have f1 := AutoSeq1.idx_int
    wp_walk using wpAny_loadPart' hl
    repeat (first
      | (refine wpAny_ite_false (by decide) ?_; wp_walk using wpAny_loadPart' hl)
      | (refine wpAny_ite_true (decide_eq_true (by rw [show ((1 : Int) == 1) = true from rfl, Bool.or_true])) ?_; wp_walk using wpAny_loadPart' hl))
    exact ⟨_, rfl, h⟩
def rRepA (K : PySem.W.Frag) : R2 := fun x y H Q => ∃ l k xs, x = .ref l ∧ y = .int k ∧ SqT K H l xs ∧ xs ≠ [] ∧ 1 ≤ k ∧ xs.length * k.toNat ≤ 100000 ∧ (k = 1 → Q (.ref l) H) ∧ (k ≠ 1 → ∀ p, H p = none → Q (.ref p) (upd H p (.tup (List.replicate k.toNat xs).flatten)))
section
variable {X : Cx}
theorem op_repA : OpR X (binaryOp .Mult) (rRepA X.K) := by
  intro pins s σ H x y v u Q I rx ry h
  obtain ⟨l, k, xs, rfl, rfl, hT, hne, h1, hz, q1, q⟩ := h
  cases rx
  obtain ⟨t, rfl⟩ := ry
  obtain ⟨its, r, ⟨⟨cls, dd, data, sl⟩, ho, hc, n, hd⟩, hs⟩ := I.tuple hT
  simp only at hc hd
  subst hc hd
  by_cases hk1 : k = 1
  · subst hk1
    exact wpAny_binaryOp_repeat_ref (T := "tuple") (U := "int") (by decide) ⟨_, ho, rfl⟩ (fun s' => typeIs_int s' 1 t) noFill_tuple_mul F.fills_int_mul F.slot_int_rmul repeat_tuple F.slot_int_index.lookup
      (call_meets F.slot_int_rmul (typeIs_int s 1 t) F.entry_int_rmul (F.args_int_rmul_2 _ _) (int_rmul_tuple 1 t l its.toArray n dd sl)
        ⟨ho, rfl, ⟨_, ho, rfl⟩, call_meets F.slot_tuple_mul ⟨_, ho, rfl⟩ F.entry_tuple_mul (F.args_tuple_mul_2 _ _) (tuple_mul1 l its.toArray n dd sl t) ⟨ho, ⟨.ref l, H, I, rfl, q1 rfl⟩⟩⟩)
  have hle : its.length = xs.length := r.length.symm
  have hn : its ≠ [] := fun e => hne (by
    rw [e] at hle
    exact List.eq_nil_of_length_eq_zero hle.symm)
  have hi : its.toArray.isEmpty = false := by
    cases its with
    | nil => exact absurd rfl hn
    | cons a b => rfl
  have hsz0 : its.toArray.size = xs.length := by rw [List.size_toArray, hle]
  have hm0 : ((its.toArray.size : Nat) : Int) * k = ((xs.length * k.toNat : Nat) : Int) := by
    rw [hsz0, Int.natCast_mul, Int.toNat_of_nonneg (by omega)]
  have hm : ((its.toArray.size : Nat) : Int) * k ≤ 100000 := by
    rw [hm0]
    omega
  have hkk : k ≤ 100000 := by
    have hx : 1 ≤ xs.length := List.length_pos_iff.mpr hne
    have a1 : 1 * k.toNat ≤ xs.length * k.toNat := Nat.mul_le_mul_right _ hx
    omega
  have flen : (List.replicate k.toNat its).flatten.length ≤ sizeLine := by
    rw [PyProof.Rows.lm_len_rep_flat, hle, sizeLine_eq, Nat.mul_comm]
    omega
  have c0 : (decide (k < -(2 ^ 63)) || decide (k ≥ 2 ^ 63)) = false := by
    rw [decide_eq_false (by omega), decide_eq_false (by omega)] <;> rfl
  have c1 : (its.toArray.isEmpty || k == 1) = false := by
    rw [hi, Bool.false_or]
    exact beq_eq_false_iff_ne.mpr hk1
  have c2 : (decide (k ≤ 0) || its.toArray.isEmpty) = false := by
    rw [hi, Bool.or_false]
    exact decide_eq_false (by omega)
  have c4 : Builtin.Tuple.tupleTooMany (((its.toArray.size : Nat) : Int) * k) = false := by
    unfold Builtin.Tuple.tupleTooMany
    rw [sizeLine_eq]
    exact decide_eq_false (by omega)
  refine wpAny_binaryOp_repeat_ref (T := "tuple") (U := "int") (by decide) ⟨_, ho, rfl⟩ (fun s' => typeIs_int s' k t) noFill_tuple_mul F.fills_int_mul F.slot_int_rmul repeat_tuple F.slot_int_index.lookup
    (call_meets F.slot_int_rmul (typeIs_int s k t) F.entry_int_rmul (F.args_int_rmul_2 _ _) (int_rmul_tuple k t l its.toArray n dd sl)
      ⟨ho, rfl, ⟨_, ho, rfl⟩, call_meets F.slot_tuple_mul ⟨_, ho, rfl⟩ F.entry_tuple_mul (F.args_tuple_mul_2 _ _) (tuple_mulW l its.toArray n dd sl k t c0 c1 c2 (by omega) c4 (by rw [size_rep, List.size_toArray]; exact flen)) ⟨ho, ?_⟩⟩)
  rw [size_rep]
  refine ⟨.ref s.heap.objs.size, _, I.laid (t' := s.toks) (o := .tup (List.replicate k.toNat xs).flatten) (fun b ob q => Heap.get?_push_of_some _ q) (Nat.le_refl _) ?_, rfl, q hk1 _ (I.hok.fresh (Nat.le_refl _))⟩
  exact ⟨by rw [PyProof.Rows.lm_len_rep_flat, sizeLine_eq, Nat.mul_comm]; omega, _, r.rep k.toNat, IsTup.new _ _⟩
end
/-- some object that holds them -/
theorem repA_k {K : PySem.W.Frag} {a : Addr} {xs : List V} {k : Int} {Q : VK} {H : Hp} (ha : H a = some (.tup xs)) (hne : xs ≠ []) (h1 : 1 ≤ k) (hz : xs.length * k.toNat ≤ 100000) (q : ∀ y H5, Same H H5 → H5 y = some (.tup (List.replicate k.toNat xs).flatten) → Q (.ref y) H5) : rRepA K (.ref a) (.int k) H Q :=
  ⟨a, k, xs, rfl, rfl, SqT.of ha, hne, h1, hz, fun e => q _ _ (Same.refl _) (by
    rw [ha, e]
    simp), fun _ p np => q _ _ (same_new np) upd_same⟩
end Kr
namespace Kr
open PySem PySem.Spec PyProof.Rows L2
/-! ### expressions that give data: what they leave of the heap, and of which data -/
/-- what holds of the heap all the while, and how heaps follow one another -/
structure Fr where
  I : Hp → Prop
  Rl : Hp → Hp → Prop
  refl : ∀ {G}, Rl G G
  trans : ∀ {A B C}, Rl A B → Rl B C → Rl A C
  up : ∀ {A B}, Same A B → I A → I B
  of : ∀ {A B}, Same A B → Rl A B
  ts : ∀ {A B}, I A → Rl A B → TS A B
def frS : Fr := ⟨fun _ => True, Same, Same.refl _, Same.trans, fun _ _ => trivial, fun s => s, fun _ s => TS.of s⟩
/-- flat data -/
def Bq (F : Fr) (te : TE) (σ : L2.St) (H : Hp) (R : PyData → Prop) : Prop := ∀ G, F.I G → F.Rl H G → ∀ Q : VK, (∀ G' v d, F.I G' → F.Rl G G' → Dq G' v d → flatT d = true → R d → Q v G') → te σ G Q
def BqA (F : Fr) (n : Nat) (ta : TA) (σ : L2.St) (H : Hp) (R : List PyData → Prop) : Prop := ∀ G, F.I G → F.Rl H G → ∀ Q : List V → Hp → Prop, (∀ G' vs ds, F.I G' → F.Rl G G' → DqA G' vs ds → ds.length = n → flatTA ds = true → R ds → Q vs G') → ta σ G Q
/-- whole numbers -/
def Bn (F : Fr) (te : TE) (σ : L2.St) (H : Hp) (R : Int → Prop) : Prop := ∀ G, F.I G → F.Rl H G → ∀ Q : VK, (∀ G' i, F.I G' → F.Rl G G' → R i → Q (.int i) G') → te σ G Q
section
variable {F : Fr} {σ : L2.St} {H : Hp} {te tf : TE} {ta : TA} {R R' : PyData → Prop} {S : List PyData → Prop} {N N' : Int → Prop} {n : Nat}
theorem Bq.mono (h : Bq F te σ H R) (i : ∀ d, R d → R' d) : Bq F te σ H R' := fun G a b Q q => h G a b Q fun G' v d c e f g k => q G' v d c e f g (i d k)
theorem Bn.mono (h : Bn F te σ H N) (i : ∀ d, N d → N' d) : Bn F te σ H N' := fun G a b Q q => h G a b Q fun G' v c e k => q G' v c e (i _ k)
theorem BqA.mono {S' : List PyData → Prop} (h : BqA F n ta σ H S) (i : ∀ d, S d → S' d) : BqA F n ta σ H S' := fun G a b Q q => h G a b Q fun G' v d c e f g k l => q G' v d c e f g k (i _ l)
theorem bn_at {Q : VK} (h : Bn F te σ H N) (a : F.I H) (k : ∀ G i, F.I G → F.Rl H G → N i → Q (.int i) G) : te σ H Q := h H a F.refl Q k
theorem bq_at {Q : VK} (h : Bq F te σ H R) (a : F.I H) (k : ∀ G v d, F.I G → F.Rl H G → Dq G v d → flatT d = true → R d → Q v G) : te σ H Q := h H a F.refl Q k
theorem bn_c {i : Int} (r : N i) : Bn F (tC (.int i)) σ H N := fun G a b Q q => q G i a F.refl r
theorem bn_var {j : Nat} {i : Int} (e : σ[j]? = some (some (.int i))) (r : N i) : Bn F (tVar j) σ H N := fun G a b Q q => ⟨_, e, q G i a F.refl r⟩
theorem bn_op {g : Int → Int → Int} (h : Bn F te σ H fun i => Bn F tf σ H fun j => N (g i j)) : Bn F (tOp (rI0 fun i j => .int (g i j)) te tf) σ H N := fun G a b Q q => h G a b _ fun G1 i I1 r1 h2 => h2 G1 I1 (F.trans b r1) _ fun G2 j I2 r2 k => ⟨i, j, rfl, rfl, q G2 _ I2 (F.trans r1 r2) k⟩
theorem bn_opC {C : Int → Int → Prop} {g : Int → Int → Int} (h : Bn F te σ H fun i => Bn F tf σ H fun j => C i j ∧ N (g i j)) : Bn F (tOp (rI C fun i j => .int (g i j)) te tf) σ H N := fun G a b Q q => h G a b _ fun G1 i I1 r1 h2 => h2 G1 I1 (F.trans b r1) _ fun G2 j I2 r2 k => ⟨i, j, rfl, rfl, k.1, q G2 _ I2 (F.trans r1 r2) k.2⟩
/-- a def that promises a number -/
theorem bq_int (h : Bn F te σ H N) (i : ∀ x, N x → R (.int x)) : Bq F te σ H R := fun G a b Q q => h G a b Q fun G' x c e k => q G' _ _ c e (.int x) rfl (i x k)
theorem bq_c {i : Int} (r : R (.int i)) : Bq F (tC (.int i)) σ H R := fun G a b Q q => q G _ _ a F.refl (.int i) rfl r
theorem bq_str {x : Str} (r : R (.str x)) : Bq F (tC (.str x)) σ H R := fun G a b Q q => q G _ _ a F.refl (.str x) rfl r
theorem bq_non (r : R .none) : Bq F (tC .non) σ H R := fun G a b Q q => q G _ _ a F.refl .non rfl r
theorem bq_bl {k : Bool} (r : R (.bool k)) : Bq F (tC (.bl k)) σ H R := fun G a b Q q => q G _ _ a F.refl (.bl k) rfl r
theorem bq_var {j : Nat} {v : V} {d : PyData} (hI : F.I H) (e : σ[j]? = some (some v)) (q : Dq H v d) (f : flatT d = true) (r : R d) : Bq F (tVar j) σ H R := fun G a b Q k => ⟨v, e, k G v d a F.refl (Dq.upT (F.ts hI b) f q) f r⟩
theorem bq_op {g : Int → Int → Int} (h : Bn F te σ H fun i => Bn F tf σ H fun j => R (.int (g i j))) : Bq F (tOp (rI0 fun i j => .int (g i j)) te tf) σ H R := bq_int (bn_op (N := fun x => R (.int x)) h) fun _ k => k
theorem bq_ivar {j : Nat} {i : Int} (e : σ[j]? = some (some (.int i))) (r : R (.int i)) : Bq F (tVar j) σ H R := bq_int (bn_var (N := fun x => R (.int x)) e r) fun _ k => k
theorem bqa_nil (r : S []) : BqA F 0 tNil σ H S := fun G a b Q q => q G _ _ a F.refl .nil rfl rfl r
theorem bqa_cons (h : Bq F te σ H fun d => BqA F n ta σ H fun ds => S (d :: ds)) : BqA F (n + 1) (tCons te ta) σ H S := fun G a b Q q => h G a b _ fun G1 v d I1 r1 q1 f1 h2 => h2 G1 I1 (F.trans b r1) _ fun G2 vs ds I2 r2 q2 l2 f2 k => q G2 _ _ I2 (F.trans r1 r2) (.cons (Dq.upT (F.ts I1 r2) f1 q1) q2) (by rw [List.length_cons, l2]) (by simp [flatTA, f1, f2]) k
theorem bq_tup (h : BqA F n ta σ H fun ds => R (.tuple ds)) (hn : n ≤ 100000 := by decide) : Bq F (tTup ta) σ H R := fun G a b Q q => h G a b _ fun G1 vs ds I1 r1 q1 l1 f1 k => ⟨sz (by rw [q1.len, l1]; exact hn), fun p np => by
  have s := same_new (o := .tup vs) np
  exact q _ _ _ (F.up s I1) (F.trans r1 (F.of s)) (.tup upd_same (q1.up s)) (by simpa [flatT] using f1) k⟩
theorem bq_tup0 (h : BqA F 0 tNil σ H fun ds => R (.tuple ds)) : Bq F (tTup tNil) σ H R := bq_tup h
theorem bq_tup1 {a : TE} (h : BqA F 1 (tCons a tNil) σ H fun ds => R (.tuple ds)) : Bq F (tTup (tCons a tNil)) σ H R := bq_tup h
theorem bq_tup2 {a b : TE} (h : BqA F 2 (tCons a (tCons b tNil)) σ H fun ds => R (.tuple ds)) : Bq F (tTup (tCons a (tCons b tNil))) σ H R := bq_tup h
theorem bq_tup3 {a b c : TE} (h : BqA F 3 (tCons a (tCons b (tCons c tNil))) σ H fun ds => R (.tuple ds)) : Bq F (tTup (tCons a (tCons b (tCons c tNil)))) σ H R := bq_tup h
/-- a list's display -/
theorem bq_lst {Q : VK} {G : Hp} (h : BqA F n ta σ H S) (a : F.I G) (b : F.Rl H G) (hn : n ≤ 100000) (q : ∀ G1 p vs ds, F.I G1 → F.Rl G G1 → DqA G1 vs ds → ds.length = n → flatTA ds = true → S ds → G1 p = none → Q (.ref p) (upd G1 p (.lst vs))) : tLst ta σ G Q := h G a b _ fun G1 vs ds I1 r1 q1 l1 f1 k => ⟨sz (by rw [q1.len, l1]; exact hn), fun p np => q G1 p vs ds I1 r1 q1 l1 f1 k np⟩
/-- a list with one more item, appended -/
theorem bn_of {N : Int → Prop} (h : Bq F te σ H R) (i : ∀ d, R d → ∃ x, d = .int x ∧ N x) : Bn F te σ H N := fun G a b Q q => h G a b Q fun G' v d c e f g k => by
  obtain ⟨x, rfl, hx⟩ := i d k
  cases f
  exact q G' x c e hx
/-- a if x < y else b, and its like -/
theorem bq_ifc {g : Int → Int → Bool} {t u : TE} (h : Bn F te σ H fun i => Bn F tf σ H fun j => (g i j = true → Bq F t σ H R) ∧ (g i j = false → Bq F u σ H R)) : Bq F (tIf (tTest (tOp (rI0 fun i j => .bl (g i j)) te tf)) t u) σ H R := fun G a b Q q => h G a b _ fun G1 i I1 r1 h2 => h2 G1 I1 (F.trans b r1) _ fun G2 j I2 r2 k => ⟨i, j, rfl, rfl, _, rfl, by
  have r12 := F.trans r1 r2
  show if g i j = true then t σ G2 Q else u σ G2 Q
  by_cases c : g i j = true
  · rw [if_pos c]
    exact k.1 c G2 I2 (F.trans b r12) Q fun G' v d x1 x2 => q G' v d x1 (F.trans r12 x2)
  · rw [if_neg c]
    exact k.2 (Bool.eq_false_iff.mpr c) G2 I2 (F.trans b r12) Q fun G' v d x1 x2 => q G' v d x1 (F.trans r12 x2)⟩
theorem bn_ifc {g : Int → Int → Bool} {t u : TE} {N : Int → Prop} (h : Bn F te σ H fun i => Bn F tf σ H fun j => (g i j = true → Bn F t σ H N) ∧ (g i j = false → Bn F u σ H N)) : Bn F (tIf (tTest (tOp (rI0 fun i j => .bl (g i j)) te tf)) t u) σ H N := fun G a b Q q => h G a b _ fun G1 i I1 r1 h2 => h2 G1 I1 (F.trans b r1) _ fun G2 j I2 r2 k => ⟨i, j, rfl, rfl, _, rfl, by
  have r12 := F.trans r1 r2
  show if g i j = true then t σ G2 Q else u σ G2 Q
  by_cases c : g i j = true
  · rw [if_pos c]
    exact k.1 c G2 I2 (F.trans b r12) Q fun G' v x1 x2 => q G' v x1 (F.trans r12 x2)
  · rw [if_neg c]
    exact k.2 (Bool.eq_false_iff.mpr c) G2 I2 (F.trans b r12) Q fun G' v x1 x2 => q G' v x1 (F.trans r12 x2)⟩
/-- t * k -/
theorem bq_rep {K : PySem.W.Frag} (h : Bq F te σ H fun d => ∃ ds, d = .tuple ds ∧ ds ≠ [] ∧ Bn F tf σ H fun k => 1 ≤ k ∧ ds.length * k.toNat ≤ 100000 ∧ R (.tuple (List.replicate k.toNat ds).flatten)) : Bq F (tOp (rRepA K) te tf) σ H R := fun G a b Q q => h G a b _ fun G1 v d I1 r1 q1 f1 ⟨ds, e, hne, h2⟩ => by
  subst e
  refine h2 G1 I1 (F.trans b r1) _ fun G2 k I2 r2 ⟨k1, k2, k3⟩ => ?_
  obtain ⟨t, xs, rfl, ht, qx⟩ := (Dq.upT (F.ts I1 r2) f1 q1).tup_inv
  have hl := qx.len
  refine repA_k ht (fun z => hne (by rw [z] at hl; exact List.eq_nil_of_length_eq_zero hl.symm)) k1 (by rw [hl]; exact k2) fun y G3 s h3 => ?_
  have rp : ∀ m : Nat, DqA G3 (List.replicate m xs).flatten (List.replicate m ds).flatten := by
    intro m
    induction m with
    | zero => exact .nil
    | succ m ih =>
      rw [List.replicate_succ, List.replicate_succ, List.flatten_cons, List.flatten_cons]
      exact (qx.up s).app ih
  refine q G3 _ _ (F.up s I2) (F.trans (F.trans r1 r2) (F.of s)) (.tup h3 (rp k.toNat)) ?_ k3
  simp only [flatT] at f1 ⊢
  refine flatTA_of fun d hd => ?_
  obtain ⟨l, hl2, hd2⟩ := List.mem_flatten.mp hd
  have := List.eq_of_mem_replicate hl2
  subst this
  have mem : ∀ {es : List PyData}, flatTA es = true → ∀ d ∈ es, flatT d = true := by
    intro es
    induction es with
    | nil => intro _ d h; exact nomatch h
    | cons e es ih =>
      intro h d hd
      have h2 : flatT e = true ∧ flatTA es = true := by simpa [flatTA] using h
      rcases List.mem_cons.mp hd with rfl | hd
      · exact h2.1
      · exact ih h2.2 d hd
  exact mem f1 d hd2
end
/-! ### statements, one by one -/
abbrev nxD (D : Ends) (u : L2.TS) : Ends := { D with nx := u D }
section
variable {te tf : TE} {ta : TA} {t u e : L2.TS} {c : TT} {D : Ends} {σ : L2.St} {H : Hp} {i : Nat} {g : TG} {wi : TI}
theorem sq_asg (h : te σ H fun v H1 => u D (σ.set i (some v)) H1) : tSeq (tAsg te (gName i)) u D σ H := h
theorem sq_drop (h : te σ H fun _ H1 => u D σ H1) : tSeq (tDrop te) u D σ H := h
theorem one_drop (h : te σ H fun _ H1 => D.nx σ H1) : tDrop te D σ H := h
theorem one_asg (h : te σ H fun v H1 => D.nx (σ.set i (some v)) H1) : tAsg te (gName i) D σ H := h
theorem one_ret (h : te σ H D.rt) : tRet te D σ H := h
theorem sq_if (h : c σ H fun b H1 => if b = true then t { D with nx := u D } σ H1 else e { D with nx := u D } σ H1) : tSeq (tIfS c t e) u D σ H := h
theorem sq_rng (h : te σ H fun v H1 => ∃ j : Int, [v] = [V.int j] ∧ -(2 ^ 62) ≤ j ∧ j < 2 ^ 62 ∧ ∃ W : Nat → Nat → L2.St → Hp → Prop, (∃ m, W 0 m σ H1) ∧ ∀ i m σ H, W i m σ H →
  ((Itr 0 j.toNat).stop i H ∧ (nxD D u).nx σ H) ∨ ((Itr 0 j.toNat).go i H ∧ ∃ N : L2.St → Hp → Prop, (∀ σ' H', N σ' H' → ∃ m', m' < m ∧ W (i + 1) m' σ' H') ∧ ∀ x H', (Itr 0 j.toNat).yld i H x H' → g x σ H' fun σ2 H2 => t { nxD D u with nx := N, bk := (nxD D u).nx, ct := N } σ2 H2)) : tSeq (tFor (iRng1 (tCons te tNil)) g t) u D σ H := h
end
end Kr
namespace Kr
open PySem PySem.Spec PyProof.Rows L2
theorem szm {n : Nat} (h : n ≤ 100000) : n < sizeLine := Nat.lt_of_le_of_lt h (by decide)
theorem walk_rg {n : Nat} : Walk (Itr 0 n) n (fun _ => True) (fun i H x H' => H' = H ∧ x = .int (i : Nat)) := walk_range.mono (fun _ h => h) fun i H x H' _ _ ⟨a, b⟩ => ⟨a, by rw [b]; show V.int (0 + (i : Int)) = _; rw [Int.zero_add]⟩
/-- a comprehension without tests whose items are new data, one for each turn -/
theorem lc_itF {J : It} {n : Nat} {G : Hp → Prop} {Y : Nat → Hp → V → Hp → Prop} (w : Walk J n G Y) {g : TG} {tt : TT} {te : TE} {vs : List Nat} {σ : L2.St} {H1 : Hp} {D : Addr} {Qd : Hp → Prop} (f : Nat → PyData) (nD : H1 D = none) (hn : n ≤ 100000) (hf : ∀ i, i < n → flatT (f i) = true) (hG : ∀ H, Same H1 H → G H)
    (hs : ∀ i x H H' (C : VK) (Cn : Hp → Prop), i < n → Same H1 H → Y i H x H' → (∀ y H4, Same H H4 → Dq H4 y (f i) → C y H4) → g x (wipe σ vs) H' fun σ2 H2 => wipe σ2 vs = wipe σ vs ∧ tt σ2 H2 fun b H3 => if b = true then te σ2 H3 C else Cn H3)
    (hd : ∀ H acc, Same H1 H → H D = some (.lst acc) → DqA H acc ((List.range n).map f) → Qd H) :
    ∃ W : Nat → Nat → Hp → Prop, (∃ m, W 0 m (upd H1 D (.lst []))) ∧ ∀ i m H, W i m H →
      (J.stop i H ∧ Qd H) ∨ (J.go i H ∧ ∃ Nx : Hp → Prop, (∀ H', Nx H' → ∃ m', m' < m ∧ W (i + 1) m' H') ∧ ∀ x H', J.yld i H x H' → g x (wipe σ vs) H' fun σ2 H2 => wipe σ2 vs = wipe σ vs ∧ tt σ2 H2 fun b H3 =>
        if b = true then te σ2 H3 fun y H4 => ∃ acc, H4 D = some (.lst acc) ∧ acc.length < sizeLine ∧ Nx (upd H4 D (.lst (acc ++ [y]))) else Nx H3) := by
  refine lc_it w (fun i H => ∃ acc, H D = some (.lst acc) ∧ Same H1 H ∧ DqA H acc ((List.range i).map f)) ⟨[], upd_same, fun b o e => by rw [upd_ne (ne_of_none e nD)]; exact e, .nil⟩ (fun i H _ ⟨_, _, s, _⟩ => hG H s) (fun i x H H' hi ⟨acc, hD, s, q⟩ y => ?_) fun H ⟨acc, hD, s, q⟩ => hd H acc s hD q
  refine hs i x H H' _ _ hi s y fun z H4 s4 d4 => ⟨acc, s4 _ _ hD, szm (by have := q.len; rw [List.length_map, List.length_range] at this; omega), acc ++ [z], upd_same, fun b o e => ?_, ?_⟩
  · rw [upd_ne (ne_of_none e nD)]
    exact s4 _ _ (s _ _ e)
  · have t : TS H4 (upd H4 D (.lst (acc ++ [z]))) := TS.lst (s4 _ _ hD)
    rw [List.range_succ, List.map_append]
    refine dqa_snoc (DqA.upT t ?_ (q.up s4)) (Dq.upT t (hf i hi) d4)
    exact flatTA_of fun d hd => by
      obtain ⟨j, hj, rfl⟩ := List.mem_map.mp hd
      exact hf j (by have := List.mem_range.mp hj; omega)
end Kr
namespace Kr
open PySem PySem.Spec PyProof.Rows L2
/-- the inner walk of a comprehension with two -/
def Inner (D : Addr) (J1 : It) (g1 : TG) (tt1 : TT) (te : TE) (vs1 : List Nat) (σ2 : L2.St) (H4 : Hp) (Nx : Hp → Prop) : Prop :=
  ∃ W1 : Nat → Nat → Hp → Prop, (∃ m, W1 0 m H4) ∧ ∀ j k H, W1 j k H →
      (J1.stop j H ∧ Nx H) ∨ (J1.go j H ∧ ∃ Nx1 : Hp → Prop, (∀ H', Nx1 H' → ∃ k', k' < k ∧ W1 (j + 1) k' H') ∧ ∀ x H', J1.yld j H x H' → g1 x (wipe σ2 vs1) H' fun σ3 H5 => wipe σ3 vs1 = wipe σ2 vs1 ∧ tt1 σ3 H5 fun b H6 =>
        if b = true then te σ3 H6 fun y H7 => ∃ acc, H7 D = some (.lst acc) ∧ acc.length < sizeLine ∧ Nx1 (upd H7 D (.lst (acc ++ [y]))) else Nx1 H6)
theorem inner_it {J1 : It} {n1 : Nat} {G1 : Hp → Prop} {Y1 : Nat → Hp → V → Hp → Prop} (w : Walk J1 n1 G1 Y1) {D : Addr} {g1 : TG} {tt1 : TT} {te : TE} {vs1 : List Nat} {σ2 : L2.St} {H4 : Hp} {Nx : Hp → Prop} (Pv : Nat → Hp → Prop) (h0 : Pv 0 H4) (hG : ∀ j H, j ≤ n1 → Pv j H → G1 H)
    (hs : ∀ j x H H', j < n1 → Pv j H → Y1 j H x H' → g1 x (wipe σ2 vs1) H' fun σ3 H5 => wipe σ3 vs1 = wipe σ2 vs1 ∧ tt1 σ3 H5 fun b H6 => if b = true then te σ3 H6 fun y H7 => ∃ acc, H7 D = some (.lst acc) ∧ acc.length < sizeLine ∧ Pv (j + 1) (upd H7 D (.lst (acc ++ [y]))) else Pv (j + 1) H6)
    (hd : ∀ H, Pv n1 H → Nx H) : Inner D J1 g1 tt1 te vs1 σ2 H4 Nx := by
  refine ⟨fun j k H => k = n1 - j ∧ j ≤ n1 ∧ Pv j H, ⟨n1, by simp, Nat.zero_le _, h0⟩, ?_⟩
  rintro j k H ⟨rfl, hj, p⟩
  have q := hG j H hj p
  by_cases hlt : j < n1
  · exact .inr ⟨w.goes j H hlt q, Pv (j + 1), fun H' p' => ⟨n1 - (j + 1), by omega, rfl, hlt, p'⟩, fun x H' y => hs j x H H' hlt p (w.yields j H x H' hlt q y)⟩
  · obtain rfl : j = n1 := by omega
    exact .inl ⟨w.stops H q, hd H p⟩
theorem lc2_it {J : It} {n : Nat} {G : Hp → Prop} {Y : Nat → Hp → V → Hp → Prop} (w : Walk J n G Y) {D : Addr} {g g1 : TG} {tt tt1 : TT} {wi1 : TI} {te : TE} {vs vs1 : List Nat} {σ : L2.St} {H1 : Hp} {Qd : Hp → Prop} (Pv : Nat → Hp → Prop) (h0 : Pv 0 (upd H1 D (.lst []))) (hG : ∀ i H, i ≤ n → Pv i H → G H)
    (hs : ∀ i x H H', i < n → Pv i H → Y i H x H' → g x (wipe σ vs) H' fun σ2 H2 => wipe σ2 vs = wipe σ vs ∧ tt σ2 H2 fun b H3 => if b = true then wi1 σ2 H3 fun J1 H4 => Inner D J1 g1 tt1 te vs1 σ2 H4 (Pv (i + 1)) else Pv (i + 1) H3) (hd : ∀ H, Pv n H → Qd H) :
    ∃ W : Nat → Nat → Hp → Prop, (∃ m, W 0 m (upd H1 D (.lst []))) ∧ ∀ i m H, W i m H →
      (J.stop i H ∧ Qd H) ∨ (J.go i H ∧ ∃ Nx : Hp → Prop, (∀ H', Nx H' → ∃ m', m' < m ∧ W (i + 1) m' H') ∧ ∀ x H', J.yld i H x H' → g x (wipe σ vs) H' fun σ2 H2 => wipe σ2 vs = wipe σ vs ∧ tt σ2 H2 fun b H3 =>
        if b = true then wi1 σ2 H3 fun J1 H4 => Inner D J1 g1 tt1 te vs1 σ2 H4 Nx else Nx H3) := by
  refine ⟨fun i m H => m = n - i ∧ i ≤ n ∧ Pv i H, ⟨n, by simp, Nat.zero_le _, h0⟩, ?_⟩
  rintro i m H ⟨rfl, hi, p⟩
  have q := hG i H hi p
  by_cases hlt : i < n
  · exact .inr ⟨w.goes i H hlt q, Pv (i + 1), fun H' p' => ⟨n - (i + 1), by omega, rfl, hlt, p'⟩, fun x H' y => hs i x H H' hlt p (w.yields i H x H' hlt q y)⟩
  · obtain rfl : i = n := by omega
    exact .inl ⟨w.stops H q, hd H p⟩
/-- data of a list of lists of numbers -/
def lotD (l : List Nat) : PyData := .tuple (l.map fun (x : Nat) => .int (x : Int))
def lv (l : List Nat) : List V := l.map fun (x : Nat) => V.int (x : Int)
theorem lv_dq {H : Hp} (l : List Nat) : DqA H (lv l) (l.map fun (x : Nat) => PyData.int (x : Int)) := by
  induction l with
  | nil => exact .nil
  | cons x l ih => exact .cons (.int _) ih
theorem lot_at {H : Hp} {a : Addr} {l : List Nat} (h : H a = some (.tup (lv l))) : Dq H (.ref a) (lotD l) := .tup h (lv_dq l)
theorem lot_inv {H : Hp} {v : V} {l : List Nat} (h : Dq H v (lotD l)) : ∃ a, v = .ref a ∧ H a = some (.tup (lv l)) := by
  obtain ⟨a, xs, rfl, e, q⟩ := Dq.tup_inv h
  have : ∀ (xs : List V) (l : List Nat), DqA H xs (l.map fun (x : Nat) => PyData.int (x : Int)) → xs = lv l := by
    intro xs l
    induction l generalizing xs with
    | nil => intro q; cases q; rfl
    | cons x l ih =>
      intro q
      cases q with
      | cons h1 h2 =>
        cases h1
        rw [ih _ h2]
        rfl
  rw [this xs l q] at e
  exact ⟨a, rfl, e⟩
theorem lot_flat (l : List Nat) : flatT (lotD l) = true := by
  simp only [lotD, flatT]
  exact flatTA_of fun d hd => by
    obtain ⟨x, _, rfl⟩ := List.mem_map.mp hd
    rfl
theorem lots_flat (L : List (List Nat)) : flatTA (L.map lotD) = true := flatTA_of fun d hd => by
  obtain ⟨l, _, rfl⟩ := List.mem_map.mp hd
  exact lot_flat l
theorem lots_get {H : Hp} {xs : List V} {L : List (List Nat)} {i : Nat} {y : V} (q : DqA H xs (L.map lotD)) (e : xs[i]? = some y) : ∃ l, L[i]? = some l ∧ ∃ a, y = .ref a ∧ H a = some (.tup (lv l)) := by
  obtain ⟨d, h1, h2⟩ := q.get e
  rw [List.getElem?_map] at h1
  cases hr : L[i]? with
  | none => rw [hr] at h1; cases h1
  | some l =>
    rw [hr] at h1
    cases Option.some.inj h1
    exact ⟨l, rfl, lot_inv h2⟩
end Kr
namespace Kr
/-! ### how many ways -/
def ch : Nat → Nat → Nat
  | _, 0 => 1
  | 0, _ + 1 => 0
  | n + 1, k + 1 => ch n k + ch n (k + 1)
theorem ch_tab : ∀ n : Nat, n < 26 → ∀ k : Nat, k < 27 → PySem.W.mcComb (n : Int) (k : Int) = (ch n k : Int) := by decide +kernel
theorem ch_zero : ∀ n k : Nat, n < k → ch n k = 0
  | 0, 0, h => absurd h (Nat.lt_irrefl _)
  | 0, k + 1, _ => by simp [ch]
  | n + 1, 0, h => by omega
  | n + 1, k + 1, h => by
    rw [ch, ch_zero n k (by omega), ch_zero n (k + 1) (by omega)]
theorem ch_self : ∀ n : Nat, ch n n = 1
  | 0 => by simp [ch]
  | n + 1 => by rw [ch, ch_self n, ch_zero n (n + 1) (by omega)]
theorem ch_pos : ∀ n k : Nat, k ≤ n → 0 < ch n k
  | n, 0, _ => by cases n <;> simp [ch]
  | 0, k + 1, h => by omega
  | n + 1, k + 1, h => by
    rw [ch]
    have := ch_pos n k (by omega)
    omega
/-- those of fewer places -/
def below (n s : Nat) : Nat := ((List.range s).map fun k => ch n k).sum
theorem below_succ (n s : Nat) : below n (s + 1) = below n s + ch n s := by
  unfold below
  rw [List.range_succ, List.map_append, List.sum_append]
  simp
theorem below_all (n : Nat) (hn : n < 26) : below n (n + 1) = 2 ^ n := by
  have : ∀ n : Nat, n < 26 → below n (n + 1) = 2 ^ n := by decide +kernel
  exact this n hn
theorem below_le {n s t : Nat} (h : s ≤ t) : below n s ≤ below n t := by
  induction t with
  | zero => rw [show s = 0 by omega]; exact Nat.le_refl _
  | succ t ih =>
    by_cases hs : s = t + 1
    · rw [hs]; exact Nat.le_refl _
    · rw [below_succ]
      have := ih (by omega)
      omega
/-! ### lots in their order -/
/-- the lot among those of k places from p on, m places being left -/
def un : Nat → Nat → Nat → Nat → List Nat
  | _, 0, _, _ => []
  | _, _ + 1, 0, _ => []
  | p, m + 1, k + 1, a => if a < ch m k then p :: un (p + 1) m k a else un (p + 1) m (k + 1) (a - ch m k)
/-- how many stand ahead -/
def rk : Nat → Nat → List Nat → Nat
  | _, _, [] => 0
  | _, 0, _ :: _ => 0
  | p, m + 1, x :: xs => if x = p then rk (p + 1) m xs else ch m xs.length + rk (p + 1) m (x :: xs)
/-- an ascending list of numbers from p to p + m - 1 -/
def Asc (p m : Nat) (l : List Nat) : Prop := l.Pairwise (· < ·) ∧ ∀ x ∈ l, p ≤ x ∧ x < p + m
theorem Asc.len : ∀ {p m : Nat} {l : List Nat}, Asc p m l → l.length ≤ m
  | _, _, [], _ => Nat.zero_le _
  | p, 0, x :: l, h => by
    have := h.2 x List.mem_cons_self
    omega
  | p, m + 1, x :: l, h => by
    obtain ⟨h1, h2⟩ := List.pairwise_cons.mp h.1
    have hx := h.2 x List.mem_cons_self
    have : Asc (p + 1) m l := ⟨h2, fun y hy => by
      have := h1 y hy
      have := h.2 y (List.mem_cons_of_mem _ hy)
      omega⟩
    have := this.len
    rw [List.length_cons]
    omega
theorem Asc.tail {p m x : Nat} {l : List Nat} (h : Asc p (m + 1) (x :: l)) (hx : x = p) : Asc (p + 1) m l := by
  obtain ⟨h1, h2⟩ := List.pairwise_cons.mp h.1
  refine ⟨h2, fun y hy => ?_⟩
  have := h1 y hy
  have := h.2 y (List.mem_cons_of_mem _ hy)
  omega
theorem Asc.skip {p m x : Nat} {l : List Nat} (h : Asc p (m + 1) (x :: l)) (hx : ¬ x = p) : Asc (p + 1) m (x :: l) := by
  refine ⟨h.1, fun y hy => ?_⟩
  obtain ⟨h1, _⟩ := List.pairwise_cons.mp h.1
  have hx0 := h.2 x List.mem_cons_self
  have hy0 := h.2 y hy
  rcases List.mem_cons.mp hy with e | hm
  · omega
  · have := h1 y hm
    omega
theorem rk_un : ∀ (m p : Nat) (l : List Nat), Asc p m l → un p m l.length (rk p m l) = l ∧ rk p m l < ch m l.length
  | 0, p, l, h => by
    have := h.len
    have : l = [] := List.length_eq_zero_iff.mp (by omega)
    subst this
    exact ⟨rfl, by simp [rk, ch]⟩
  | m + 1, p, [], _ => ⟨rfl, by simp [rk, ch]⟩
  | m + 1, p, x :: l, h => by
    simp only [List.length_cons, un, rk, ch]
    by_cases hx : x = p
    · obtain ⟨h1, h2⟩ := rk_un m (p + 1) l (h.tail hx)
      rw [if_pos hx, if_pos h2, h1, hx]
      exact ⟨rfl, by omega⟩
    · obtain ⟨h1, h2⟩ := rk_un m (p + 1) (x :: l) (h.skip hx)
      rw [if_neg hx, if_neg (by omega), Nat.add_sub_cancel_left]
      rw [List.length_cons] at h1 h2
      exact ⟨h1, by omega⟩
theorem un_rk : ∀ (m p k a : Nat), a < ch m k → Asc p m (un p m k a) ∧ (un p m k a).length = k ∧ rk p m (un p m k a) = a
  | 0, p, 0, a, h => ⟨⟨.nil, fun x hx => nomatch hx⟩, rfl, by simp [ch] at h; simp [un, rk, h]⟩
  | 0, p, k + 1, a, h => by simp [ch] at h
  | m + 1, p, 0, a, h => ⟨⟨.nil, fun x hx => nomatch hx⟩, rfl, by simp [ch] at h; simp [un, rk, h]⟩
  | m + 1, p, k + 1, a, h => by
    simp only [un]
    by_cases ha : a < ch m k
    · obtain ⟨⟨h1, h2⟩, h3, h4⟩ := un_rk m (p + 1) k a ha
      rw [if_pos ha]
      refine ⟨⟨List.pairwise_cons.mpr ⟨fun y hy => by have := h2 y hy; omega, h1⟩, fun y hy => ?_⟩, by rw [List.length_cons, h3], by simp [rk, h4]⟩
      rcases List.mem_cons.mp hy with e | hm
      · omega
      · have := h2 y hm
        omega
    · rw [ch] at h
      obtain ⟨⟨h1, h2⟩, h3, h4⟩ := un_rk m (p + 1) (k + 1) (a - ch m k) (by omega)
      rw [if_neg ha]
      refine ⟨⟨h1, fun y hy => by have := h2 y hy; omega⟩, h3, ?_⟩
      cases e : un (p + 1) m (k + 1) (a - ch m k) with
      | nil => rw [e] at h3; cases h3
      | cons x l =>
        rw [e] at h2 h3 h4
        have hx := h2 x List.mem_cons_self
        simp only [rk]
        rw [if_neg (by omega), h4, show l.length = k by simpa using h3]
        omega
/-! ### the number of a lot -/
def num (n : Nat) (l : List Nat) : Nat := below n l.length + rk 0 n l
/-- the size of the lot with a number, and what is left -/
def sizeAt (n : Nat) : Nat → Nat → Nat → Option (Nat × Nat)
  | 0, _, _ => none
  | f + 1, s, a => if a < ch n s then some (s, a) else sizeAt n f (s + 1) (a - ch n s)
def lotAt (n a : Nat) : Option (List Nat) := (sizeAt n (n + 1) 0 a).map fun (s, r) => un 0 n s r
theorem sizeAt_ok (n : Nat) : ∀ (f s a t r : Nat), t < s + f → s ≤ t → below n s + a = below n t + r → r < ch n t → sizeAt n f s a = some (t, r)
  | 0, s, a, t, r, h, h1, _, _ => by omega
  | f + 1, s, a, t, r, h, h1, h2, h3 => by
    simp only [sizeAt]
    by_cases hs : s = t
    · subst hs
      rw [if_pos (by omega)]
      have : a = r := by omega
      rw [this]
    · have h4 := below_le (n := n) (show s + 1 ≤ t by omega)
      rw [below_succ] at h4
      rw [if_neg (by omega)]
      exact sizeAt_ok n f (s + 1) (a - ch n s) t r (by omega) (by omega) (by rw [below_succ]; omega) h3
theorem sizeAt_ex (n : Nat) : ∀ (f s a : Nat), below n s + a < below n (s + f) → ∃ t r, sizeAt n f s a = some (t, r) ∧ s ≤ t ∧ t < s + f ∧ below n s + a = below n t + r ∧ r < ch n t
  | 0, s, a, h => by
    rw [Nat.add_zero] at h
    omega
  | f + 1, s, a, h => by
    simp only [sizeAt]
    by_cases ha : a < ch n s
    · rw [if_pos ha]
      exact ⟨s, a, rfl, Nat.le_refl _, by omega, rfl, ha⟩
    · rw [if_neg ha]
      obtain ⟨t, r, h1, h2, h3, h4, h5⟩ := sizeAt_ex n f (s + 1) (a - ch n s) (by rw [below_succ, show s + 1 + f = s + (f + 1) by omega]; omega)
      rw [below_succ] at h4
      exact ⟨t, r, h1, by omega, by omega, by omega, h5⟩
theorem sizeAt_none (n : Nat) : ∀ (f s a : Nat), below n (s + f) ≤ below n s + a → sizeAt n f s a = none
  | 0, s, a, _ => rfl
  | f + 1, s, a, h => by
    have h4 := below_le (n := n) (show s + 1 ≤ s + (f + 1) by omega)
    rw [below_succ] at h4
    simp only [sizeAt]
    rw [if_neg (by omega)]
    exact sizeAt_none n f (s + 1) (a - ch n s) (by rw [below_succ, show s + 1 + f = s + (f + 1) by omega]; omega)
theorem lotAt_num {n : Nat} {l : List Nat} (h : Asc 0 n l) : lotAt n (num n l) = some l := by
  obtain ⟨h1, h2⟩ := rk_un n 0 l h
  have hl := h.len
  unfold lotAt
  rw [sizeAt_ok n (n + 1) 0 (num n l) l.length (rk 0 n l) (by omega) (by omega) (by show 0 + _ = _; rw [Nat.zero_add]; rfl) h2]
  simp only [Option.map_some]
  rw [h1]
theorem lotAt_some {n a : Nat} (hn : n < 26) (ha : a < 2 ^ n) : ∃ l, lotAt n a = some l ∧ Asc 0 n l ∧ num n l = a := by
  obtain ⟨t, r, h1, h2, h3, h4, h5⟩ := sizeAt_ex n (n + 1) 0 a (by rw [Nat.zero_add, below_all n hn]; show 0 + a < _; omega)
  obtain ⟨g1, g2, g3⟩ := un_rk n 0 t r h5
  refine ⟨un 0 n t r, by unfold lotAt; rw [h1]; rfl, g1, ?_⟩
  unfold num
  rw [g2, g3]
  have : below n 0 = 0 := rfl
  omega
theorem lotAt_none {n a : Nat} (hn : n < 26) (ha : 2 ^ n ≤ a) : lotAt n a = none := by
  unfold lotAt
  rw [sizeAt_none n (n + 1) 0 a (by rw [Nat.zero_add, below_all n hn]; show _ ≤ 0 + a; omega)]
  rfl
/-! ### the same, by spots -/
/-- what lot_number adds for the places from s on -/
def numGo (n : Nat) : Nat → List Nat → Nat
  | _, [] => 0
  | p, x :: xs => ((List.range (x - p)).map fun j => ch (n - 1 - (p + j)) xs.length).sum + numGo n (x + 1) xs
theorem rk_go : ∀ (m p : Nat) (l : List Nat), Asc p m l → rk p m l = numGo (p + m) p l
  | m, p, [], _ => by cases m <;> rfl
  | 0, p, x :: l, h => by
    have := h.2 x List.mem_cons_self
    omega
  | m + 1, p, x :: l, h => by
    simp only [rk]
    by_cases hx : x = p
    · rw [if_pos hx, rk_go m (p + 1) l (h.tail hx)]
      simp only [numGo]
      rw [hx, Nat.sub_self, show p + (m + 1) = p + 1 + m by omega]
      simp
    · have hx0 := h.2 x List.mem_cons_self
      rw [if_neg hx, rk_go m (p + 1) (x :: l) (h.skip hx)]
      simp only [numGo]
      rw [show x - p = (x - (p + 1)) + 1 by omega, List.range_succ_eq_map, List.map_cons, List.map_map, List.sum_cons, show p + (m + 1) = p + 1 + m by omega]
      have e1 : ch (p + 1 + m - 1 - (p + 0)) l.length = ch m l.length := by congr 1; omega
      have e2 : ((fun j => ch (p + 1 + m - 1 - (p + j)) l.length) ∘ Nat.succ) = fun j => ch (p + 1 + m - 1 - (p + 1 + j)) l.length := by
        funext j
        show ch (p + 1 + m - 1 - (p + (j + 1))) l.length = _
        congr 1
        omega
      rw [e1, e2]
      omega
theorem num_go {n : Nat} {l : List Nat} (h : Asc 0 n l) : num n l = below n l.length + numGo n 0 l := by
  unfold num
  rw [rk_go n 0 l h, Nat.zero_add]
/-! ### all lots of a size -/
def nx (l : List Nat) : Nat := match l.getLast? with
  | some x => x + 1
  | none => 0
def stepL (n : Nat) (L : List (List Nat)) : List (List Nat) := L.flatMap fun l => (List.range' (nx l) (n - nx l)).map fun x => l ++ [x]
def lotsL (n : Nat) : Nat → List (List Nat)
  | 0 => [[]]
  | s + 1 => stepL n (lotsL n s)
/-- the law's own: lots that can't be filled up are left out -/
def lawStep (n s t : Nat) (L : List (List Nat)) : List (List Nat) := L.flatMap fun l => (List.range' (nx l) (n - s + t + 1 - nx l)).map fun x => l ++ [x]
def lawL (n s : Nat) : Nat → List (List Nat)
  | 0 => [[]]
  | t + 1 => lawStep n s t (lawL n s t)
def allL (n : Nat) : List (List Nat) := (List.range (n + 1)).flatMap fun s => lotsL n s
theorem lots_law : ∀ n : Nat, n < 13 → ∀ s : Nat, s < n + 1 → lawL n s s = lotsL n s := by decide +kernel
theorem lots_len : ∀ n : Nat, n < 13 → ∀ s : Nat, s < 13 → (lotsL n s).length = ch n s := by decide +kernel
theorem lots_nums : ∀ n : Nat, n < 7 → (allL n).map (num n) = List.range (2 ^ n) := by decide +kernel
end Kr
namespace Kr
open PySem PySem.Spec PyProof.Rows L2
theorem ch_small : ∀ n : Nat, n < 13 → ∀ s : Nat, s < 14 → ch n s < 1000 := by decide +kernel
theorem range1_succ (s j : Nat) : List.range' s (j + 1) = List.range' s j ++ [s + j] := by
  rw [List.range'_concat]
  simp
theorem flat_take {α β : Type} {L : List α} {f : α → List β} {i : Nat} {x : α} (h : L[i]? = some x) : (L.take (i + 1)).flatMap f = (L.take i).flatMap f ++ f x := by
  rw [List.take_add_one, h, List.flatMap_append]
  simp
theorem flat_le {α β : Type} (L : List α) (f : α → List β) (i : Nat) : ((L.take i).flatMap f).length ≤ (L.flatMap f).length := by
  conv => rhs; rw [← List.take_append_drop i L]
  rw [List.flatMap_append, List.length_append]
  omega
def exts (n : Nat) (l : List Nat) : List (List Nat) := (List.range' (nx l) (n - nx l)).map fun x => l ++ [x]
theorem step_exts (n : Nat) (L : List (List Nat)) : stepL n L = L.flatMap (exts n) := rfl
theorem nx_nil : nx [] = 0 := rfl
theorem nx_snoc (l : List Nat) (x : Nat) : nx (l ++ [x]) = x + 1 := by simp [nx]
theorem lv_snoc (l : List Nat) (x : Nat) : lv (l ++ [x]) = lv l ++ [V.int (x : Int)] := by simp [lv]
theorem lv_len (l : List Nat) : (lv l).length = l.length := by simp [lv]
theorem lots_in (n : Nat) : ∀ s, ∀ l ∈ lotsL n s, l.length = s ∧ ∀ x ∈ l, x < n
  | 0, l, h => by
    rw [List.mem_singleton.mp h]
    exact ⟨rfl, fun x hx => nomatch hx⟩
  | s + 1, l, h => by
    obtain ⟨k, hk, hl⟩ := List.mem_flatMap.mp h
    obtain ⟨x, hx, rfl⟩ := List.mem_map.mp hl
    obtain ⟨h1, h2⟩ := lots_in n s k hk
    have := List.mem_range'_1.mp hx
    refine ⟨by rw [List.length_append, h1]; rfl, fun y hy => ?_⟩
    rcases List.mem_append.mp hy with hy | hy
    · exact h2 y hy
    · rw [List.mem_singleton.mp hy]; omega
abbrev tNextL (K : PySem.W.Frag) (i : Nat) : TE := tIf (fun σ H Q => tVar i σ H fun x H' => ∃ k, TruV K x H' k ∧ Q k H') (tOp (rI0 fun i j => .int (i + j)) (tOp (rIxT K) (tVar i) (tUn (rU fun i => .int (-i)) (tC (.int 1)))) (tC (.int 1))) (tC (.int 0))
/-- what stands ahead of the extensions of a lot: lot[-1] + 1 if lot else 0 -/
theorem next_val {K : PySem.W.Frag} {σ : L2.St} {i : Nat} {a : Addr} {l : List Nat} {H : Hp} {Q : VK} (hv : σ[i]? = some (some (.ref a))) (ha : H a = some (.tup (lv l))) (q : Q (.int (nx l : Nat)) H) :
    tNextL K i σ H Q := by
  refine ⟨.ref a, hv, _, .inr (.inl ⟨_, SqT.of ha, rfl⟩), ?_⟩
  by_cases hl : l = []
  · subst hl
    exact iteF q
  · obtain ⟨k, x, rfl⟩ : ∃ k x, l = k ++ [x] := ⟨l.dropLast, l.getLast hl, (List.dropLast_concat_getLast hl).symm⟩
    rw [nx_snoc] at q
    have e : (!(lv (k ++ [x])).isEmpty) = true := by simp [lv]
    rw [e]
    refine iteT ⟨.ref a, hv, 1, rfl, a, _, -1, .int (x : Int), rfl, rfl, SqT.of ha, by rw [lv_snoc]; exact atI_last _ _, x, 1, rfl, rfl, ?_⟩
    have e2 : ((x : Int) + 1) = ((x + 1 : Nat) : Int) := by omega
    dsimp only
    rw [e2]
    exact q
def spLots : Sp := fun vs H Q _ => ∃ n s : Nat, vs = [.int (n : Int), .int (s : Int)] ∧ n ≤ 12 ∧ s ≤ 12 ∧ ∀ H' v, Same H H' → Dq H' v (.tuple ((lotsL n s).map lotD)) → Q v H'
end Kr
namespace Kr
open PySem PySem.Spec PyProof.Rows L2
def entD (e : List Int) : PyData := .tuple (e.map .int)
def tabD (T : List (List Int)) : PyData := .tuple (T.map entD)
/-- the entry of a lot l where the riders' ways are ws -/
def byE (l : List Nat) (ws : List Int) : List Int := (List.range ws.length).map fun x => if x ∈ l then -1 else ws.getD x 0
def ups (n : Nat) : List Int := (List.range n).map fun k => ((k : Nat) : Int)
def stillT (n : Nat) : List (List Int) := (allL n).map fun l => byE l (ups n)
def swapW (n a b : Nat) : List Int := ((ups n).set a (b : Int)).set b (a : Int)
def deedT (n : Nat) (q : List Nat) (a b : Nat) : List (List Int) := (allL n).map fun l => byE l (if q.all (fun x => decide (x ∈ l)) = true then swapW n a b else ups n)
theorem ent_flat (e : List Int) : flatT (entD e) = true := by
  simp only [entD, flatT]
  exact flatTA_of fun d hd => by
    obtain ⟨x, _, rfl⟩ := List.mem_map.mp hd
    rfl
theorem ents_flat (T : List (List Int)) : flatTA (T.map entD) = true := flatTA_of fun d hd => by
  obtain ⟨l, _, rfl⟩ := List.mem_map.mp hd
  exact ent_flat l
theorem ent_at {H : Hp} {a : Addr} {e : List Int} (h : H a = some (.tup (e.map V.int))) : Dq H (.ref a) (entD e) := .tup h (DqA.ints e)
theorem dqa_int {H : Hp} : ∀ {xs : List V} {ns : List Int}, DqA H xs (ns.map .int) → xs = ns.map V.int
  | _, [], .nil => rfl
  | _, n :: ns, .cons (.int _) t => by rw [dqa_int t]; rfl
theorem inV_lot (x : Nat) (l : List Nat) : inV (.int (x : Int)) (lv l) = decide (x ∈ l) := by
  unfold inV lv
  rw [Bool.eq_iff_iff, List.any_eq_true, decide_eq_true_iff]
  constructor
  · rintro ⟨v, hv, e⟩
    obtain ⟨y, hy, rfl⟩ := List.mem_map.mp hv
    have : (y : Int) = (x : Int) := by simpa [eqV] using e
    have : y = x := by omega
    rw [← this]
    exact hy
  · intro h
    exact ⟨_, List.mem_map.mpr ⟨x, h, rfl⟩, by simp [eqV]⟩
theorem lv_fl (l : List Nat) : (lv l).all flatV = true := by
  unfold lv
  rw [List.all_map]
  exact List.all_eq_true.mpr fun _ _ => rfl
/-- a statement that no run reaches -/
theorem ps_never {X : Cx} {st : Stmt} : PS X st (fun _ _ _ => False) := ⟨fun _ _ _ _ _ _ h => False.elim h⟩
def spAll6 : Sp := fun vs H Q _ => ∃ n : Nat, vs = [.int (n : Int)] ∧ n ≤ 6 ∧ ∀ H' v, Same H H' → Dq H' v (.tuple ((allL n).map lotD)) → Q v H'
def spEntBy : Sp := fun vs H Q _ => ∃ (a b : Addr) (l : List Nat) (ws : List Int), vs = [.ref a, .ref b] ∧ H a = some (.tup (lv l)) ∧ H b = some (.lst (ws.map V.int)) ∧ ws.length ≤ 100 ∧ ∀ H' t, Same H H' → H' t = some (.tup ((byE l ws).map V.int)) → Q (.ref t) H'
def spStill : Sp := fun vs H Q _ => ∃ n : Nat, vs = [.int (n : Int)] ∧ n ≤ 6 ∧ ∀ H' v, Same H H' → Dq H' v (tabD (stillT n)) → Q v H'
theorem rg_ups (n : Nat) : rgV 0 (n : Nat) = (ups n).map V.int := by
  unfold rgV ups
  rw [List.map_map, show ((n : Int) - 0).toNat = n by omega]
  exact List.map_congr_left fun i _ => by simp
theorem all_few : ∀ n : Nat, n < 7 → (allL n).length ≤ 64 := by decide +kernel
theorem all_len : ∀ n : Nat, n < 7 → (allL n).length = 2 ^ n := by decide +kernel
theorem map_getD {α β : Type} (g : α → β) (d : α) (L : List α) : (List.range L.length).map (fun i => g (L.getD i d)) = L.map g := by
  refine List.ext_getElem? fun i => ?_
  rw [List.getElem?_map, List.getElem?_map]
  by_cases h : i < L.length
  · rw [List.getElem?_range h, List.getElem?_eq_getElem h]
    show some (g (L.getD i d)) = some (g L[i])
    rw [List.getD_eq_getElem?_getD, List.getElem?_eq_getElem h]
    rfl
  · rw [List.getElem?_eq_none (by rw [List.length_range]; omega), List.getElem?_eq_none (by omega)]
    rfl
theorem getD_of {α : Type} {L : List α} {i : Nat} {x d : α} (h : L[i]? = some x) : L.getD i d = x := by
  rw [List.getD_eq_getElem?_getD, h]
  rfl
section
variable {P : Program} {w : World} {K : PySem.W.Frag} {mg : Str → Option Value} {base : Heap}
def spWays : Sp := fun vs H Q _ => ∃ (n : Nat) (b : Addr) (ws : List Int), vs = [.int (n : Int), .ref b] ∧ n ≤ 6 ∧ H b = some (.lst (ws.map V.int)) ∧ ws.length ≤ 100 ∧ ∀ H' v, Same H H' → Dq H' v (tabD ((allL n).map fun l => byE l ws)) → Q v H'
end
def spDeedT : Sp := fun vs H Q _ => ∃ (n : Nat) (d q : Addr) (as : List Nat) (a b : Nat), vs = [.int (n : Int), .ref d] ∧ n ≤ 6 ∧ H d = some (.tup [.ref q, .int (a : Int), .int (b : Int)]) ∧ H q = some (.tup (lv as)) ∧ as.length ≤ 24 ∧ a < n ∧ b < n ∧
  ∀ H' v, Same H H' → Dq H' v (tabD (deedT n as a b)) → Q v H'
def spExch : Sp := fun vs H Q _ => ∃ (n : Int) (a : Addr) (xs : List V) (v : V), vs = [.int n, .ref a] ∧ H a = some (.tup (v :: xs)) ∧ Q v H
theorem dqa_bools {H : Hp} : ∀ {xs : List V} {bs : List Bool}, DqA H xs (bs.map .bool) → xs = bs.map V.bl
  | _, [], .nil => rfl
  | _, n :: ns, .cons (.bl _) t => by rw [dqa_bools t]; rfl
theorem ixN_nat {n i : Nat} (h : i < n) : ixN n (i : Int) = some i := by
  unfold ixN
  rw [if_pos (by omega), if_pos (by omega), Int.toNat_natCast]
theorem take_snoc {α β : Type} {L : List α} {f : α → β} {i : Nat} {x : α} (h : L[i]? = some x) : (L.take (i + 1)).map f = (L.take i).map f ++ [f x] := by
  rw [List.take_add_one, h, List.map_append]
  rfl
def goalE (n : Nat) (e : List Int) : List Nat := (List.range n).filter fun x => !decide ((x : Int) ∈ e)
theorem every_few : ∀ n : Nat, n < 7 → ∀ i : Nat, i < 8 → ((List.range i).flatMap (lotsL n)).length ≤ 64 := by decide +kernel
def spGoal : Sp := fun vs H Q _ => ∃ (n : Nat) (a : Addr) (e : List Int), vs = [.int (n : Int), .ref a] ∧ n ≤ 100 ∧ H a = some (.tup (e.map V.int)) ∧ ∀ H' t, Same H H' → H' t = some (.tup (lv (goalE n e))) → Q (.ref t) H'
def spEvery : Sp := fun vs H Q _ => ∃ n : Nat, vs = [.int (n : Int)] ∧ n ≤ 6 ∧ ∀ H' v, Same H H' → Dq H' v (.list ((allL n).map lotD)) → Q v H'
theorem inV_int (x : Int) (l : List Int) : inV (.int x) (l.map V.int) = decide (x ∈ l) := by
  unfold inV
  rw [Bool.eq_iff_iff, List.any_eq_true, decide_eq_true_iff]
  constructor
  · rintro ⟨v, hv, e⟩
    obtain ⟨y, hy, rfl⟩ := List.mem_map.mp hv
    have : y = x := by simpa [eqV] using e
    rw [← this]
    exact hy
  · intro h
    exact ⟨_, List.mem_map.mpr ⟨x, h, rfl⟩, by simp [eqV]⟩
theorem int_fl (l : List Int) : (l.map V.int).all flatV = true := by
  rw [List.all_map]
  exact List.all_eq_true.mpr fun _ _ => rfl
theorem dep_ints1 : ∀ ds : List Int, PyData.depthAll (ds.map PyData.int) ≤ 1
  | [] => by simp [PyData.depthAll]
  | d :: ds => by
    have := dep_ints1 ds
    simp [PyData.depthAll, PyData.depth]
    omega
theorem lay_ints1 : ∀ ds : List Int, PyData.canLayAll0 (ds.map PyData.int) = true
  | [] => by simp [PyData.canLayAll0]
  | d :: ds => by simp [PyData.canLayAll0, PyData.canLay0, lay_ints1 ds]
theorem tup_shaped (ds : List Int) : SeqAt.shaped (.tuple (ds.map PyData.int)) = true := by
  unfold SeqAt.shaped
  have := dep_ints1 ds
  simp [PyData.canLay0, lay_ints1, PyData.depth]
  omega
theorem lot_shaped (l : List Nat) : SeqAt.shaped (lotD l) = true := by
  have e : l.map (fun (x : Nat) => PyData.int (x : Int)) = (l.map fun (x : Nat) => (x : Int)).map PyData.int := by rw [List.map_map]; rfl
  unfold lotD
  rw [e]
  exact tup_shaped _
theorem lot_nil_eqv (l : List Nat) : PyData.eqv (lotD l) (lotD []) = decide (l = []) := by
  cases l <;> simp [lotD, PyData.eqv, PyData.eqvAll]
section
variable {P : Program} {w : World} {K : PySem.W.Frag} {mg : Str → Option Value} {base : Heap}
/-- lot[-1] + 1 if lot != () else 0 -/
theorem next_ne {σ : L2.St} {i : Nat} {a : Addr} {l : List Nat} {G : Hp} {Q : VK} (hv : σ[i]? = some (some (.ref a))) (ha : G a = some (.tup (lv l))) (q : ∀ G', Same G G' → Q (.int (nx l : Nat)) G') :
    tIf (tTest (tOp (rNeD K) (tVar i) (tTup tNil))) (tOp (rI0 fun i j => .int (i + j)) (tOp (rIxT K) (tVar i) (tUn (rU fun i => .int (-i)) (tC (.int 1)))) (tC (.int 1))) (tC (.int 0)) σ G Q := by
  refine ⟨.ref a, hv, by show 0 ≤ sizeLine; decide, fun e ne => ?_⟩
  have s1 := same_new (o := .tup []) ne
  refine ⟨lotD l, lotD [], (lot_at (s1 _ _ ha)).dp (lot_flat l), (lot_at (l := []) upd_same).dp (lot_flat []), lot_shaped l, lot_shaped [], _, rfl, ?_⟩
  rw [lot_nil_eqv]
  by_cases hl : l = []
  · rw [decide_eq_true hl]
    subst hl
    exact iteF (q _ s1)
  · rw [decide_eq_false hl]
    obtain ⟨k, x, rfl⟩ : ∃ k x, l = k ++ [x] := ⟨l.dropLast, l.getLast hl, (List.dropLast_concat_getLast hl).symm⟩
    have h2 := q _ s1
    rw [nx_snoc] at h2
    refine iteT ⟨.ref a, hv, 1, rfl, a, _, -1, .int (x : Int), rfl, rfl, SqT.of (s1 _ _ ha), by rw [lv_snoc]; exact atI_last _ _, x, 1, rfl, rfl, ?_⟩
    have e2 : ((x : Int) + 1) = ((x + 1 : Nat) : Int) := by omega
    dsimp only
    rw [e2]
    exact h2
end
def setGo : Nat → List Int → List Int → List Int
  | _, [], acc => acc
  | y, x :: r, acc => setGo (y + 1) r (if 0 ≤ x then acc.set x.toNat (y : Int) else acc)
def lawE (n : Nat) (lies : List Int) : List Int := setGo 0 lies (List.replicate n (-1))
theorem setGo_len : ∀ (y : Nat) (r acc : List Int), (setGo y r acc).length = acc.length
  | _, [], _ => rfl
  | y, x :: r, acc => by
    unfold setGo
    rw [setGo_len]
    split
    · rw [List.length_set]
    · rfl
def spLEnt : Sp := fun vs H Q _ => ∃ (n : Nat) (a : Addr) (ls : List Int), vs = [.int (n : Int), .ref a] ∧ 3 ≤ n ∧ n ≤ 6 ∧ H a = some (.lst (ls.map V.int)) ∧ ls.length ≤ 100 ∧ (∀ x ∈ ls, x < n) ∧ ∀ H' t, Same H H' → H' t = some (.tup ((lawE n ls).map V.int)) → Q (.ref t) H'
abbrev Mv := List Nat × Nat × Nat
def stL (n : Nat) (l : List Nat) : List Int := (List.range n).map fun x => if x ∈ l then -1 else ((x : Nat) : Int)
def mvL (ls : List Int) (m : Mv) : List Int := if m.1.all (fun x => !decide (0 ≤ ls.getD x 0)) = true then (ls.set m.2.1 (ls.getD m.2.2 0)).set m.2.2 (ls.getD m.2.1 0) else ls
def madeE (n : Nat) (ms : List Mv) (l : List Nat) : List Int := lawE n (ms.foldl mvL (stL n l))
def madeT (n : Nat) (ms : List Mv) : List (List Int) := (allL n).map (madeE n ms)
def DeedAt (H : Hp) (v : V) (m : Mv) : Prop := ∃ d q, v = .ref d ∧ H d = some (.tup [.ref q, .int (m.2.1 : Nat), .int (m.2.2 : Nat)]) ∧ H q = some (.tup (lv m.1))
def spMade : Sp := fun vs H Q _ => ∃ (n : Nat) (mo : Addr) (xs : List V) (ms : List Mv), vs = [.int (n : Int), .ref mo] ∧ 3 ≤ n ∧ n ≤ 6 ∧ H mo = some (.lst xs) ∧ xs.length = ms.length ∧ (∀ (j : Nat) (v : V) (m : Mv), xs[j]? = some v → ms[j]? = some m → DeedAt H v m) ∧ (∀ m ∈ ms, (m.2.1 < n ∧ m.2.2 < n) ∧ m.1.length ≤ 100 ∧ ∀ x ∈ m.1, x < n) ∧
  ∀ H' v, Same H H' → Dq H' v (tabD (madeT n ms)) → Q v H'
theorem getD_lt {n : Nat} {ls : List Int} (hn : 0 < n) (h : ∀ x ∈ ls, x < n) (i : Nat) : ls.getD i 0 < n := by
  rw [List.getD_eq_getElem?_getD]
  cases e : ls[i]? with
  | none => show (0 : Int) < n; omega
  | some y => exact h y (List.mem_of_getElem? e)
theorem set_lt {n : Nat} {ls : List Int} {i : Nat} {z : Int} (hz : z < n) (h : ∀ x ∈ ls, x < n) : ∀ x ∈ ls.set i z, x < n := fun x hx => by
  rcases List.mem_or_eq_of_mem_set hx with h1 | h1
  · exact h x h1
  · rw [h1]; exact hz
theorem getD_get {ls : List Int} {i : Nat} (h : i < ls.length) : ls[i]? = some (ls.getD i 0) := by
  rw [List.getD_eq_getElem?_getD, List.getElem?_eq_getElem h]
  rfl
/-- a deed at n places -/
structure Deed (n : Nat) (m : Mv) : Prop where
  asc : Asc 0 n m.1
  ab : m.2.1 < m.2.2
  bn : m.2.2 < n
  na : m.2.1 ∉ m.1
  nb : m.2.2 ∉ m.1
/-- sorted pieces of a drawn order -/
theorem drawn_piece {n : Nat} {ys ps zs : List Int} (hp : ys.Perm (ups n)) (hs : ps.Sublist ys) (hz : zs.Perm ps) (ho : zs.Pairwise (· ≤ ·)) : ∃ ds : List Nat, zs = ds.map (fun (x : Nat) => (x : Int)) ∧ Asc 0 n ds := by
  have hm : ∀ z ∈ zs, 0 ≤ z ∧ z < n := fun z h => by
    have h1 := hp.subset (hs.subset (hz.subset h))
    unfold ups at h1
    obtain ⟨k, hk, rfl⟩ := List.mem_map.mp h1
    have := List.mem_range.mp hk
    omega
  have hnd : zs.Nodup := by
    have h0 : (ups n).Nodup := List.Pairwise.map _ (fun a b (h : a < b) => by show ((a : Nat) : Int) ≠ b; omega) List.pairwise_lt_range
    exact hz.symm.nodup ((hp.symm.nodup h0).sublist hs)
  refine ⟨zs.map Int.toNat, ?_, ?_, fun x hx => ?_⟩
  · rw [List.map_map]
    refine (List.map_id zs).symm.trans (List.map_congr_left fun z h => ?_)
    have := hm z h
    show z = ((z.toNat : Nat) : Int)
    omega
  · rw [List.pairwise_map]
    refine List.Pairwise.imp_of_mem (fun {a b} ha hb h => ?_) (ho.and hnd)
    have h1 := hm a ha
    have h2 := hm b hb
    have h3 : a ≤ b ∧ a ≠ b := h
    omega
  · obtain ⟨z, h, rfl⟩ := List.mem_map.mp hx
    have := hm z h
    exact ⟨Nat.zero_le _, by omega⟩
/-- a lot as a key -/
def lotK (l : List Nat) : List Key := l.map fun (x : Nat) => (Sum.inl (x : Int) : Key)
theorem lotK_v (l : List Nat) : (lotK l).map kV = lv l := by
  unfold lotK lv
  rw [List.map_map]
  rfl
def spNumbers : Sp := fun vs H Q _ => ∃ n : Nat, vs = [.int (n : Int)] ∧ n ≤ 6 ∧ ∀ H' p kvs, Same H H' → H' p = some (.dT kvs) → (∀ l ∈ allL n, valV kvs (lotK l) = some (.int (num n l : Nat))) → Q (.ref p) H'
def bothE (n : Nat) (U : List (List Int)) (e : List Int) : List Int := e.map fun x => if x = -1 then -1 else (U.getD (num n (goalE n e)) []).getD x.toNat 0
def bothT (n : Nat) (T U : List (List Int)) : List (List Int) := T.map (bothE n U)
/-- an entry: its goal is a lot, its places are places -/
def EntOk (n : Nat) (e : List Int) : Prop := goalE n e ∈ allL n ∧ e.length ≤ 100 ∧ ∀ x ∈ e, x = -1 ∨ (0 ≤ x ∧ x < n)
def spBoth : Sp := fun vs H Q _ => ∃ (n : Nat) (v u : V) (T U : List (List Int)), vs = [.int (n : Int), v, u] ∧ n ≤ 6 ∧ Dq H v (tabD T) ∧ Dq H u (tabD U) ∧ T.length ≤ 1000 ∧ (∀ e ∈ T, EntOk n e) ∧ U.length = 2 ^ n ∧ (∀ e ∈ U, e.length = n) ∧
  ∀ H' r, Same H H' → Dq H' r (tabD (bothT n T U)) → Q r H'
theorem all_num {n : Nat} (hn : n ≤ 6) {l : List Nat} (h : l ∈ allL n) : num n l < 2 ^ n := by
  have h1 : num n l ∈ (allL n).map (num n) := List.mem_map.mpr ⟨l, h, rfl⟩
  rw [lots_nums n (by omega)] at h1
  exact List.mem_range.mp h1
theorem ent_inv {H : Hp} {v : V} {e : List Int} (h : Dq H v (entD e)) : ∃ a, v = .ref a ∧ H a = some (.tup (e.map V.int)) := by
  obtain ⟨a, xs, rfl, ha, q⟩ := Dq.tup_inv h
  exact ⟨a, rfl, by rw [ha, dqa_int q]⟩
theorem ents_get {H : Hp} {xs : List V} {T : List (List Int)} {i : Nat} {y : V} (q : DqA H xs (T.map entD)) (h : xs[i]? = some y) : ∃ e, T[i]? = some e ∧ ∃ a, y = .ref a ∧ H a = some (.tup (e.map V.int)) := by
  obtain ⟨d, h1, h2⟩ := q.get h
  rw [List.getElem?_map] at h1
  cases hr : T[i]? with
  | none => rw [hr] at h1; cases h1
  | some e =>
    rw [hr] at h1
    cases Option.some.inj h1
    exact ⟨e, rfl, ent_inv h2⟩
section
variable {P : Program} {w : World} {K : PySem.W.Frag} {mg : Str → Option Value} {base : Heap}
theorem all_num_at {n : Nat} (hn : n ≤ 6) {i : Nat} {l : List Nat} (h : (allL n)[i]? = some l) : num n l = i ∧ i < 2 ^ n := by
  have e : ((allL n).map (num n))[i]? = some (num n l) := by rw [List.getElem?_map, h]; rfl
  rw [lots_nums n (by omega)] at e
  obtain ⟨h1, h2⟩ := List.getElem?_eq_some_iff.mp e
  rw [List.getElem_range] at h2
  rw [List.length_range] at h1
  exact ⟨h2.symm, h1⟩
theorem lotK_inj {l l' : List Nat} (h : lotK l = lotK l') : l = l' := by
  have := congrArg (List.map kV) h
  rw [lotK_v, lotK_v] at this
  unfold lv at this
  exact (List.map_inj_right (fun a b e => by
    have : (a : Int) = (b : Int) := V.int.inj e
    omega)).mp this
def aimsT (n : Nat) (T : List (List Int)) : List Int := T.map fun e => ((num n (goalE n e) : Nat) : Int)
def spAims : Sp := fun vs H Q _ => ∃ (n : Nat) (v : V) (T : List (List Int)), vs = [.int (n : Int), v] ∧ n ≤ 6 ∧ Dq H v (tabD T) ∧ T.length ≤ 1000 ∧ (∀ e ∈ T, goalE n e ∈ allL n) ∧
  ∀ H' p, Same H H' → H p = none → H' p = some (.lst ((aimsT n T).map V.int)) → Q (.ref p) H'
end
/-- an entry of the lot l at n places -/
structure EntV (n : Nat) (l : List Nat) (e : List Int) : Prop where
  len : e.length = n
  at_ : ∀ i, i < n → if i ∈ l then e.getD i 0 = -1 else 0 ≤ e.getD i 0 ∧ e.getD i 0 < n
  nd : (e.filter fun x => !decide (x = -1)).Nodup
def spIsEnt : Sp := fun vs H Q _ => ∃ (n : Nat) (la a : Addr) (l : List Nat) (e : List Int), vs = [.int (n : Int), .ref la, .ref a] ∧ n ≤ 6 ∧ H la = some (.tup (lv l)) ∧ H a = some (.tup (e.map V.int)) ∧ EntV n l e ∧ ∀ H', Same H H' → Q (.bl true) H'
def spTabErr : Sp := fun vs H Q _ => ∃ (n : Nat) (v : V) (T : List (List Int)), vs = [.int (n : Int), v] ∧ n ≤ 6 ∧ Dq H v (tabD T) ∧ T.length = 2 ^ n ∧ (∀ (i : Nat) (l : List Nat) (e : List Int), (allL n)[i]? = some l → T[i]? = some e → EntV n l e) ∧ (T.map (goalE n)).Nodup ∧ ∀ H', Same H H' → Q .non H'
/-- an ascending lot stands among all lots -/
theorem asc_all {n : Nat} (hn : n ≤ 6) {l : List Nat} (h : Asc 0 n l) (hasc : ∀ l ∈ allL n, Asc 0 n l) : l ∈ allL n := by
  have h1 : num n l < 2 ^ n := by
    rcases Nat.lt_or_ge (num n l) (2 ^ n) with c | c
    · exact c
    · have e := lotAt_none (by omega) c
      rw [lotAt_num h] at e
      cases e
  have h2 : num n l ∈ (allL n).map (num n) := by
    rw [lots_nums n (by omega)]
    exact List.mem_range.mpr h1
  obtain ⟨l', hl', e⟩ := List.mem_map.mp h2
  have e1 := lotAt_num (hasc l' hl')
  rw [e, lotAt_num h] at e1
  rw [Option.some.inj e1]
  exact hl'
theorem all_asc : ∀ n : Nat, n < 7 → ∀ l ∈ allL n, (l.Pairwise (· < ·) ∧ l.length ≤ 6) ∧ ∀ x ∈ l, x < n := by decide +kernel
theorem all_ascL {n : Nat} (hn : n ≤ 6) : ∀ l ∈ allL n, Asc 0 n l := fun l hl => ⟨(all_asc n (by omega) l hl).1.1, fun x hx => ⟨Nat.zero_le _, by have := (all_asc n (by omega) l hl).2 x hx; omega⟩⟩
def rLenK (K : PySem.W.Frag) : List V → Hp → VK → Prop := fun xs H Q => ∃ (p : Addr) (ys : List V), xs = [V.ref p] ∧ (SqL K H p ys ∨ SqT K H p ys) ∧ Q (V.int (ys.length : Nat)) H
theorem call_lenK {X : Cx} : CallR X (.builtin "len") (rLenK X.K) := call_len_seq
theorem own_filt : ∀ n : Nat, n < 7 → ∀ s : Nat, s < n + 1 → (allL n).filter (fun l => decide (l.length = s)) = lotsL n s := by decide +kernel
theorem lot_filt : ∀ n : Nat, n < 7 → ∀ l ∈ allL n, (List.range n).filter (fun x => decide (x ∈ l)) = l ∧ ((List.range n).filter (fun x => !decide (x ∈ l))).length + l.length = n := by decide +kernel
theorem own_all : ∀ n : Nat, n < 7 → ∀ s : Nat, s < n + 1 → ∀ l ∈ lotsL n s, l ∈ allL n := fun n _ s hs l h => List.mem_flatMap.mpr ⟨s, List.mem_range.mpr hs, h⟩
/-- entries for lots -/
structure Ents (n : Nat) (ls : List (List Nat)) (es : List (List Int)) : Prop where
  len : es.length = ls.length
  at_ : ∀ (t : Nat) (l : List Nat) (e : List Int), ls[t]? = some l → es[t]? = some e → EntV n l e
theorem Ents.nil {n : Nat} : Ents n [] [] := ⟨rfl, fun t l e h _ => by simp at h⟩
theorem Ents.snoc {n : Nat} {ls : List (List Nat)} {es : List (List Int)} {l : List Nat} {e : List Int} (h : Ents n ls es) (g : EntV n l e) : Ents n (ls ++ [l]) (es ++ [e]) := by
  refine ⟨by rw [List.length_append, List.length_append, h.len]; rfl, fun t l' e' h1 h2 => ?_⟩
  rcases Nat.lt_trichotomy t ls.length with c | c | c
  · rw [List.getElem?_append_left c] at h1
    rw [List.getElem?_append_left (by rw [h.len]; exact c)] at h2
    exact h.at_ t l' e' h1 h2
  · subst c
    rw [List.getElem?_append_right (Nat.le_refl _), Nat.sub_self] at h1
    rw [← h.len, List.getElem?_append_right (Nat.le_refl _), Nat.sub_self] at h2
    cases h1
    cases h2
    exact g
  · rw [List.getElem?_eq_none (by rw [List.length_append]; show _ + 1 ≤ t; omega)] at h1
    cases h1
/-- a table -/
structure TabOk (n : Nat) (T : List (List Int)) : Prop where
  ents : Ents n (allL n) T
  goals : (T.map (goalE n)).Perm (allL n)
theorem dqa_perm {α : Type} {H : Hp} {f : α → PyData} {xs ys : List V} (p : ys.Perm xs) : ∀ {L : List α}, DqA H xs (L.map f) → ∃ M : List α, M.Perm L ∧ DqA H ys (M.map f) := by
  induction p with
  | nil =>
    intro L q
    exact ⟨L, .refl _, q⟩
  | cons x p ih =>
    intro L q
    cases L with
    | nil => cases q
    | cons a L =>
      cases q with
      | cons h t =>
        obtain ⟨M, p2, q2⟩ := ih t
        exact ⟨a :: M, p2.cons a, .cons h q2⟩
  | swap x y l =>
    intro L q
    match L, q with
    | a :: b :: L, .cons h1 (.cons h2 t) => exact ⟨b :: a :: L, .swap _ _ _, .cons h2 (.cons h1 t)⟩
  | trans p1 p2 ih1 ih2 =>
    intro L q
    obtain ⟨M, m1, q1⟩ := ih2 q
    obtain ⟨N, m2, q2⟩ := ih1 q1
    exact ⟨N, m2.trans m1, q2⟩
theorem ints_perm {ys : List V} {zs : List Int} (p : ys.Perm (zs.map V.int)) : ∃ ws : List Int, ys = ws.map V.int ∧ ws.Perm zs := by
  obtain ⟨M, p2, q2⟩ := dqa_perm (H := fun _ => none) (f := PyData.int) p (DqA.ints zs)
  exact ⟨M, dqa_int q2, p2⟩
/-- what is left of the riders -/
def cnt (l : List Nat) (n i : Nat) : Nat := ((List.range n).drop i).countP fun t => !decide (t ∈ l)
theorem cnt_step {l : List Nat} {n i : Nat} (h : i < n) : cnt l n i = cnt l n (i + 1) + (if i ∈ l then 0 else 1) := by
  unfold cnt
  rw [List.drop_eq_getElem_cons (by rw [List.length_range]; exact h), List.countP_cons, List.getElem_range]
  by_cases c : i ∈ l <;> simp [c]
theorem cnt_end (l : List Nat) (n : Nat) : cnt l n n = 0 := by
  unfold cnt
  rw [List.drop_of_length_le (by rw [List.length_range]; exact Nat.le_refl _)]
  rfl
/-- the entry that comes of riders at l, free places in a drawn order -/
theorem ent_made {n : Nat} (hn : n ≤ 6) {l g : List Nat} {e zs : List Int} (hl : l ∈ allL n) (hg : g ∈ allL n) (len : e.length = n) (h1 : ∀ t, t < n → t ∈ l → e.getD t 0 = -1) (h2 : ∀ t, t < n → t ∉ l → e.getD t 0 ∈ zs)
    (h3 : e.filter (fun x => !decide (x = -1)) = zs.reverse) (hz : zs.Perm (((List.range n).filter fun y => !decide (y ∈ g)).map fun (y : Nat) => (y : Int))) : EntV n l e ∧ goalE n e = g := by
  have hm : ∀ z, z ∈ zs ↔ ∃ y : Nat, y < n ∧ y ∉ g ∧ (y : Int) = z := fun z => by
    rw [hz.mem_iff, List.mem_map]
    constructor
    · rintro ⟨y, hy, rfl⟩
      rw [List.mem_filter, List.mem_range] at hy
      exact ⟨y, hy.1, by simpa using hy.2, rfl⟩
    · rintro ⟨y, a, b, rfl⟩
      exact ⟨y, List.mem_filter.mpr ⟨List.mem_range.mpr a, by simpa using b⟩, rfl⟩
  refine ⟨⟨len, fun t ht => ?_, ?_⟩, ?_⟩
  · split
    · rename_i c
      exact h1 t ht c
    · rename_i c
      obtain ⟨y, a, _, e1⟩ := (hm _).mp (h2 t ht c)
      omega
  · rw [h3]
    have nd : (((List.range n).filter fun y => !decide (y ∈ g)).map fun (y : Nat) => (y : Int)).Nodup := List.Pairwise.map _ (fun a b (h : a ≠ b) z => h (by omega)) (List.Pairwise.filter _ List.nodup_range)
    exact List.pairwise_reverse.mpr ((hz.symm.nodup nd).imp fun h => h.symm)
  · rw [← (lot_filt n (by omega) g hg).1]
    unfold goalE
    refine List.filter_congr fun x hx => ?_
    have hx := List.mem_range.mp hx
    have e1 : (x : Int) ∈ e ↔ (x : Int) ∈ zs := by
      rw [← List.mem_reverse (as := zs), ← h3, List.mem_filter]
      constructor
      · exact fun h => ⟨h, by
          have : ¬ (x : Int) = -1 := by omega
          simp [this]⟩
      · exact fun h => h.1
    have e2 : (x : Int) ∈ zs ↔ x ∉ g := by
      rw [hm]
      constructor
      · rintro ⟨y, _, b, c⟩
        have : y = x := by omega
        exact this ▸ b
      · exact fun h => ⟨x, hx, h, rfl⟩
    rw [← decide_not, decide_eq_decide, e1, e2, Classical.not_not]
end Kr
namespace Kr
open PySem PySem.Spec PyProof.Rows L2
/-! ### entries as maps -/
/-- an entry of the lot l: places of keys have none, riders go to unlike places -/
structure EntF (n : Nat) (l : List Nat) (e : List Int) : Prop where
  len : e.length = n
  key : ∀ x, x < n → x ∈ l → e.getD x 0 = -1
  rid : ∀ x, x < n → x ∉ l → 0 ≤ e.getD x 0 ∧ e.getD x 0 < n
  inj : ∀ x y, x < n → y < n → x ∉ l → y ∉ l → e.getD x 0 = e.getD y 0 → x = y
theorem EntF.v {n : Nat} {l : List Nat} {e : List Int} (h : EntF n l e) : EntV n l e := by
  refine ⟨h.len, fun i hi => ?_, ?_⟩
  · split
    · rename_i c; exact h.key i hi c
    · rename_i c; exact h.rid i hi c
  · show (e.filter fun x => !decide (x = -1)).Pairwise (· ≠ ·)
    rw [List.pairwise_filter, List.pairwise_iff_getElem]
    intro i j hi hj hij p1 p2 z
    have g : ∀ i, (h : i < e.length) → e[i] = e.getD i 0 := fun i h => by rw [List.getD_eq_getElem?_getD, List.getElem?_eq_getElem h]; rfl
    rw [g i hi] at p1 z
    rw [g j hj] at p2 z
    rw [h.len] at hi hj
    have k1 : i ∉ l := fun c => by rw [h.key i hi c] at p1; exact absurd p1 (by decide)
    have k2 : j ∉ l := fun c => by rw [h.key j hj c] at p2; exact absurd p2 (by decide)
    have := h.inj i j hi hj k1 k2 z
    omega
theorem EntV.f {n : Nat} {l : List Nat} {e : List Int} (h : EntV n l e) : EntF n l e := by
  refine ⟨h.len, fun x hx c => ?_, fun x hx c => ?_, fun x y hx hy cx cy z => ?_⟩
  · have := h.at_ x hx; rwa [if_pos c] at this
  · have := h.at_ x hx; rwa [if_neg c] at this
  · have nd : (e.filter fun x => !decide (x = -1)).Pairwise (· ≠ ·) := h.nd
    rw [List.pairwise_filter, List.pairwise_iff_getElem] at nd
    have g : ∀ i, (h : i < e.length) → e[i] = e.getD i 0 := fun i h => by rw [List.getD_eq_getElem?_getD, List.getElem?_eq_getElem h]; rfl
    have pz : ∀ x, x < n → x ∉ l → (!decide (e.getD x 0 = -1)) = true := fun x hx c => by
      have := h.at_ x hx
      rw [if_neg c] at this
      simp only [Bool.not_eq_true', decide_eq_false_iff_not]
      omega
    have hl := h.len
    rcases Nat.lt_trichotomy x y with c | c | c
    · have := nd x y (by omega) (by omega) c
      rw [g x (by omega), g y (by omega)] at this
      exact absurd z (this (pz x hx cx) (pz y hy cy))
    · exact c
    · have := nd y x (by omega) (by omega) c
      rw [g x (by omega), g y (by omega)] at this
      exact absurd z.symm (this (pz y hy cy) (pz x hx cx))
theorem mem_e {e : List Int} {n : Nat} (h : e.length = n) {z : Int} : z ∈ e ↔ ∃ x, x < n ∧ e.getD x 0 = z := by
  subst h
  constructor
  · intro hz
    obtain ⟨x, hx, ez⟩ := List.getElem_of_mem hz
    exact ⟨x, hx, by rw [List.getD_eq_getElem?_getD, List.getElem?_eq_getElem hx]; exact ez⟩
  · rintro ⟨x, hx, ez⟩
    rw [List.getD_eq_getElem?_getD, List.getElem?_eq_getElem hx] at ez
    exact ez ▸ List.getElem_mem hx
theorem mem_goal {n : Nat} {e : List Int} {y : Nat} : y ∈ goalE n e ↔ y < n ∧ (y : Int) ∉ e := by
  unfold goalE
  rw [List.mem_filter, List.mem_range]
  simp
theorem goal_asc (n : Nat) (e : List Int) : Asc 0 n (goalE n e) := by
  refine ⟨List.Pairwise.filter _ List.pairwise_lt_range, fun x hx => ?_⟩
  have := (mem_goal.mp hx).1
  omega
theorem goal_all {n : Nat} (hn : n ≤ 6) (e : List Int) : goalE n e ∈ allL n := asc_all hn (goal_asc n e) (all_ascL hn)
/-- ascending lots with the same places are one -/
theorem asc_ext {n : Nat} {a b : List Nat} (ha : Asc 0 n a) (hb : Asc 0 n b) (h : ∀ x, x ∈ a ↔ x ∈ b) : a = b := by
  have p : a.Perm b := (List.perm_ext_iff_of_nodup (ha.1.imp fun h => Nat.ne_of_lt h) (hb.1.imp fun h => Nat.ne_of_lt h)).mpr h
  exact p.eq_of_pairwise (fun x y _ _ h1 h2 => absurd h2 (Nat.not_lt_of_lt h1)) ha.1 hb.1
theorem EntF.off {n : Nat} {l : List Nat} {e : List Int} (h : EntF n l e) {x : Nat} (hx : x < n) (c : x ∉ l) : (e.getD x 0).toNat < n ∧ (e.getD x 0).toNat ∉ goalE n e := by
  obtain ⟨h1, h2⟩ := h.rid x hx c
  refine ⟨by omega, fun z => (mem_goal.mp z).2 ((mem_e h.len).mpr ⟨x, hx, by omega⟩)⟩
theorem EntF.from {n : Nat} {l : List Nat} {e : List Int} (h : EntF n l e) {y : Nat} (hy : y < n) (c : y ∉ goalE n e) : ∃ x, x < n ∧ x ∉ l ∧ e.getD x 0 = y := by
  have : (y : Int) ∈ e := Classical.byContradiction fun z => c (mem_goal.mpr ⟨hy, z⟩)
  obtain ⟨x, hx, ex⟩ := (mem_e h.len).mp this
  refine ⟨x, hx, fun k => ?_, ex⟩
  have := h.key x hx k
  omega
theorem EntF.neg {n : Nat} {l : List Nat} {e : List Int} (h : EntF n l e) {x : Nat} (hx : x < n) : e.getD x 0 = -1 ↔ x ∈ l := by
  constructor
  · intro z
    refine Classical.byContradiction fun c => ?_
    have := (h.rid x hx c).1
    omega
  · exact h.key x hx
/-- one entry behind another -/
def cmpE (e u : List Int) : List Int := e.map fun x => if x = -1 then -1 else u.getD x.toNat 0
theorem map_getD_lt {α β : Type} {f : α → β} {L : List α} {i : Nat} {d : α} {d' : β} (h : i < L.length) : (L.map f).getD i d' = f (L.getD i d) := by
  rw [List.getD_eq_getElem?_getD, List.getElem?_map, List.getElem?_eq_getElem h, List.getD_eq_getElem?_getD, List.getElem?_eq_getElem h]
  rfl
theorem cmp_at {e u : List Int} {x : Nat} (h : x < e.length) : (cmpE e u).getD x 0 = if e.getD x 0 = -1 then -1 else u.getD (e.getD x 0).toNat 0 := map_getD_lt h
theorem EntF.cmp {n : Nat} {l : List Nat} {e u : List Int} (h : EntF n l e) (g : EntF n (goalE n e) u) : EntF n l (cmpE e u) ∧ goalE n (cmpE e u) = goalE n u := by
  have hl : (cmpE e u).length = n := by unfold cmpE; rw [List.length_map]; exact h.len
  have at_ : ∀ x, x < n → x ∉ l → (cmpE e u).getD x 0 = u.getD (e.getD x 0).toNat 0 := fun x hx c => by
    rw [cmp_at (by rw [h.len]; exact hx), if_neg (fun z => c ((h.neg hx).mp z))]
  have hf : EntF n l (cmpE e u) := by
    refine ⟨hl, fun x hx c => ?_, fun x hx c => ?_, fun x y hx hy cx cy z => ?_⟩
    · rw [cmp_at (by rw [h.len]; exact hx), if_pos ((h.neg hx).mpr c)]
    · rw [at_ x hx c]
      obtain ⟨p1, p2⟩ := h.off hx c
      exact g.rid _ p1 p2
    · rw [at_ x hx cx, at_ y hy cy] at z
      obtain ⟨p1, p2⟩ := h.off hx cx
      obtain ⟨p3, p4⟩ := h.off hy cy
      have e1 := g.inj _ _ p1 p3 p2 p4 z
      have r1 := h.rid x hx cx
      have r2 := h.rid y hy cy
      exact h.inj x y hx hy cx cy (by omega)
  refine ⟨hf, asc_ext (goal_asc _ _) (goal_asc _ _) fun y => ?_⟩
  rw [mem_goal, mem_goal, mem_e hl, mem_e g.len]
  refine and_congr_right fun hy => not_congr ⟨?_, ?_⟩
  · rintro ⟨x, hx, ex⟩
    by_cases c : x ∈ l
    · rw [hf.key x hx c] at ex
      omega
    · rw [at_ x hx c] at ex
      exact ⟨_, (h.off hx c).1, ex⟩
  · rintro ⟨x, hx, ex⟩
    have c : x ∉ goalE n e := fun c => by
      rw [g.key x hx c] at ex
      omega
    obtain ⟨x', hx', c', ex'⟩ := h.from hx c
    refine ⟨x', hx', ?_⟩
    rw [at_ x' hx' c', ex', Int.toNat_natCast]
    exact ex
theorem list_ext {n : Nat} {a b : List Int} (ha : a.length = n) (hb : b.length = n) (h : ∀ x, x < n → a.getD x 0 = b.getD x 0) : a = b := by
  refine List.ext_getElem (by omega) fun i h1 h2 => ?_
  have := h i (by omega)
  rw [List.getD_eq_getElem?_getD, List.getD_eq_getElem?_getD, List.getElem?_eq_getElem h1, List.getElem?_eq_getElem h2] at this
  exact this
theorem cmp_assoc {n : Nat} {l : List Nat} {e u w : List Int} (h : EntF n l e) (g : EntF n (goalE n e) u) : cmpE (cmpE e u) w = cmpE e (cmpE u w) := by
  have hl : (cmpE e u).length = n := (h.cmp g).1.len
  refine list_ext (n := n) (by unfold cmpE; rw [List.length_map, List.length_map, h.len]) (by unfold cmpE; rw [List.length_map, h.len]) fun x hx => ?_
  rw [cmp_at (by omega), cmp_at (by rw [h.len]; exact hx), cmp_at (by rw [h.len]; exact hx)]
  by_cases c : x ∈ l
  · rw [(h.neg hx).mpr c]
    rfl
  · have ne : ¬ e.getD x 0 = -1 := fun z => c ((h.neg hx).mp z)
    obtain ⟨p1, p2⟩ := h.off hx c
    rw [if_neg ne, if_neg ne, cmp_at (by rw [g.len]; exact p1)]
/-! ### tables as maps -/
def en (n : Nat) (T : List (List Int)) (l : List Nat) : List Int := T.getD (num n l) []
theorem bothE_cmp (n : Nat) (U : List (List Int)) (e : List Int) : bothE n U e = cmpE e (en n U (goalE n e)) := rfl
theorem all_at {n : Nat} (hn : n ≤ 6) {l : List Nat} (h : l ∈ allL n) : (allL n)[num n l]? = some l := by
  obtain ⟨i, hi, e⟩ := List.getElem_of_mem h
  have e1 : (allL n)[i]? = some l := by rw [List.getElem?_eq_getElem hi, e]
  rw [(all_num_at hn e1).1]
  exact e1
theorem en_map {n : Nat} (hn : n ≤ 6) {f : List Nat → List Int} {l : List Nat} (h : l ∈ allL n) : en n ((allL n).map f) l = f l := by
  unfold en
  rw [List.getD_eq_getElem?_getD, List.getElem?_map, all_at hn h]
  rfl
theorem TabOk.len {n : Nat} (hn : n ≤ 6) {T : List (List Int)} (h : TabOk n T) : T.length = 2 ^ n := h.ents.len.trans (all_len n (by omega))
theorem TabOk.get {n : Nat} (hn : n ≤ 6) {T : List (List Int)} (h : TabOk n T) {l : List Nat} (hl : l ∈ allL n) : T[num n l]? = some (en n T l) := by
  have h1 : num n l < T.length := by rw [h.len hn]; exact all_num hn hl
  unfold en
  rw [List.getD_eq_getElem?_getD, List.getElem?_eq_getElem h1]
  rfl
theorem TabOk.ent {n : Nat} (hn : n ≤ 6) {T : List (List Int)} (h : TabOk n T) {l : List Nat} (hl : l ∈ allL n) : EntF n l (en n T l) := (h.ents.at_ _ _ _ (all_at hn hl) (h.get hn hl)).f
theorem TabOk.map {n : Nat} (hn : n ≤ 6) {T : List (List Int)} (h : TabOk n T) : T = (allL n).map (en n T) := by
  refine List.ext_getElem? fun i => ?_
  rw [List.getElem?_map]
  cases e : (allL n)[i]? with
  | none =>
    show T[i]? = none
    rw [List.getElem?_eq_none_iff] at e ⊢
    rw [h.ents.len]
    exact e
  | some l =>
    rw [← (all_num_at hn e).1]
    exact h.get hn (List.mem_of_getElem? e)
theorem TabOk.of_map {n : Nat} (hn : n ≤ 6) {f : List Nat → List Int} (h : ∀ l ∈ allL n, EntF n l (f l)) (g : ((allL n).map fun l => goalE n (f l)).Perm (allL n)) : TabOk n ((allL n).map f) := by
  refine ⟨⟨List.length_map _, fun t l e h1 h2 => ?_⟩, by rw [List.map_map]; exact g⟩
  rw [List.getElem?_map, h1] at h2
  cases Option.some.inj h2
  exact (h l (List.mem_of_getElem? h1)).v
theorem TabOk.goalp {n : Nat} (hn : n ≤ 6) {T : List (List Int)} (h : TabOk n T) : ((allL n).map fun l => goalE n (en n T l)).Perm (allL n) := by
  have := h.goals
  rw [h.map hn, List.map_map] at this
  exact this
theorem both_map {n : Nat} (hn : n ≤ 6) {T U : List (List Int)} (h : TabOk n T) : bothT n T U = (allL n).map fun l => cmpE (en n T l) (en n U (goalE n (en n T l))) := by
  unfold bothT
  conv => lhs; rw [h.map hn]
  rw [List.map_map]
  rfl
theorem en_both {n : Nat} (hn : n ≤ 6) {T U : List (List Int)} (h : TabOk n T) {l : List Nat} (hl : l ∈ allL n) : en n (bothT n T U) l = cmpE (en n T l) (en n U (goalE n (en n T l))) := by
  rw [both_map hn h, en_map hn hl]
theorem TabOk.both {n : Nat} (hn : n ≤ 6) {T U : List (List Int)} (h : TabOk n T) (g : TabOk n U) : TabOk n (bothT n T U) := by
  rw [both_map hn h]
  refine TabOk.of_map hn (fun l hl => ((h.ent hn hl).cmp (g.ent hn (goal_all hn _))).1) ?_
  have e : ((allL n).map fun l => goalE n (cmpE (en n T l) (en n U (goalE n (en n T l))))) = ((allL n).map fun l => goalE n (en n T l)).map fun g => goalE n (en n U g) := by
    rw [List.map_map]
    exact List.map_congr_left fun l hl => ((h.ent hn hl).cmp (g.ent hn (goal_all hn _))).2
  rw [e]
  exact ((h.goalp hn).map _).trans (g.goalp hn)
theorem both_assoc {n : Nat} (hn : n ≤ 6) {T U W : List (List Int)} (h : TabOk n T) (g : TabOk n U) (k : TabOk n W) : bothT n (bothT n T U) W = bothT n T (bothT n U W) := by
  rw [both_map hn (h.both hn g), both_map (U := bothT n U W) hn h]
  refine List.map_congr_left fun l hl => ?_
  have hg := goal_all hn (en n T l)
  rw [en_both hn h hl, en_both hn g hg, ((h.ent hn hl).cmp (g.ent hn hg)).2]
  exact cmp_assoc (h.ent hn hl) (g.ent hn hg)
end Kr
namespace Kr
open PySem PySem.Spec PyProof.Rows L2
theorem ups_len (n : Nat) : (ups n).length = n := by unfold ups; rw [List.length_map, List.length_range]
theorem ups_at {n x : Nat} (h : x < n) : (ups n).getD x 0 = (x : Int) := by
  unfold ups
  rw [List.getD_eq_getElem?_getD, List.getElem?_map, List.getElem?_range h]
  rfl
theorem byE_len (l : List Nat) (w : List Int) : (byE l w).length = w.length := by unfold byE; rw [List.length_map, List.length_range]
theorem byE_at {l : List Nat} {w : List Int} {x : Nat} (h : x < w.length) : (byE l w).getD x 0 = if x ∈ l then -1 else w.getD x 0 := by
  unfold byE
  rw [List.getD_eq_getElem?_getD, List.getElem?_map, List.getElem?_range h]
  rfl
/-! ### ways that are their own contrary -/
structure Way (n : Nat) (w : List Int) (f : Nat → Nat) : Prop where
  len : w.length = n
  at_ : ∀ x, x < n → w.getD x 0 = (f x : Int)
  lt : ∀ x, x < n → f x < n
  inv : ∀ x, x < n → f (f x) = x
theorem way_ups (n : Nat) : Way n (ups n) id := ⟨ups_len n, fun x h => ups_at h, fun _ h => h, fun _ _ => rfl⟩
def sw (a b x : Nat) : Nat := if x = b then a else if x = a then b else x
theorem way_swap {n a b : Nat} (ha : a < n) (hb : b < n) (hab : a ≠ b) : Way n (swapW n a b) (sw a b) := by
  refine ⟨by unfold swapW; rw [List.length_set, List.length_set, ups_len], fun x h => ?_, fun x h => ?_, fun x h => ?_⟩
  · unfold swapW sw
    rw [List.getD_eq_getElem?_getD, List.getElem?_set, List.length_set, ups_len, List.getElem?_set, ups_len]
    by_cases c1 : x = b
    · subst c1
      rw [if_pos rfl, if_pos h, if_pos rfl]
      rfl
    · rw [if_neg (fun z => c1 z.symm), if_neg c1]
      by_cases c2 : x = a
      · subst c2
        rw [if_pos rfl, if_pos h, if_pos rfl]
        rfl
      · rw [if_neg (fun z => c2 z.symm), if_neg c2, ← List.getD_eq_getElem?_getD, ups_at h]
  · unfold sw
    split
    · exact ha
    · split
      · exact hb
      · exact h
  · unfold sw
    by_cases c1 : x = b
    · rw [if_pos c1, if_neg hab, if_pos rfl, c1]
    · rw [if_neg c1]
      by_cases c2 : x = a
      · rw [if_pos c2, if_pos rfl, c2]
      · rw [if_neg c2, if_neg c1, if_neg c2]
theorem Way.ent {n : Nat} {w : List Int} {f : Nat → Nat} (W : Way n w f) (l : List Nat) : EntF n l (byE l w) := by
  have at_ : ∀ x, x < n → x ∉ l → (byE l w).getD x 0 = (f x : Int) := fun x h c => by rw [byE_at (by rw [W.len]; exact h), if_neg c, W.at_ x h]
  refine ⟨(byE_len l w).trans W.len, fun x h c => by rw [byE_at (by rw [W.len]; exact h), if_pos c], fun x h c => ?_, fun x y hx hy cx cy z => ?_⟩
  · rw [at_ x h c]
    have := W.lt x h
    omega
  · rw [at_ x hx cx, at_ y hy cy] at z
    have e : f x = f y := by omega
    rw [← W.inv x hx, e, W.inv y hy]
theorem Way.goal {n : Nat} {w : List Int} {f : Nat → Nat} (W : Way n w f) (l : List Nat) {y : Nat} : y ∈ goalE n (byE l w) ↔ y < n ∧ f y ∈ l := by
  rw [mem_goal, mem_e ((byE_len l w).trans W.len)]
  refine and_congr_right fun hy => ?_
  constructor
  · intro h
    refine Classical.byContradiction fun c => h ⟨f y, W.lt y hy, ?_⟩
    rw [byE_at (by rw [W.len]; exact W.lt y hy), if_neg c, W.at_ _ (W.lt y hy), W.inv y hy]
  · rintro h ⟨x, hx, ex⟩
    rw [byE_at (by rw [W.len]; exact hx)] at ex
    split at ex
    · omega
    · rename_i c
      rw [W.at_ x hx] at ex
      have : f x = y := by omega
      rw [← this, W.inv x hx] at h
      exact c h
theorem goal_ups {n : Nat} {l : List Nat} (h : Asc 0 n l) : goalE n (byE l (ups n)) = l := by
  refine asc_ext (goal_asc _ _) h fun y => ?_
  rw [(way_ups n).goal]
  exact ⟨fun z => z.2, fun z => ⟨by have := (h.2 y z).2; omega, z⟩⟩
theorem cmp_ups {n : Nat} {l : List Nat} {e : List Int} (h : EntF n l e) : cmpE e (byE (goalE n e) (ups n)) = e := by
  refine list_ext (n := n) (by unfold cmpE; rw [List.length_map, h.len]) h.len fun x hx => ?_
  rw [cmp_at (by rw [h.len]; exact hx)]
  by_cases c : x ∈ l
  · rw [(h.neg hx).mpr c]
    rfl
  · obtain ⟨p1, p2⟩ := h.off hx c
    have r := h.rid x hx c
    rw [if_neg (by omega), byE_at (by rw [ups_len]; exact p1), if_neg p2, ups_at p1]
    omega
theorem ups_cmp {n : Nat} {l : List Nat} {e : List Int} (hl : EntF n l e) : cmpE (byE l (ups n)) e = e := by
  refine list_ext (n := n) (by unfold cmpE; rw [List.length_map, byE_len, ups_len]) hl.len fun x hx => ?_
  rw [cmp_at (by rw [byE_len, ups_len]; exact hx), byE_at (by rw [ups_len]; exact hx)]
  by_cases c : x ∈ l
  · rw [if_pos c, if_pos rfl, hl.key x hx c]
  · rw [if_neg c, ups_at hx, if_neg (by omega), Int.toNat_natCast]
/-! ### the calm table -/
theorem still_ok {n : Nat} (hn : n ≤ 6) : TabOk n (stillT n) := by
  refine TabOk.of_map hn (fun l _ => (way_ups n).ent l) ?_
  refine List.Perm.of_eq ?_
  refine (List.map_congr_left fun l hl => ?_).trans (List.map_id _)
  exact goal_ups (all_ascL hn l hl)
theorem en_still {n : Nat} (hn : n ≤ 6) {l : List Nat} (h : l ∈ allL n) : en n (stillT n) l = byE l (ups n) := en_map hn h
theorem both_still {n : Nat} (hn : n ≤ 6) {T : List (List Int)} (h : TabOk n T) : bothT n T (stillT n) = T := by
  rw [both_map hn h]
  conv => rhs; rw [h.map hn]
  refine List.map_congr_left fun l hl => ?_
  rw [en_still hn (goal_all hn _)]
  exact cmp_ups (h.ent hn hl)
theorem still_both {n : Nat} (hn : n ≤ 6) {T : List (List Int)} (h : TabOk n T) : bothT n (stillT n) T = T := by
  rw [both_map hn (still_ok hn)]
  conv => rhs; rw [h.map hn]
  refine List.map_congr_left fun l hl => ?_
  rw [en_still hn hl, goal_ups (all_ascL hn l hl)]
  exact ups_cmp (h.ent hn hl)
/-! ### tables of deeds -/
def isAll (q l : List Nat) : Bool := q.all fun x => decide (x ∈ l)
def dE (n : Nat) (m : Mv) (l : List Nat) : List Int := byE l (if isAll m.1 l = true then swapW n m.2.1 m.2.2 else ups n)
theorem deed_map (n : Nat) (m : Mv) : deedT n m.1 m.2.1 m.2.2 = (allL n).map (dE n m) := rfl
def dF (m : Mv) (l : List Nat) (x : Nat) : Nat := if isAll m.1 l = true then sw m.2.1 m.2.2 x else x
theorem isAll_iff {q l : List Nat} : isAll q l = true ↔ ∀ x ∈ q, x ∈ l := by
  unfold isAll
  rw [List.all_eq_true]
  simp
section
variable {n : Nat} {m : Mv}
theorem Deed.way (d : Deed n m) (l : List Nat) : Way n (if isAll m.1 l = true then swapW n m.2.1 m.2.2 else ups n) (dF m l) := by
  have h1 := d.ab
  have h2 := d.bn
  unfold dF
  by_cases c : isAll m.1 l = true
  · simp only [c, if_true]
    exact way_swap (by omega) h2 (by omega)
  · simp only [c, if_false]
    exact way_ups n
theorem Deed.ent (d : Deed n m) (l : List Nat) : EntF n l (dE n m l) := (d.way l).ent l
theorem Deed.same (d : Deed n m) {l : List Nat} (hl : Asc 0 n l) : isAll m.1 (goalE n (dE n m l)) = isAll m.1 l := by
  have sub : ∀ x ∈ m.1, dF m l x = x := fun x hx => by
    unfold dF sw
    split
    · rw [if_neg (show ¬ x = m.2.2 from fun z => d.nb (z ▸ hx)), if_neg (show ¬ x = m.2.1 from fun z => d.na (z ▸ hx))]
    · rfl
  rw [Bool.eq_iff_iff, isAll_iff, isAll_iff]
  refine forall_congr' fun x => forall_congr' fun hx => ?_
  show x ∈ goalE n (byE l _) ↔ _
  rw [(d.way l).goal, sub x hx]
  have := d.asc.2 x hx
  exact ⟨fun z => z.2, fun z => ⟨by omega, z⟩⟩
theorem Deed.back (d : Deed n m) {l : List Nat} (hl : Asc 0 n l) : goalE n (dE n m (goalE n (dE n m l))) = l ∧ cmpE (dE n m l) (dE n m (goalE n (dE n m l))) = byE l (ups n) := by
  have es := d.same hl
  have ef : dF m (goalE n (dE n m l)) = dF m l := by funext x; unfold dF; rw [es]
  have W := d.way l
  have W2 := d.way (goalE n (dE n m l))
  rw [ef] at W2
  refine ⟨asc_ext (goal_asc _ _) hl fun y => ?_, ?_⟩
  · show y ∈ goalE n (byE _ _) ↔ _
    rw [W2.goal]
    show y < n ∧ dF m l y ∈ goalE n (byE _ _) ↔ _
    rw [W.goal]
    constructor
    · rintro ⟨h1, h2, h3⟩
      rwa [W.inv y h1] at h3
    · intro h
      have h1 : y < n := by have := (hl.2 y h).2; omega
      exact ⟨h1, W.lt y h1, by rw [W.inv y h1]; exact h⟩
  · refine list_ext (n := n) (by unfold cmpE; rw [List.length_map]; exact (d.ent l).len) (by rw [byE_len, ups_len]) fun x hx => ?_
    rw [cmp_at (by rw [(d.ent l).len]; exact hx), byE_at (by rw [ups_len]; exact hx)]
    by_cases c : x ∈ l
    · rw [if_pos c, (d.ent l).key x hx c]
      rfl
    · have e1 : (dE n m l).getD x 0 = (dF m l x : Int) := by
        unfold dE
        rw [byE_at (by rw [W.len]; exact hx), if_neg c, W.at_ x hx]
      obtain ⟨p1, p2⟩ := (d.ent l).off hx c
      rw [e1, Int.toNat_natCast] at p1 p2
      rw [e1, if_neg (by omega), if_neg c, ups_at hx, Int.toNat_natCast]
      show (byE _ _).getD _ 0 = _
      rw [byE_at (by rw [W2.len]; exact p1), if_neg p2, W2.at_ _ p1, W.inv x hx]
theorem perm_inv {α : Type} [DecidableEq α] {L : List α} {g : α → α} (nd : L.Nodup) (cl : ∀ x ∈ L, g x ∈ L) (iv : ∀ x ∈ L, g (g x) = x) : (L.map g).Perm L := by
  have nd2 : (L.map g).Nodup := by
    show (L.map g).Pairwise (· ≠ ·)
    rw [List.pairwise_map]
    refine List.Pairwise.imp_of_mem (fun {a b} ha hb h z => h ?_) nd
    rw [← iv a ha, ← iv b hb, z]
  refine (List.perm_ext_iff_of_nodup nd2 nd).mpr fun a => ⟨fun h => ?_, fun h => ?_⟩
  · obtain ⟨x, hx, rfl⟩ := List.mem_map.mp h
    exact cl x hx
  · exact List.mem_map.mpr ⟨g a, cl a h, iv a h⟩
theorem all_nodup {n : Nat} (hn : n ≤ 6) : (allL n).Nodup := by
  have h : ((allL n).map (num n)).Pairwise (· ≠ ·) := by rw [lots_nums n (by omega)]; exact List.nodup_range
  rw [List.pairwise_map] at h
  exact h.imp fun h z => h (by rw [z])
theorem Deed.ok (d : Deed n m) (hn : n ≤ 6) : TabOk n (deedT n m.1 m.2.1 m.2.2) := by
  rw [deed_map]
  exact TabOk.of_map hn (fun l _ => d.ent l) (perm_inv (g := fun l => goalE n (dE n m l)) (all_nodup hn) (fun l _ => goal_all hn _) fun l hl => (d.back (all_ascL hn l hl)).1)
theorem Deed.twice (d : Deed n m) (hn : n ≤ 6) : bothT n (deedT n m.1 m.2.1 m.2.2) (deedT n m.1 m.2.1 m.2.2) = stillT n := by
  rw [both_map hn (d.ok hn)]
  refine List.map_congr_left fun l hl => ?_
  rw [deed_map, en_map hn hl, en_map hn (goal_all hn _)]
  exact (d.back (all_ascL hn l hl)).2
end
theorem TabOk.gl_inj' {n : Nat} {T : List (List Int)} (hn : n ≤ 6) (h : TabOk n T) {a b : List Nat} (ha : a ∈ allL n) (hb : b ∈ allL n) (e : goalE n (en n T a) = goalE n (en n T b)) : a = b := by
  have nd : ((allL n).map fun l => goalE n (en n T l)).Pairwise (· ≠ ·) := (h.goalp hn).symm.nodup (all_nodup hn)
  rw [List.pairwise_map, List.pairwise_iff_getElem] at nd
  obtain ⟨i, hi, rfl⟩ := List.getElem_of_mem ha
  obtain ⟨j, hj, rfl⟩ := List.getElem_of_mem hb
  rcases Nat.lt_trichotomy i j with c | c | c
  · exact absurd e (nd i j hi hj c)
  · subst c; rfl
  · exact absurd e.symm (nd j i hj hi c)
end Kr
namespace Kr
open PySem PySem.Spec PyProof.Rows L2
/-! ### the law's tables by deeds, deed by deed -/
theorem setGo_keep {x : Nat} : ∀ (k : Nat) (r acc : List Int), (∀ j, j < r.length → r.getD j 0 ≠ (x : Int)) → (setGo k r acc).getD x 0 = acc.getD x 0
  | _, [], _, _ => rfl
  | k, z :: r, acc, h => by
    unfold setGo
    rw [setGo_keep (k + 1) r _ fun j hj => by
      have := h (j + 1) (by rw [List.length_cons]; omega)
      simpa using this]
    have h0 := h 0 (by rw [List.length_cons]; omega)
    have h0 : z ≠ (x : Int) := by simpa using h0
    split
    · rename_i c
      rw [List.getD_eq_getElem?_getD, List.getElem?_set_ne (by omega), ← List.getD_eq_getElem?_getD]
    · rfl
theorem setGo_put {x : Nat} : ∀ (k : Nat) (r acc : List Int) (j : Nat), j < r.length → r.getD j 0 = (x : Int) → (∀ i, i < r.length → r.getD i 0 = (x : Int) → i = j) → x < acc.length → (setGo k r acc).getD x 0 = ((k + j : Nat) : Int)
  | _, [], _, j, h, _, _, _ => by simp at h
  | k, z :: r, acc, 0, h, e, u, hx => by
    unfold setGo
    have e : z = (x : Int) := by simpa using e
    rw [setGo_keep (k + 1) r _ fun i hi ei => by
      have := u (i + 1) (by rw [List.length_cons]; omega) (by simpa using ei)
      omega]
    rw [if_pos (by omega), e, Int.toNat_natCast, List.getD_eq_getElem?_getD, List.getElem?_set_self hx]
    rfl
  | k, z :: r, acc, j + 1, h, e, u, hx => by
    unfold setGo
    rw [setGo_put (k + 1) r _ j (by rw [List.length_cons] at h; omega) (by simpa using e) (fun i hi ei => by
      have := u (i + 1) (by rw [List.length_cons]; omega) (by simpa using ei)
      omega) (by split <;> first | (rw [List.length_set]; exact hx) | exact hx)]
    congr 1
    omega
/-- riders at their places: what lies at each place -/
structure Lies (n : Nat) (l : List Nat) (ls : List Int) : Prop where
  len : ls.length = n
  at_ : ∀ y, y < n → ls.getD y 0 = -1 ∨ ∃ x : Nat, x < n ∧ x ∉ l ∧ ls.getD y 0 = x
  has : ∀ x, x < n → x ∉ l → ∃ y, y < n ∧ ls.getD y 0 = (x : Int)
  one : ∀ y z, y < n → z < n → 0 ≤ ls.getD y 0 → ls.getD y 0 = ls.getD z 0 → y = z
section
variable {n : Nat} {l : List Nat} {ls : List Int}
theorem Lies.put (h : Lies n l ls) {x y : Nat} (hx : x < n) (hy : y < n) (e : ls.getD y 0 = (x : Int)) : (lawE n ls).getD x 0 = (y : Int) := by
  unfold lawE
  rw [setGo_put 0 ls _ y (by rw [h.len]; exact hy) e (fun i hi ei => h.one i y (by rw [← h.len]; exact hi) hy (by omega) (ei.trans e.symm)) (by rw [List.length_replicate]; exact hx), Nat.zero_add]
theorem Lies.keep (h : Lies n l ls) {x : Nat} (hx : x < n) (c : x ∈ l) : (lawE n ls).getD x 0 = -1 := by
  unfold lawE
  rw [setGo_keep 0 ls _ fun j hj ej => ?_]
  · rw [List.getD_eq_getElem?_getD, List.getElem?_replicate, if_pos hx]
    rfl
  · rcases h.at_ j (by rw [← h.len]; exact hj) with z | ⟨x', _, c', z⟩
    · rw [z] at ej; omega
    · rw [z] at ej
      have : x' = x := by omega
      exact c' (this ▸ c)
theorem lawE_len (n : Nat) (ls : List Int) : (lawE n ls).length = n := by unfold lawE; rw [setGo_len, List.length_replicate]
theorem Lies.ent (h : Lies n l ls) : EntF n l (lawE n ls) := by
  refine ⟨lawE_len n ls, fun x hx c => h.keep hx c, fun x hx c => ?_, fun x y hx hy cx cy z => ?_⟩
  · obtain ⟨y, hy, e⟩ := h.has x hx c
    rw [h.put hx hy e]
    omega
  · obtain ⟨u, hu, eu⟩ := h.has x hx cx
    obtain ⟨v, hv, ev⟩ := h.has y hy cy
    rw [h.put hx hu eu, h.put hy hv ev] at z
    have : u = v := by omega
    subst this
    rw [eu] at ev
    omega
theorem Lies.goal (h : Lies n l ls) {y : Nat} (hy : y < n) : y ∈ goalE n (lawE n ls) ↔ ¬ 0 ≤ ls.getD y 0 := by
  rw [mem_goal, mem_e (lawE_len n ls)]
  constructor
  · rintro ⟨_, h2⟩ c
    rcases h.at_ y hy with z | ⟨x, hx, _, z⟩
    · omega
    · exact h2 ⟨x, hx, h.put hx hy z⟩
  · refine fun c => ⟨hy, ?_⟩
    rintro ⟨x, hx, e⟩
    by_cases k : x ∈ l
    · rw [h.keep hx k] at e
      omega
    · obtain ⟨u, hu, eu⟩ := h.has x hx k
      rw [h.put hx hu eu] at e
      have : u = y := by omega
      subst this
      omega
theorem lies_start (n : Nat) (l : List Nat) : Lies n l (stL n l) := by
  have at_ : ∀ x, x < n → (stL n l).getD x 0 = if x ∈ l then -1 else (x : Int) := fun x hx => by
    unfold stL
    rw [List.getD_eq_getElem?_getD, List.getElem?_map, List.getElem?_range hx]
    rfl
  refine ⟨by unfold stL; rw [List.length_map, List.length_range], fun y hy => ?_, fun x hx c => ⟨x, hx, by rw [at_ x hx, if_neg c]⟩, fun y z hy hz p e => ?_⟩
  · rw [at_ y hy]
    by_cases c : y ∈ l
    · rw [if_pos c]; exact .inl rfl
    · rw [if_neg c]; exact .inr ⟨y, hy, c, rfl⟩
  · rw [at_ y hy] at p e
    rw [at_ z hz] at e
    split at e
    · rename_i c
      rw [if_pos c] at p
      omega
    · split at e <;> omega
/-- two places exchanged, or not -/
theorem Lies.moved (h : Lies n l ls) {m : Mv} (d : Deed n m) : Lies n l (mvL ls m) ∧ lawE n (mvL ls m) = cmpE (lawE n ls) (dE n m (goalE n (lawE n ls))) := by
  have hab := d.ab
  have hbn := d.bn
  have hcond : m.1.all (fun x => !decide (0 ≤ ls.getD x 0)) = isAll m.1 (goalE n (lawE n ls)) := by
    rw [Bool.eq_iff_iff, isAll_iff, List.all_eq_true]
    refine forall_congr' fun x => forall_congr' fun hx => ?_
    rw [h.goal (by have := (d.asc.2 x hx).2; omega)]
    simp
  have W := d.way (goalE n (lawE n ls))
  have at_ : ∀ y, y < n → (mvL ls m).getD y 0 = ls.getD (dF m (goalE n (lawE n ls)) y) 0 := fun y hy => by
    unfold mvL dF
    rw [hcond]
    split
    · unfold sw
      rw [List.getD_eq_getElem?_getD, List.getElem?_set, List.length_set, h.len, List.getElem?_set, h.len]
      by_cases c1 : y = m.2.2
      · rw [if_pos c1.symm, if_pos hbn, if_pos c1]
        rfl
      · rw [if_neg (fun z => c1 z.symm), if_neg c1]
        by_cases c2 : y = m.2.1
        · rw [if_pos c2.symm, if_pos (by omega), if_pos c2]
          rfl
        · rw [if_neg (fun z => c2 z.symm), if_neg c2, List.getD_eq_getElem?_getD]
    · rfl
  have hl : (mvL ls m).length = n := by
    unfold mvL
    split
    · rw [List.length_set, List.length_set]; exact h.len
    · exact h.len
  have hL : Lies n l (mvL ls m) := by
    refine ⟨hl, fun y hy => ?_, fun x hx c => ?_, fun y z hy hz p e => ?_⟩
    · rw [at_ y hy]
      exact h.at_ _ (W.lt y hy)
    · obtain ⟨y, hy, e⟩ := h.has x hx c
      exact ⟨_, W.lt y hy, by rw [at_ _ (W.lt y hy), W.inv y hy]; exact e⟩
    · rw [at_ y hy] at p e
      rw [at_ z hz] at e
      have := h.one _ _ (W.lt y hy) (W.lt z hz) p e
      rw [← W.inv y hy, this, W.inv z hz]
  refine ⟨hL, list_ext (n := n) (lawE_len n _) (by unfold cmpE; rw [List.length_map]; exact lawE_len n _) fun x hx => ?_⟩
  rw [cmp_at (by rw [lawE_len]; exact hx)]
  by_cases c : x ∈ l
  · rw [hL.keep hx c, h.keep hx c]
    rfl
  · obtain ⟨y, hy, e⟩ := h.has x hx c
    have e2 := h.put hx hy e
    obtain ⟨p1, p2⟩ := h.ent.off hx c
    rw [e2, Int.toNat_natCast] at p1 p2
    rw [e2, if_neg (by omega), Int.toNat_natCast, hL.put hx (W.lt y hy) (by rw [at_ _ (W.lt y hy), W.inv y hy]; exact e)]
    show _ = (byE _ _).getD _ 0
    rw [byE_at (by rw [W.len]; exact p1), if_neg p2, W.at_ _ p1]
end
theorem lies_all {n : Nat} {l : List Nat} : ∀ (ms : List Mv) (ls : List Int), Lies n l ls → (∀ m ∈ ms, Deed n m) → Lies n l (ms.foldl mvL ls)
  | [], _, h, _ => h
  | m :: ms, ls, h, d => lies_all ms _ (h.moved (d m List.mem_cons_self)).1 fun x hx => d x (List.mem_cons_of_mem _ hx)
theorem made_nil {n : Nat} (hn : n ≤ 6) : madeT n [] = stillT n := by
  refine List.map_congr_left fun l hl => ?_
  show lawE n (stL n l) = _
  have h := lies_start n l
  have at_ : ∀ x, x < n → (stL n l).getD x 0 = if x ∈ l then -1 else (x : Int) := fun x hx => by
    unfold stL
    rw [List.getD_eq_getElem?_getD, List.getElem?_map, List.getElem?_range hx]
    rfl
  refine list_ext (n := n) (lawE_len n _) (by rw [byE_len, ups_len]) fun x hx => ?_
  rw [byE_at (by rw [ups_len]; exact hx)]
  by_cases c : x ∈ l
  · rw [if_pos c, h.keep hx c]
  · rw [if_neg c, ups_at hx, h.put hx hx (by rw [at_ x hx, if_neg c])]
theorem made_ent {n : Nat} {ms : List Mv} (d : ∀ m ∈ ms, Deed n m) (l : List Nat) : EntF n l (madeE n ms l) := (lies_all ms _ (lies_start n l) d).ent
theorem made_snoc {n : Nat} (hn : n ≤ 6) {ms : List Mv} {m : Mv} (d : ∀ x ∈ ms ++ [m], Deed n x) : madeT n (ms ++ [m]) = bothT n (madeT n ms) (deedT n m.1 m.2.1 m.2.2) := by
  unfold madeT bothT
  rw [List.map_map]
  refine List.map_congr_left fun l hl => ?_
  have dm := d m (List.mem_append_right _ List.mem_cons_self)
  have h := (lies_all ms _ (lies_start n l) fun x hx => d x (List.mem_append_left _ hx)).moved dm
  show lawE n ((ms ++ [m]).foldl mvL (stL n l)) = cmpE (madeE n ms l) (en n (deedT n m.1 m.2.1 m.2.2) (goalE n (madeE n ms l)))
  rw [List.foldl_append, deed_map, en_map hn (goal_all hn _)]
  exact h.2
theorem made_ok {n : Nat} (hn : n ≤ 6) {ms : List Mv} (d : ∀ m ∈ ms, Deed n m) : TabOk n (madeT n ms) := by
  have : ∀ k, k ≤ ms.length → TabOk n (madeT n (ms.take k)) := fun k => by
    induction k with
    | zero =>
      intro _
      rw [List.take_zero, made_nil hn]
      exact still_ok hn
    | succ k ih =>
      intro hk
      have e : ms.take (k + 1) = ms.take k ++ [ms[k]] := by rw [List.take_add_one, List.getElem?_eq_getElem (by omega)]; rfl
      have d2 : ∀ x ∈ ms.take k ++ [ms[k]], Deed n x := fun x hx => d x (List.take_subset _ _ (e ▸ hx))
      rw [e, made_snoc hn d2]
      exact (ih (by omega)).both hn ((d2 _ (List.mem_append_right _ List.mem_cons_self)).ok hn)
  have := this ms.length (Nat.le_refl _)
  rwa [List.take_length] at this
theorem made_one {n : Nat} (hn : n ≤ 6) {m : Mv} (d : Deed n m) : madeT n [m] = deedT n m.1 m.2.1 m.2.2 := by
  have := made_snoc (ms := []) (m := m) hn fun x hx => by
    rw [List.nil_append, List.mem_singleton] at hx
    exact hx ▸ d
  rw [List.nil_append, made_nil hn, still_both hn (d.ok hn)] at this
  exact this
end Kr
namespace Kr
open PySem PySem.Spec PyProof.Rows L2
/-! ### what the laws show of tables -/
theorem tab_flat (T : List (List Int)) : flatT (tabD T) = true := by simp only [tabD, flatT]; exact ents_flat T
def deedD (m : Mv) : PyData := .tuple [lotD m.1, .int (m.2.1 : Nat), .int (m.2.2 : Nat)]
theorem deed_flat (m : Mv) : flatT (deedD m) = true := by simp [deedD, flatT, flatTA, lot_flat]
theorem deed_dq {H : Hp} {v : V} {m : Mv} (h : DeedAt H v m) : Dq H v (deedD m) := by
  obtain ⟨d, q, rfl, h1, h2⟩ := h
  exact .tup h1 (.cons (lot_at h2) (.cons (.int _) (.cons (.int _) .nil)))
theorem DeedAt.upT {H H' : Hp} {v : V} {m : Mv} (s : TS H H') (h : DeedAt H v m) : DeedAt H' v m := by
  obtain ⟨d, q, rfl, h1, h2⟩ := h
  exact ⟨d, q, rfl, s _ _ h1, s _ _ h2⟩
theorem sm_lot {l : List Nat} {m : Nat} (hl : l.length ≤ m) (h : ∀ x ∈ l, x < 24) : Sm 2 (6 * m) (lotD l) := by
  refine Sm.tup (k := 1) (w := 5) (fun d hd => ?_) (by rw [List.length_map]; exact hl)
  obtain ⟨x, hx, rfl⟩ := List.mem_map.mp hd
  exact .lit (by have := h x hx; omega)
theorem sm_ent {e : List Int} (hl : e.length ≤ 6) (h : ∀ x ∈ e, -1 ≤ x ∧ x < 24) : Sm 2 (6 * 6) (entD e) := by
  refine Sm.tup (k := 1) (w := 5) (fun d hd => ?_) (by rw [List.length_map]; exact hl)
  obtain ⟨x, hx, rfl⟩ := List.mem_map.mp hd
  exact .lit (by have := h x hx; omega)
theorem EntF.le {n : Nat} {l : List Nat} {e : List Int} (h : EntF n l e) : ∀ x ∈ e, x = -1 ∨ (0 ≤ x ∧ x < n) := fun z hz => by
  obtain ⟨x, hx, rfl⟩ := (mem_e h.len).mp hz
  by_cases c : x ∈ l
  · exact .inl (h.key x hx c)
  · exact .inr (h.rid x hx c)
theorem sm_entF {n : Nat} (hn : n ≤ 6) {l : List Nat} {e : List Int} (h : EntF n l e) : Sm 2 (6 * 6) (entD e) := sm_ent (by rw [h.len]; exact hn) fun x hx => by
  have := h.le x hx
  omega
theorem TabOk.mem {n : Nat} (hn : n ≤ 6) {T : List (List Int)} (h : TabOk n T) {e : List Int} (he : e ∈ T) : ∃ l ∈ allL n, EntF n l e := by
  rw [h.map hn] at he
  obtain ⟨l, hl, rfl⟩ := List.mem_map.mp he
  exact ⟨l, hl, h.ent hn hl⟩
theorem sm_tab {n : Nat} (hn : n ≤ 6) {T : List (List Int)} (h : TabOk n T) : Sm 3 ((6 * 6 + 1) * 64) (tabD T) := by
  refine Sm.tup (k := 2) (w := 6 * 6) (fun d hd => ?_) (by rw [List.length_map, h.ents.len]; exact all_few n (by omega))
  obtain ⟨e, he, rfl⟩ := List.mem_map.mp hd
  obtain ⟨l, _, f⟩ := h.mem hn he
  exact sm_entF hn f
theorem sm_deed {n : Nat} (hn : n ≤ 6) {m : Mv} (d : Deed n m) : Sm 3 ((36 + 1) * 3) (deedD m) := by
  have h1 := d.ab
  have h2 := d.bn
  refine Sm.tup (k := 2) (w := 36) (fun x hx => ?_) (Nat.le_refl _)
  simp only [List.mem_cons, List.not_mem_nil, or_false] at hx
  rcases hx with rfl | rfl | rfl
  · exact sm_lot (m := 6) (by have := d.asc.len; omega) fun x hx => by have := (d.asc.2 x hx).2; omega
  · exact (Sm.lit (by omega)).mono (by decide) (by decide)
  · exact (Sm.lit (by omega)).mono (by decide) (by decide)
theorem ents_lay : ∀ T : List (List Int), PyData.canLayAll0 (T.map entD) = true ∧ PyData.depthAll (T.map entD) ≤ 2
  | [] => by simp [PyData.canLayAll0, PyData.depthAll]
  | e :: T => by
    obtain ⟨h1, h2⟩ := ents_lay T
    have h3 := dep_ints1 e
    simp only [List.map_cons, PyData.canLayAll0, PyData.depthAll, entD, PyData.canLay0, PyData.depth, h1, lay_ints1]
    refine ⟨by simp, by omega⟩
theorem tab_shaped (T : List (List Int)) : SeqAt.shaped (tabD T) = true := by
  obtain ⟨h1, h2⟩ := ents_lay T
  unfold SeqAt.shaped
  simp only [tabD, PyData.canLay0, PyData.depth, h1, Bool.true_and, decide_eq_true_eq]
  omega
theorem TabOk.uniq {n : Nat} (hn : n ≤ 6) {T : List (List Int)} (h : TabOk n T) {i j : Nat} {e : List Int} (h1 : T[i]? = some e) (h2 : T[j]? = some e) : i = j := by
  have at_ : ∀ {i : Nat}, T[i]? = some e → ∃ l, (allL n)[i]? = some l ∧ EntF n l e := fun {i} hi => by
    have hl : i < (allL n).length := by rw [← h.ents.len]; exact (List.getElem?_eq_some_iff.mp hi).1
    exact ⟨_, List.getElem?_eq_getElem hl, (h.ents.at_ i _ _ (List.getElem?_eq_getElem hl) hi).f⟩
  obtain ⟨a, ha, fa⟩ := at_ h1
  obtain ⟨b, hb, fb⟩ := at_ h2
  have e1 : a = b := asc_ext (all_ascL hn _ (List.mem_of_getElem? ha)) (all_ascL hn _ (List.mem_of_getElem? hb)) fun x => by
    by_cases hx : x < n
    · rw [← fa.neg hx, ← fb.neg hx]
    · exact ⟨fun z => absurd ((all_ascL hn _ (List.mem_of_getElem? ha)).2 x z).2 (by omega), fun z => absurd ((all_ascL hn _ (List.mem_of_getElem? hb)).2 x z).2 (by omega)⟩
  subst e1
  rw [← (all_num_at hn ha).1, ← (all_num_at hn hb).1]
/-! ### what the program's tests ask -/
theorem TabOk.both_in {n : Nat} (hn : n ≤ 6) {T : List (List Int)} (h : TabOk n T) : T.length ≤ 1000 ∧ (∀ e ∈ T, EntOk n e) ∧ T.length = 2 ^ n ∧ ∀ e ∈ T, e.length = n := by
  refine ⟨by rw [h.ents.len]; exact Nat.le_trans (all_few n (by omega)) (by decide), fun e he => ?_, h.len hn, fun e he => ?_⟩
  · obtain ⟨l, _, f⟩ := h.mem hn he
    exact ⟨goal_all hn e, by rw [f.len]; omega, f.le⟩
  · obtain ⟨l, _, f⟩ := h.mem hn he
    exact f.len
theorem TabOk.nd {n : Nat} (hn : n ≤ 6) {T : List (List Int)} (h : TabOk n T) : (T.map (goalE n)).Nodup := h.goals.symm.nodup (all_nodup hn)
theorem all_head : ∀ n : Nat, n < 7 → (allL n)[0]? = some [] := by decide +kernel
theorem TabOk.head {n : Nat} (hn : n ≤ 6) {T : List (List Int)} (h : TabOk n T) : ∃ r, T = en n T [] :: r := by
  have e := all_head n (by omega)
  cases hA : allL n with
  | nil => rw [hA] at e; cases e
  | cons a r =>
    rw [hA] at e
    have ea : a = [] := Option.some.inj e
    subst ea
    have h2 := h.map hn
    rw [hA, List.map_cons] at h2
    exact ⟨_, h2⟩
theorem nil_all {n : Nat} (hn : n ≤ 6) : ([] : List Nat) ∈ allL n := List.mem_of_getElem? (all_head n (by omega))
theorem ints_eqv : ∀ a b : List Int, PyData.eqvAll (a.map .int) (b.map .int) = decide (a = b)
  | [], [] => by simp [PyData.eqvAll]
  | [], _ :: _ => by simp [PyData.eqvAll]
  | _ :: _, [] => by simp [PyData.eqvAll]
  | x :: a, y :: b => by
    have ih := ints_eqv a b
    simp only [List.map_cons, PyData.eqvAll]
    rw [ih, Bool.eq_iff_iff]
    simp [PyData.eqv]
theorem ent_eqv (a b : List Int) : PyData.eqv (entD a) (entD b) = decide (a = b) := by
  unfold entD
  simp only [PyData.eqv]
  exact ints_eqv a b
theorem lot_eqv (a b : List Nat) : PyData.eqv (lotD a) (lotD b) = decide (a = b) := by
  have e : ∀ l : List Nat, lotD l = entD (l.map fun (x : Nat) => (x : Int)) := fun l => by
    unfold lotD entD
    rw [List.map_map]
    rfl
  rw [e, e, ent_eqv, decide_eq_decide]
  exact List.map_inj_right (fun a b z => by omega)
theorem ent_shaped (e : List Int) : SeqAt.shaped (entD e) = true := tup_shaped e
theorem deed_head {n : Nat} {m : Mv} (d : Deed n m) : dE n m [] = byE [] (ups n) ↔ m.1 ≠ [] := by
  have h1 := d.ab
  have h2 := d.bn
  constructor
  · intro e z
    have e1 : dE n m [] = byE [] (swapW n m.2.1 m.2.2) := by
      unfold dE isAll
      rw [z]
      rfl
    rw [e1] at e
    have W := way_swap (n := n) (a := m.2.1) (b := m.2.2) (by omega) h2 (by omega)
    have e2 : (byE [] (swapW n m.2.1 m.2.2)).getD m.2.1 0 = (byE [] (ups n)).getD m.2.1 0 := by rw [e]
    rw [byE_at (by rw [W.len]; omega), byE_at (by rw [ups_len]; omega), if_neg (by simp), if_neg (by simp), W.at_ _ (by omega), ups_at (by omega)] at e2
    unfold sw at e2
    rw [if_neg (by omega), if_pos rfl] at e2
    omega
  · intro h
    unfold dE
    rw [if_neg]
    rw [isAll_iff]
    cases hm : m.1 with
    | nil => exact absurd hm h
    | cons x r => exact fun z => absurd (z x List.mem_cons_self) (by simp)
end Kr
namespace Kr
open PySem PySem.Spec PyProof.Rows L2
/-! ### conditions of while: more may be asked of what follows -/
def MonoE (t : TE) : Prop := ∀ σ H (Q Q' : VK), (∀ v H1, Q v H1 → Q' v H1) → t σ H Q → t σ H Q'
def MonoC (t : TT) : Prop := ∀ σ H (Q Q' : Bool → Hp → Prop), (∀ v H1, Q v H1 → Q' v H1) → t σ H Q → t σ H Q'
def MonoR (r : R2) : Prop := ∀ x y H (Q Q' : VK), (∀ v H1, Q v H1 → Q' v H1) → r x y H Q → r x y H Q'
theorem mono_var (i : Nat) : MonoE (tVar i) := fun _ _ _ _ h ⟨v, e, q⟩ => ⟨v, e, h _ _ q⟩
theorem mono_c (v : V) : MonoE (tC v) := fun _ _ _ _ h q => h _ _ q
theorem mono_op {r : R2} {a b : TE} (hr : MonoR r) (ha : MonoE a) (hb : MonoE b) : MonoE (tOp r a b) := fun σ _ _ _ h q => ha _ _ _ _ (fun _ _ q => hb _ _ _ _ (fun _ _ q => hr _ _ _ _ _ h q) q) q
theorem mono_rI0 (g : Int → Int → V) : MonoR (rI0 g) := fun _ _ _ _ _ h ⟨i, j, a, b, q⟩ => ⟨i, j, a, b, h _ _ q⟩
theorem mono_rI (C : Int → Int → Prop) (g : Int → Int → V) : MonoR (rI C g) := fun _ _ _ _ _ h ⟨i, j, a, b, c, q⟩ => ⟨i, j, a, b, c, h _ _ q⟩
theorem mono_ixT (K : PySem.W.Frag) : MonoR (rIxT K) := fun _ _ _ _ _ h ⟨p, xs, i, v, a, b, c, d, q⟩ => ⟨p, xs, i, v, a, b, c, d, h _ _ q⟩
theorem mono_ixL (K : PySem.W.Frag) : MonoR (rIxL K) := fun _ _ _ _ _ h ⟨p, xs, i, v, a, b, c, d, q⟩ => ⟨p, xs, i, v, a, b, c, d, h _ _ q⟩
theorem mono_din {a b : TE} (ha : MonoE a) (hb : MonoE b) : MonoE (tDIn a b) := fun σ _ _ _ h q => ha _ _ _ _ (fun _ _ q => hb _ _ _ _ (fun _ _ ⟨x, o, e, g, q⟩ => ⟨x, o, e, g, h _ _ q⟩) q) q
theorem mono_dnotin {a b : TE} (ha : MonoE a) (hb : MonoE b) : MonoE (tDNotIn a b) := fun σ _ _ _ h q => ha _ _ _ _ (fun _ _ q => hb _ _ _ _ (fun _ _ ⟨x, o, e, g, q⟩ => ⟨x, o, e, g, h _ _ q⟩) q) q
theorem mono_B {a : TE} (ha : MonoE a) : MonoC (tB a) := fun _ _ _ _ h q => ha _ _ _ _ (fun _ _ ⟨c, e, q⟩ => ⟨c, e, h _ _ q⟩) q
theorem mono_test {a : TE} (ha : MonoE a) : MonoC (tTest a) := fun _ _ _ _ h q => ha _ _ _ _ (fun _ _ ⟨c, e, q⟩ => ⟨c, e, h _ _ q⟩) q
theorem mono_and {a b : TT} (ha : MonoC a) (hb : MonoC b) : MonoC (tAnd a b) := fun _ _ _ _ h q => ha _ _ _ _ (fun c _ q => by
  cases c with
  | true => exact hb _ _ _ _ h q
  | false => exact h _ _ q) q
def MonoA (t : TA) : Prop := ∀ σ H (Q Q' : List V → Hp → Prop), (∀ v H1, Q v H1 → Q' v H1) → t σ H Q → t σ H Q'
def MonoL (r : List V → Hp → VK → Prop) : Prop := ∀ vs H (Q Q' : VK), (∀ v H1, Q v H1 → Q' v H1) → r vs H Q → r vs H Q'
theorem mono_nil : MonoA tNil := fun _ _ _ _ h q => h _ _ q
theorem mono_cons {t : TE} {u : TA} (a : MonoE t) (b : MonoA u) : MonoA (tCons t u) := fun _ _ _ _ h q => a _ _ _ _ (fun _ _ q => b _ _ _ _ (fun _ _ q => h _ _ q) q) q
theorem mono_cb {r : List V → Hp → VK → Prop} {t : TA} (hr : MonoL r) (a : MonoA t) : MonoE (tCB r t) := fun _ _ _ _ h q => a _ _ _ _ (fun _ _ q => hr _ _ _ _ h q) q
theorem mono_eq : MonoR rEq := fun _ _ _ _ _ h ⟨a, q⟩ => ⟨a, h _ _ q⟩
theorem mono_int : MonoL (fun xs H Q => (∃ i, xs = [.int i] ∧ Q (.int i) H) ∨ ∃ k, xs = [.bl k] ∧ Q (.int (if k then 1 else 0)) H) := fun _ _ _ _ h q => q.elim (fun ⟨i, e, q⟩ => .inl ⟨i, e, h _ _ q⟩) fun ⟨i, e, q⟩ => .inr ⟨i, e, h _ _ q⟩
end Kr
namespace Kr
open PySem PySem.Spec PyProof.Rows L2
/-! ### terms of programs -/
inductive Tm where
  | doo (d : Mv)
  | part (j : Nat)
  | row (ts : List Tm)
  | back (t : Tm)
  | times (t : Tm) (k : Nat)
mutual
def tmD : Tm → PyData
  | .doo d => .tuple [.str "do", deedD d]
  | .part j => .tuple [.str "part", .int (j : Int)]
  | .row ts => .tuple [.str "row", .tuple (tmDs ts)]
  | .back t => .tuple [.str "back", tmD t]
  | .times t k => .tuple [.str "times", tmD t, .int (k : Int)]
def tmDs : List Tm → List PyData
  | [] => []
  | t :: ts => tmD t :: tmDs ts
end
mutual
def dep : Tm → Nat
  | .doo _ => 1
  | .part _ => 1
  | .row ts => depL ts + 1
  | .back t => dep t + 1
  | .times t _ => dep t + 1
def depL : List Tm → Nat
  | [] => 0
  | t :: ts => max (dep t) (depL ts)
end
theorem tmDs_map : ∀ ts : List Tm, tmDs ts = ts.map tmD
  | [] => rfl
  | t :: ts => by
    simp only [tmDs, List.map_cons]
    rw [tmDs_map ts]
theorem depL_le : ∀ {ts : List Tm} {t : Tm}, t ∈ ts → dep t ≤ depL ts
  | u :: ts, t, h => by
    simp only [depL]
    rcases List.mem_cons.mp h with rfl | h
    · exact Nat.le_max_left _ _
    · exact Nat.le_trans (depL_le h) (Nat.le_max_right _ _)
/-- what a measure tells -/
structure Mea (α : Type) where
  oD : Mv → α
  oR : List α → α
  oB : α → α
  oT : α → Nat → α
section
variable {α : Type}
mutual
def worth (M : Mea α) (ws : List α) : Tm → α
  | .doo d => M.oD d
  | .part j => ws.getD j (M.oR [])
  | .row ts => M.oR (worthL M ws ts)
  | .back t => M.oB (worth M ws t)
  | .times t k => M.oT (worth M ws t) k
def worthL (M : Mea α) (ws : List α) : List Tm → List α
  | [] => []
  | t :: ts => worth M ws t :: worthL M ws ts
end
theorem worthL_map (M : Mea α) (ws : List α) : ∀ ts : List Tm, worthL M ws ts = ts.map (worth M ws)
  | [] => rfl
  | t :: ts => by
    simp only [worthL, List.map_cons]
    rw [worthL_map M ws ts]
mutual
/-- a term that may stand behind k others, of deeds that are right, its rows of at most r terms -/
def okTm (D : Mv → Prop) (r k : Nat) : Tm → Prop
  | .doo d => D d
  | .part j => j < k
  | .row ts => ts.length ≤ r ∧ okTms D r k ts
  | .back t => okTm D r k t
  | .times t n => n ≤ 10 ^ 30 ∧ okTm D r k t
def okTms (D : Mv → Prop) (r k : Nat) : List Tm → Prop
  | [] => True
  | t :: ts => okTm D r k t ∧ okTms D r k ts
end
theorem okTms_mem {D : Mv → Prop} {r k : Nat} : ∀ {ts : List Tm}, okTms D r k ts → ∀ t ∈ ts, okTm D r k t
  | [], _, _, h => nomatch h
  | u :: ts, h, t, ht => by
    simp only [okTms] at h
    rcases List.mem_cons.mp ht with rfl | ht
    · exact h.1
    · exact okTms_mem h.2 t ht
/-- a measure, its worths as values, its object -/
structure MeaR (α : Type) extends Mea α where
  rep : α → V → Hp → Prop
  flds : List (Str × V) → Prop
  ok : α → Prop
  okD : Mv → Prop
  most : Nat
  up : ∀ {a : α} {v : V} {H H' : Hp}, TS H H' → rep a v H → rep a v H'
  cD : ∀ {d : Mv}, okD d → ok (oD d)
  cR : ∀ {as : List α}, (∀ a ∈ as, ok a) → as.length ≤ most → ok (oR as)
  cB : ∀ {a : α}, ok a → ok (oB a)
  cT : ∀ {a : α} {k : Nat}, ok a → k ≤ 10 ^ 30 → ok (oT a k)
  nD : ∀ {fs}, flds fs → fs.lookup ("of_deed" : Str) = none
  nR : ∀ {fs}, flds fs → fs.lookup ("of_row" : Str) = none
  nB : ∀ {fs}, flds fs → fs.lookup ("of_back" : Str) = none
  nT : ∀ {fs}, flds fs → fs.lookup ("of_times" : Str) = none
def MeaR.obj (R : MeaR α) (C : Addr) (m : V) (H : Hp) : Prop := ∃ a dx fs, m = .ref a ∧ H a = some (.ins C dx fs) ∧ R.flds fs
theorem MeaR.objUp {R : MeaR α} {C : Addr} {m : V} {H H' : Hp} (h : R.obj C m H) (s : Same H H') : R.obj C m H' := let ⟨a, dx, fs, e, f, g⟩ := h; ⟨a, dx, fs, e, s _ _ f, g⟩
def MeaR.spD (R : MeaR α) (C : Addr) : Sp := fun vs H Q _ => ∃ (m v : V) (d : Mv), vs = [m, v] ∧ R.obj C m H ∧ Dq H v (deedD d) ∧ R.okD d ∧ ∀ H' r, Same H H' → R.rep (R.oD d) r H' → Q r H'
def MeaR.spR (R : MeaR α) (C : Addr) : Sp := fun vs H Q _ => ∃ (m : V) (a : Addr) (us : List V) (as : List α), vs = [m, .ref a] ∧ R.obj C m H ∧ H a = some (.lst us) ∧ us.length = as.length ∧ as.length ≤ R.most ∧ (∀ (i : Nat) u x, us[i]? = some u → as[i]? = some x → R.rep x u H) ∧ (∀ x ∈ as, R.ok x) ∧ ∀ H' r, Same H H' → R.rep (R.oR as) r H' → Q r H'
def MeaR.spB (R : MeaR α) (C : Addr) : Sp := fun vs H Q _ => ∃ (m v : V) (x : α), vs = [m, v] ∧ R.obj C m H ∧ R.rep x v H ∧ R.ok x ∧ ∀ H' r, Same H H' → R.rep (R.oB x) r H' → Q r H'
def MeaR.spT (R : MeaR α) (C : Addr) : Sp := fun vs H Q _ => ∃ (m v : V) (x : α) (k : Nat), vs = [m, v, .int (k : Int)] ∧ R.obj C m H ∧ R.rep x v H ∧ R.ok x ∧ k ≤ 10 ^ 30 ∧ ∀ H' r, Same H H' → R.rep (R.oT x k) r H' → Q r H'
mutual
theorem worth_ok (R : MeaR α) {ws : List α} (hw : ∀ a ∈ ws, R.ok a) : ∀ t : Tm, okTm R.okD R.most ws.length t → R.ok (worth R.toMea ws t)
  | .doo d, h => by
    simp only [okTm] at h
    simp only [worth]
    exact R.cD h
  | .part j, h => by
    simp only [okTm] at h
    simp only [worth]
    rw [List.getD_eq_getElem?_getD, List.getElem?_eq_getElem h]
    exact hw _ (List.getElem_mem h)
  | .row ts, h => by
    simp only [okTm] at h
    simp only [worth]
    refine R.cR (worthL_ok R hw ts h.2) ?_
    rw [worthL_map, List.length_map]
    exact h.1
  | .back t, h => by
    simp only [okTm] at h
    simp only [worth]
    exact R.cB (worth_ok R hw t h)
  | .times t k, h => by
    simp only [okTm] at h
    simp only [worth]
    exact R.cT (worth_ok R hw t h.2) h.1
theorem worthL_ok (R : MeaR α) {ws : List α} (hw : ∀ a ∈ ws, R.ok a) : ∀ ts : List Tm, okTms R.okD R.most ws.length ts → ∀ x ∈ worthL R.toMea ws ts, R.ok x
  | [], _, x, h => by
    simp only [worthL] at h
    exact nomatch h
  | t :: ts, h, x, hx => by
    simp only [okTms] at h
    simp only [worthL] at hx
    rcases List.mem_cons.mp hx with rfl | hx
    · exact worth_ok R hw t h.1
    · exact worthL_ok R hw ts h.2 x hx
end
end
end Kr
namespace Kr
open PySem PySem.Spec PyProof.Rows L2
mutual
theorem tm_flat : ∀ t : Tm, flatT (tmD t) = true
  | .doo d => by simp [tmD, flatT, flatTA, deed_flat]
  | .part j => by simp [tmD, flatT, flatTA]
  | .row ts => by simp [tmD, flatT, flatTA, tms_flat ts]
  | .back t => by simp [tmD, flatT, flatTA, tm_flat t]
  | .times t k => by simp [tmD, flatT, flatTA, tm_flat t]
theorem tms_flat : ∀ ts : List Tm, flatTA (tmDs ts) = true
  | [] => by simp [tmDs, flatTA]
  | t :: ts => by simp [tmDs, flatTA, tm_flat t, tms_flat ts]
end
theorem okTms_of {D : Mv → Prop} {r k : Nat} : ∀ {ts : List Tm}, (∀ t ∈ ts, okTm D r k t) → okTms D r k ts
  | [], _ => by simp [okTms]
  | t :: ts, h => by
    simp only [okTms]
    exact ⟨h t List.mem_cons_self, okTms_of fun x hx => h x (List.mem_cons_of_mem _ hx)⟩
theorem depL_of {m : Nat} : ∀ {ts : List Tm}, (∀ t ∈ ts, dep t ≤ m) → depL ts ≤ m
  | [], _ => Nat.zero_le _
  | t :: ts, h => by
    simp only [depL]
    exact Nat.max_le.mpr ⟨h t List.mem_cons_self, depL_of fun x hx => h x (List.mem_cons_of_mem _ hx)⟩
theorem joinC7 {c : TT} {σ : L2.St} {H : Hp} {Q : Bool → Hp → Prop} (R : Bool → Hp → Prop) (h : ∀ b G, R b G → Q b G) (hc : ∀ Q' : Bool → Hp → Prop, (∀ b G, R b G → Q' b G) → c σ H Q') : c σ H Q := hc Q h
end Kr
namespace Kr
open PySem PySem.Spec PyProof.Rows L2
def tyN : PyData → String
  | .none => "NoneType"
  | .bool _ => "bool"
  | .int _ => "int"
  | .str _ => "str"
  | .list _ => "list"
  | .tuple _ => "tuple"
  | .dict _ => "dict"
theorem Dq.ty {K : PySem.W.Frag} {H : Hp} {v : V} {d : PyData} (h : Dq H v d) : TyX K H v (.type (tyN d)) := by
  cases h with
  | non => exact .base .non
  | bl b => exact .base (.bl b)
  | int i => exact .base (.int i)
  | str x => exact .base (.str x)
  | lst e q => exact .base (.lst e)
  | tup e q => exact .base (.tup e)
  | dic e => exact .base (.dK e)
def isI : PyData → Bool
  | .int _ => true
  | .bool _ => true
  | _ => false
def isBo : PyData → Bool
  | .bool _ => true
  | _ => false
def isTu : PyData → Bool
  | .tuple _ => true
  | _ => false
theorem kit_int {K : PySem.W.Frag} : ∀ d : PyData, PySem.W.kitOne K (.type (tyN d)) (.type "int") = some (isI d)
  | .none => kit_ty (show kitB "NoneType" "int" = some false by decide +kernel)
  | .bool _ => kit_ty (show kitB "bool" "int" = some true by decide +kernel)
  | .int _ => kit_ty (show kitB "int" "int" = some true by decide +kernel)
  | .str _ => kit_ty (show kitB "str" "int" = some false by decide +kernel)
  | .list _ => kit_ty (show kitB "list" "int" = some false by decide +kernel)
  | .tuple _ => kit_ty (show kitB "tuple" "int" = some false by decide +kernel)
  | .dict _ => kit_ty (show kitB "dict" "int" = some false by decide +kernel)
theorem kit_bool {K : PySem.W.Frag} : ∀ d : PyData, PySem.W.kitOne K (.type (tyN d)) (.type "bool") = some (isBo d)
  | .none => kit_ty (show kitB "NoneType" "bool" = some false by decide +kernel)
  | .bool _ => kit_ty (show kitB "bool" "bool" = some true by decide +kernel)
  | .int _ => kit_ty (show kitB "int" "bool" = some false by decide +kernel)
  | .str _ => kit_ty (show kitB "str" "bool" = some false by decide +kernel)
  | .list _ => kit_ty (show kitB "list" "bool" = some false by decide +kernel)
  | .tuple _ => kit_ty (show kitB "tuple" "bool" = some false by decide +kernel)
  | .dict _ => kit_ty (show kitB "dict" "bool" = some false by decide +kernel)
theorem kit_tuple {K : PySem.W.Frag} : ∀ d : PyData, PySem.W.kitOne K (.type (tyN d)) (.type "tuple") = some (isTu d)
  | .none => kit_ty (show kitB "NoneType" "tuple" = some false by decide +kernel)
  | .bool _ => kit_ty (show kitB "bool" "tuple" = some false by decide +kernel)
  | .int _ => kit_ty (show kitB "int" "tuple" = some false by decide +kernel)
  | .str _ => kit_ty (show kitB "str" "tuple" = some false by decide +kernel)
  | .list _ => kit_ty (show kitB "list" "tuple" = some false by decide +kernel)
  | .tuple _ => kit_ty (show kitB "tuple" "tuple" = some true by decide +kernel)
  | .dict _ => kit_ty (show kitB "dict" "tuple" = some false by decide +kernel)
/-- an integer, no bool, within bounds -/
def isB (d : PyData) (lo hi : Int) : Bool := match d with
  | .int i => decide (lo ≤ i) && decide (i ≤ hi)
  | _ => false
/-- a tuple of so many items -/
def isT (d : PyData) (n : Int) : Bool := match d with
  | .tuple xs => decide ((xs.length : Int) = n)
  | _ => false
def spB : Sp := fun vs H Q _ => ∃ (v : V) (d : PyData) (lo hi : Int), vs = [v, .int lo, .int hi] ∧ Dq H v d ∧ Q (.bl (isB d lo hi)) H
def spT : Sp := fun vs H Q _ => ∃ (v : V) (d : PyData) (n : Int), vs = [v, .int n] ∧ Dq H v d ∧ Q (.bl (isT d n)) H
end Kr
namespace Kr
open PySem PySem.Spec PyProof.Rows L2
/-! ### tables turned back -/
theorem EntF.lies {n : Nat} {l : List Nat} {e : List Int} (h : EntF n l e) : Lies n (goalE n e) e := by
  refine ⟨h.len, fun y hy => ?_, fun x hx c => ?_, fun y z hy hz p q => ?_⟩
  · by_cases c : y ∈ l
    · exact .inl (h.key y hy c)
    · obtain ⟨p1, p2⟩ := h.off hy c
      have := h.rid y hy c
      exact .inr ⟨_, p1, p2, by omega⟩
  · obtain ⟨y, hy, _, e1⟩ := h.from hx c
    exact ⟨y, hy, e1⟩
  · have cy : y ∉ l := fun c => by rw [h.key y hy c] at p; omega
    have cz : z ∉ l := fun c => by rw [q, h.key z hz c] at p; omega
    exact h.inj y z hy hz cy cz q
/-- the entry that leads back -/
theorem EntF.back {n : Nat} {l : List Nat} {e : List Int} (hl : Asc 0 n l) (h : EntF n l e) : EntF n (goalE n e) (lawE n e) ∧ goalE n (lawE n e) = l := by
  refine ⟨h.lies.ent, asc_ext (goal_asc _ _) hl fun y => ?_⟩
  by_cases hy : y < n
  · rw [h.lies.goal hy]
    constructor
    · intro c
      refine Classical.byContradiction fun k => c (h.rid y hy k).1
    · intro k
      rw [h.key y hy k]
      decide
  · exact ⟨fun c => absurd (mem_goal.mp c).1 hy, fun c => absurd (by have := (hl.2 y c).2; omega) hy⟩
theorem back_at {n : Nat} {l : List Nat} {e : List Int} (h : EntF n l e) {x : Nat} (hx : x < n) (c : x ∉ l) : (lawE n e).getD (e.getD x 0).toNat 0 = (x : Int) := by
  obtain ⟨p1, p2⟩ := h.off hx c
  have := h.rid x hx c
  exact h.lies.put p1 hx (by omega)
theorem cmp_back {n : Nat} {l : List Nat} {e : List Int} (h : EntF n l e) : cmpE e (lawE n e) = byE l (ups n) := by
  refine list_ext (n := n) (by unfold cmpE; rw [List.length_map, h.len]) (by rw [byE_len, ups_len]) fun x hx => ?_
  rw [cmp_at (by rw [h.len]; exact hx), byE_at (by rw [ups_len]; exact hx)]
  by_cases c : x ∈ l
  · rw [if_pos c, (h.neg hx).mpr c, if_pos rfl]
  · rw [if_neg c, if_neg (fun z => c ((h.neg hx).mp z)), back_at h hx c, ups_at hx]
theorem back_back {n : Nat} {l : List Nat} {e : List Int} (hl : Asc 0 n l) (h : EntF n l e) : lawE n (lawE n e) = e := by
  obtain ⟨g, eg⟩ := h.back hl
  obtain ⟨k, ek⟩ := g.back (goal_asc _ _)
  rw [eg] at k
  refine list_ext (n := n) (lawE_len _ _) h.len fun x hx => ?_
  by_cases c : x ∈ l
  · rw [k.key x hx c, h.key x hx c]
  · obtain ⟨p1, p2⟩ := h.off hx c
    have e1 := back_at g p1 p2
    rw [back_at h hx c, Int.toNat_natCast] at e1
    have := h.rid x hx c
    rw [e1]
    omega
theorem back_cmp {n : Nat} {l : List Nat} {e : List Int} (hl : Asc 0 n l) (h : EntF n l e) : cmpE (lawE n e) e = byE (goalE n e) (ups n) := by
  have := cmp_back (h.back hl).1
  rwa [back_back hl h] at this
/-- the lot that is led to g -/
def srcL (n : Nat) (T : List (List Int)) (g : List Nat) : List Nat := ((allL n).find? fun l => decide (goalE n (en n T l) = g)).getD []
def turnT (n : Nat) (T : List (List Int)) : List (List Int) := (allL n).map fun g => lawE n (en n T (srcL n T g))
section
variable {n : Nat} {T U : List (List Int)}
theorem TabOk.src (hn : n ≤ 6) (h : TabOk n T) {g : List Nat} (hg : g ∈ allL n) : srcL n T g ∈ allL n ∧ goalE n (en n T (srcL n T g)) = g := by
  have hm : g ∈ (allL n).map fun l => goalE n (en n T l) := (h.goalp hn).symm.subset hg
  obtain ⟨l, hl, e⟩ := List.mem_map.mp hm
  unfold srcL
  cases hf : (allL n).find? fun l => decide (goalE n (en n T l) = g) with
  | none =>
    have := List.find?_eq_none.mp hf l hl
    exact absurd (decide_eq_true e) this
  | some z =>
    have p := List.find?_some hf
    exact ⟨List.mem_of_find?_eq_some hf, of_decide_eq_true p⟩
theorem TabOk.src_goal (hn : n ≤ 6) (h : TabOk n T) {l : List Nat} (hl : l ∈ allL n) : srcL n T (goalE n (en n T l)) = l := by
  obtain ⟨h1, h2⟩ := h.src hn (goal_all hn (en n T l))
  exact h.gl_inj' hn h1 hl h2
theorem en_turn (hn : n ≤ 6) {g : List Nat} (hg : g ∈ allL n) : en n (turnT n T) g = lawE n (en n T (srcL n T g)) := en_map hn hg
theorem TabOk.turn_ent (hn : n ≤ 6) (h : TabOk n T) {g : List Nat} (hg : g ∈ allL n) : EntF n g (lawE n (en n T (srcL n T g))) ∧ goalE n (lawE n (en n T (srcL n T g))) = srcL n T g := by
  obtain ⟨h1, h2⟩ := h.src hn hg
  have := (h.ent hn h1).back (all_ascL hn _ h1)
  rwa [h2] at this
theorem TabOk.turn (hn : n ≤ 6) (h : TabOk n T) : TabOk n (turnT n T) := by
  refine TabOk.of_map hn (fun g hg => (h.turn_ent hn hg).1) ?_
  have e : ((allL n).map fun g => goalE n (lawE n (en n T (srcL n T g)))) = (allL n).map (srcL n T) := List.map_congr_left fun g hg => (h.turn_ent hn hg).2
  rw [e]
  have p := ((h.goalp hn).symm.map (srcL n T))
  refine p.trans (List.Perm.of_eq ?_)
  rw [List.map_map]
  exact (List.map_congr_left fun l hl => h.src_goal hn hl).trans (List.map_id _)
theorem both_turn (hn : n ≤ 6) (h : TabOk n T) : bothT n T (turnT n T) = stillT n := by
  rw [both_map hn h]
  refine List.map_congr_left fun l hl => ?_
  rw [en_turn hn (goal_all hn _), h.src_goal hn hl]
  exact cmp_back (h.ent hn hl)
theorem turn_both (hn : n ≤ 6) (h : TabOk n T) : bothT n (turnT n T) T = stillT n := by
  rw [both_map hn (h.turn hn)]
  refine List.map_congr_left fun g hg => ?_
  obtain ⟨h1, h2⟩ := h.src hn hg
  rw [en_turn hn hg, (h.turn_ent hn hg).2]
  have := back_cmp (all_ascL hn _ h1) (h.ent hn h1)
  rwa [h2] at this
theorem inv_one (hn : n ≤ 6) (h : TabOk n T) {W : List (List Int)} (hW : TabOk n W) (e : bothT n T W = stillT n) : W = turnT n T := by
  rw [← still_both hn hW, ← turn_both hn h, both_assoc hn (h.turn hn) h hW, e, both_still hn (h.turn hn)]
theorem turn_turn (hn : n ≤ 6) (h : TabOk n T) : turnT n (turnT n T) = T := (inv_one hn (h.turn hn) h (turn_both hn h)).symm
theorem turn_of_both (hn : n ≤ 6) (h : TabOk n T) (g : TabOk n U) : turnT n (bothT n T U) = bothT n (turnT n U) (turnT n T) := by
  refine (inv_one hn (h.both hn g) ((g.turn hn).both hn (h.turn hn)) ?_).symm
  rw [both_assoc hn h g ((g.turn hn).both hn (h.turn hn)), ← both_assoc hn g (g.turn hn) (h.turn hn), both_turn hn g, still_both hn (h.turn hn), both_turn hn h]
/-! ### lists that are filled place by place -/
def putAll {α : Type} (ps : List (Nat × α)) (L : List α) : List α := ps.foldl (fun L p => L.set p.1 p.2) L
theorem putAll_len {α : Type} : ∀ (ps : List (Nat × α)) (L : List α), (putAll ps L).length = L.length
  | [], _ => rfl
  | p :: ps, L => by
    unfold putAll
    rw [List.foldl_cons]
    exact (putAll_len ps _).trans List.length_set
theorem putAll_keep {α : Type} {i : Nat} : ∀ (ps : List (Nat × α)) (L : List α), (∀ p ∈ ps, p.1 ≠ i) → (putAll ps L)[i]? = L[i]?
  | [], _, _ => rfl
  | p :: ps, L, h => by
    unfold putAll
    rw [List.foldl_cons]
    refine (putAll_keep ps _ fun q hq => h q (List.mem_cons_of_mem _ hq)).trans ?_
    exact List.getElem?_set_ne (h p List.mem_cons_self)
theorem putAll_at {α : Type} {i : Nat} {v : α} : ∀ (ps : List (Nat × α)) (L : List α), (ps.map (·.1)).Nodup → (i, v) ∈ ps → i < L.length → (putAll ps L)[i]? = some v
  | p :: ps, L, nd, h, hi => by
    have nd2 : p.1 ∉ ps.map (·.1) ∧ (ps.map (·.1)).Nodup := by simpa using nd
    unfold putAll
    rw [List.foldl_cons]
    rcases List.mem_cons.mp h with c | c
    · subst c
      refine (putAll_keep ps _ fun q hq z => nd2.1 (List.mem_map.mpr ⟨q, hq, z⟩)).trans ?_
      exact List.getElem?_set_self hi
    · exact putAll_at ps _ nd2.2 c (by rw [List.length_set]; exact hi)
theorem putAll_snoc {α : Type} (ps : List (Nat × α)) (p : Nat × α) (L : List α) : putAll (ps ++ [p]) L = (putAll ps L).set p.1 p.2 := by
  unfold putAll
  rw [List.foldl_append]
  rfl
theorem putAll_mem {α : Type} {d : α} : ∀ (ps : List (Nat × α)) (L : List α), d ∈ putAll ps L → d ∈ L ∨ ∃ p ∈ ps, d = p.2
  | [], _, h => .inl h
  | p :: ps, L, h => by
    unfold putAll at h
    rw [List.foldl_cons] at h
    rcases putAll_mem ps _ h with c | ⟨q, hq, e⟩
    · rcases List.mem_or_eq_of_mem_set c with k | k
      · exact .inl k
      · exact .inr ⟨p, List.mem_cons_self, k⟩
    · exact .inr ⟨q, List.mem_cons_of_mem _ hq, e⟩
def backP (n : Nat) (e : List Int) : Nat × PyData := (num n (goalE n e), entD (lawE n e))
theorem put_flat (n k : Nat) (T : List (List Int)) : flatTA (putAll (T.map (backP n)) (List.replicate k (.tuple []))) = true := flatTA_of fun d hd => by
  rcases putAll_mem _ _ hd with c | ⟨p, hp, rfl⟩
  · rw [List.eq_of_mem_replicate c]
    rfl
  · obtain ⟨e, _, rfl⟩ := List.mem_map.mp hp
    exact ent_flat _
theorem turn_put (hn : n ≤ 6) (h : TabOk n T) : putAll (T.map (backP n)) (List.replicate (2 ^ n) (.tuple [])) = (turnT n T).map entD := by
  have hT := h.map hn
  have nd : ((T.map (backP n)).map (·.1)).Nodup := by
    rw [List.map_map]
    have e : (T.map ((fun x : Nat × PyData => x.1) ∘ backP n)) = (T.map (goalE n)).map (num n) := by rw [List.map_map]; rfl
    rw [e]
    have := (h.goals.map (num n))
    rw [lots_nums n (by omega)] at this
    exact this.symm.nodup List.nodup_range
  refine List.ext_getElem? fun i => ?_
  by_cases hi : i < 2 ^ n
  · obtain ⟨g, hg⟩ : ∃ g, (allL n)[i]? = some g := ⟨_, List.getElem?_eq_getElem (by rw [all_len n (by omega)]; exact hi)⟩
    have hga := List.mem_of_getElem? hg
    obtain ⟨h1, h2⟩ := h.src hn hga
    have hmem : (i, entD (lawE n (en n T (srcL n T g)))) ∈ T.map (backP n) := by
      refine List.mem_map.mpr ⟨en n T (srcL n T g), List.mem_of_getElem? (h.get hn h1), ?_⟩
      unfold backP
      rw [h2, (all_num_at hn hg).1]
    rw [putAll_at _ _ nd hmem (by rw [List.length_replicate]; exact hi)]
    unfold turnT
    rw [List.getElem?_map, List.getElem?_map, hg]
    rfl
  · rw [List.getElem?_eq_none (by rw [putAll_len, List.length_replicate]; omega), List.getElem?_eq_none (by rw [List.length_map, (h.turn hn).len hn]; omega)]
end
def spUndone : Sp := fun vs H Q _ => ∃ (n : Nat) (v : V) (T : List (List Int)), vs = [.int (n : Int), v] ∧ n ≤ 6 ∧ Dq H v (tabD T) ∧ TabOk n T ∧ ∀ H' r, Same H H' → Dq H' r (tabD (turnT n T)) → Q r H'
def spTurnB : Sp := fun vs H Q _ => ∃ (n : Nat) (a : Addr) (l : List Nat) (e : List Int), vs = [.ref a] ∧ n ≤ 6 ∧ H a = some (.tup (e.map V.int)) ∧ EntF n l e ∧ ∀ H' t, Same H H' → H' t = some (.tup ((lawE n e).map V.int)) → Q (.ref t) H'
end Kr
namespace Kr
open PySem PySem.Spec PyProof.Rows L2
/-! ### the rounds of a table's riders -/
abbrev Pr := Nat × Nat
def lotI (n i : Nat) : List Nat := (allL n).getD i []
/-- a lot's number, and a place without a key -/
def prs (n : Nat) : List Pr := (List.range (2 ^ n)).flatMap fun i => ((List.range n).filter fun x => !decide (x ∈ lotI n i)).map fun x => (i, x)
def stp (n : Nat) (T : List (List Int)) (p : Pr) : Pr := (num n (goalE n (T.getD p.1 [])), ((T.getD p.1 []).getD p.2 0).toNat)
def itr (S : Pr → Pr) : Nat → Pr → Pr
  | 0, p => p
  | k + 1, p => itr S k (S p)
theorem itr_add (S : Pr → Pr) : ∀ (a b : Nat) (p : Pr), itr S (a + b) p = itr S b (itr S a p)
  | 0, b, p => by rw [Nat.zero_add]; rfl
  | a + 1, b, p => by
    rw [Nat.add_right_comm]
    exact itr_add S a b (S p)
theorem itr_succ (S : Pr → Pr) (k : Nat) (p : Pr) : itr S (k + 1) p = S (itr S k p) := itr_add S k 1 p
theorem itr_fix {S : Pr → Pr} {m : Nat} {p : Pr} (h : itr S m p = p) : ∀ q, itr S (m * q) p = p
  | 0 => rfl
  | q + 1 => by rw [Nat.mul_succ, itr_add, itr_fix h q, h]
theorem mem_prs {n : Nat} {p : Pr} : p ∈ prs n ↔ p.1 < 2 ^ n ∧ p.2 < n ∧ p.2 ∉ lotI n p.1 := by
  unfold prs
  rw [List.mem_flatMap]
  constructor
  · rintro ⟨i, hi, h⟩
    obtain ⟨x, hx, rfl⟩ := List.mem_map.mp h
    obtain ⟨h1, h2⟩ := List.mem_filter.mp hx
    exact ⟨List.mem_range.mp hi, List.mem_range.mp h1, by simpa using h2⟩
  · rintro ⟨h1, h2, h3⟩
    exact ⟨p.1, List.mem_range.mpr h1, List.mem_map.mpr ⟨p.2, List.mem_filter.mpr ⟨List.mem_range.mpr h2, by simpa using h3⟩, rfl⟩⟩
theorem prs_len : ∀ n : Nat, n < 7 → (prs n).length ≤ 192 := by decide +kernel
theorem sub_len {α : Type} [DecidableEq α] : ∀ {C L : List α}, C.Nodup → (∀ x ∈ C, x ∈ L) → C.length ≤ L.length
  | [], _, _, _ => Nat.zero_le _
  | c :: C, L, nd, h => by
    obtain ⟨h1, h2⟩ := List.nodup_cons.mp nd
    have hc := h c List.mem_cons_self
    have := sub_len (L := L.erase c) h2 fun x hx => (List.mem_erase_of_ne (fun (z : x = c) => h1 (by rw [← z]; exact hx))).mpr (h x (List.mem_cons_of_mem _ hx))
    rw [List.length_erase_of_mem hc] at this
    have := List.length_pos_of_mem hc
    rw [List.length_cons]
    omega
section
variable {n : Nat} {T U : List (List Int)}
theorem lot_get (hn : n ≤ 6) {i : Nat} (hi : i < 2 ^ n) : (allL n)[i]? = some (lotI n i) := by
  have : i < (allL n).length := by rw [all_len n (by omega)]; exact hi
  unfold lotI
  rw [List.getD_eq_getElem?_getD, List.getElem?_eq_getElem this]
  rfl
theorem lot_num (hn : n ≤ 6) {i : Nat} (hi : i < 2 ^ n) : num n (lotI n i) = i := (all_num_at hn (lot_get hn hi)).1
theorem lot_mem (hn : n ≤ 6) {i : Nat} (hi : i < 2 ^ n) : lotI n i ∈ allL n := List.mem_of_getElem? (lot_get hn hi)
theorem lot_of_num (hn : n ≤ 6) {l : List Nat} (hl : l ∈ allL n) : lotI n (num n l) = l := by
  have h := all_at hn hl
  unfold lotI
  rw [List.getD_eq_getElem?_getD, h]
  rfl
theorem en_at (hn : n ≤ 6) {i : Nat} (hi : i < 2 ^ n) (T : List (List Int)) : en n T (lotI n i) = T.getD i [] := by
  unfold en
  rw [lot_num hn hi]
theorem TabOk.at_i (hn : n ≤ 6) (h : TabOk n T) {i : Nat} (hi : i < 2 ^ n) : EntF n (lotI n i) (T.getD i []) := by
  rw [← en_at hn hi]
  exact h.ent hn (lot_mem hn hi)
theorem stp_in (hn : n ≤ 6) (h : TabOk n T) {p : Pr} (hp : p ∈ prs n) : stp n T p ∈ prs n := by
  obtain ⟨h1, h2, h3⟩ := mem_prs.mp hp
  have hE := h.at_i hn h1
  have hg := goal_all hn (T.getD p.1 [])
  refine mem_prs.mpr ⟨all_num hn hg, ?_⟩
  show ((T.getD p.1 []).getD p.2 0).toNat < n ∧ ((T.getD p.1 []).getD p.2 0).toNat ∉ lotI n (num n (goalE n (T.getD p.1 [])))
  rw [lot_of_num hn hg]
  exact hE.off h2 h3
theorem stp_inj (hn : n ≤ 6) (h : TabOk n T) {p q : Pr} (hp : p ∈ prs n) (hq : q ∈ prs n) (e : stp n T p = stp n T q) : p = q := by
  obtain ⟨h1, h2, h3⟩ := mem_prs.mp hp
  obtain ⟨g1, g2, g3⟩ := mem_prs.mp hq
  have e1 : num n (goalE n (T.getD p.1 [])) = num n (goalE n (T.getD q.1 [])) := congrArg Prod.fst e
  have e2 : ((T.getD p.1 []).getD p.2 0).toNat = ((T.getD q.1 []).getD q.2 0).toNat := congrArg Prod.snd e
  have eg : goalE n (T.getD p.1 []) = goalE n (T.getD q.1 []) := by
    rw [← lot_of_num hn (goal_all hn (T.getD p.1 [])), e1, lot_of_num hn (goal_all hn _)]
  rw [← en_at hn h1, ← en_at hn g1] at eg
  have el := h.gl_inj' hn (lot_mem hn h1) (lot_mem hn g1) eg
  have ei : p.1 = q.1 := by rw [← lot_num hn h1, el, lot_num hn g1]
  have hE := h.at_i hn h1
  rw [← ei] at e2 g3
  have r1 := hE.rid p.2 h2 h3
  have r2 := hE.rid q.2 g2 g3
  have := hE.inj p.2 q.2 h2 g2 h3 g3 (by omega)
  exact Prod.ext ei this
theorem itr_in (hn : n ≤ 6) (h : TabOk n T) : ∀ (k : Nat) {p : Pr}, p ∈ prs n → itr (stp n T) k p ∈ prs n
  | 0, _, hp => hp
  | k + 1, _, hp => itr_in hn h k (stp_in hn h hp)
theorem itr_inj (hn : n ≤ 6) (h : TabOk n T) : ∀ (k : Nat) {p q : Pr}, p ∈ prs n → q ∈ prs n → itr (stp n T) k p = itr (stp n T) k q → p = q
  | 0, _, _, _, _, e => e
  | k + 1, _, _, hp, hq, e => stp_inj hn h hp hq (itr_inj hn h k (stp_in hn h hp) (stp_in hn h hq) e)
end
/-! ### rounds -/
structure Cyc (S : Pr → Pr) (C : List Pr) : Prop where
  ne : 0 < C.length
  nd : C.Nodup
  st : ∀ i p, C[i]? = some p → C[(i + 1) % C.length]? = some (S p)
theorem Cyc.at_ {S : Pr → Pr} {C : List Pr} (h : Cyc S C) : ∀ (k i : Nat) (p : Pr), C[i]? = some p → C[(i + k) % C.length]? = some (itr S k p)
  | 0, i, p, e => by
    have := (List.getElem?_eq_some_iff.mp e).1
    rw [Nat.add_zero, Nat.mod_eq_of_lt this]
    exact e
  | k + 1, i, p, e => by
    have := h.at_ k _ _ (h.st i p e)
    rw [Nat.mod_add_mod] at this
    rw [show i + (k + 1) = i + 1 + k by omega]
    exact this
theorem nd_ix {α : Type} {C : List α} (nd : C.Nodup) {i j : Nat} {x : α} (hi : C[i]? = some x) (hj : C[j]? = some x) : i = j := by
  obtain ⟨a1, a2⟩ := List.getElem?_eq_some_iff.mp hi
  obtain ⟨b1, b2⟩ := List.getElem?_eq_some_iff.mp hj
  have pw : C.Pairwise (· ≠ ·) := nd
  rw [List.pairwise_iff_getElem] at pw
  rcases Nat.lt_trichotomy i j with c | c | c
  · exact absurd (a2.trans b2.symm) (pw i j a1 b1 c)
  · exact c
  · exact absurd (b2.trans a2.symm) (pw j i b1 a1 c)
theorem Cyc.fix {S : Pr → Pr} {C : List Pr} (h : Cyc S C) {p : Pr} (hp : p ∈ C) (m : Nat) : itr S m p = p ↔ C.length ∣ m := by
  obtain ⟨i, hi⟩ := List.getElem?_of_mem hp
  have hl := (List.getElem?_eq_some_iff.mp hi).1
  have e := h.at_ m i p hi
  constructor
  · intro z
    rw [z] at e
    have e1 := nd_ix h.nd e hi
    have e2 : (i + m) % C.length = i % C.length := by rw [e1, Nat.mod_eq_of_lt hl]
    have := (Nat.sub_mod_eq_zero_of_mod_eq e2)
    rw [Nat.add_sub_cancel_left] at this
    exact Nat.dvd_of_mod_eq_zero this
  · rintro ⟨q, rfl⟩
    rw [Nat.add_mul_mod_self_left, Nat.mod_eq_of_lt hl, hi] at e
    exact (Option.some.inj e).symm
/-! ### any number of times -/
def fac : Nat → Nat
  | 0 => 1
  | n + 1 => (n + 1) * fac n
theorem fac_pos : ∀ n, 0 < fac n
  | 0 => Nat.one_pos
  | n + 1 => Nat.mul_pos (Nat.succ_pos n) (fac_pos n)
theorem dvd_fac {m : Nat} (h0 : 0 < m) : ∀ {n : Nat}, m ≤ n → m ∣ fac n
  | 0, h => absurd h0 (by omega)
  | n + 1, h => by
    unfold fac
    by_cases e : m = n + 1
    · rw [e]
      exact Nat.dvd_mul_right _ _
    · exact Nat.dvd_mul_left_of_dvd (dvd_fac h0 (by omega)) _
def bigN : Nat := fac 192
theorem bigN_pos : 0 < bigN := fac_pos _
theorem dvd_big {m : Nat} (h0 : 0 < m) (h : m ≤ 192) : m ∣ bigN := dvd_fac h0 h
def powS (S : Pr → Pr) (k : Int) (p : Pr) : Pr := itr S (k % (bigN : Int)).toNat p
theorem mod_big {m : Nat} (hm : m ∣ bigN) (s : Nat) (k : Int) : (((s : Int) + k) % (m : Int)).toNat = (s + (k % (bigN : Int)).toNat) % m := by
  have hb : (0 : Int) < bigN := by have := bigN_pos; omega
  have h0 := Int.emod_nonneg k (show (bigN : Int) ≠ 0 by omega)
  have e1 : (((k % (bigN : Int)).toNat : Nat) : Int) = k % (bigN : Int) := Int.toNat_of_nonneg h0
  have hd : (m : Int) ∣ (bigN : Int) := Int.natCast_dvd_natCast.mpr hm
  have e2 : (k % (bigN : Int)) % (m : Int) = k % (m : Int) := Int.emod_emod_of_dvd k hd
  have e3 : (((s + (k % (bigN : Int)).toNat) % m : Nat) : Int) = ((s : Int) + k) % (m : Int) := by
    rw [Int.natCast_emod, Int.natCast_add, e1, Int.add_emod, e2, ← Int.add_emod]
  rw [← e3, Int.toNat_natCast]
theorem Cyc.pow {S : Pr → Pr} {C : List Pr} (h : Cyc S C) (hl : C.length ≤ 192) {s : Nat} {p : Pr} (hp : C[s]? = some p) (k : Int) : C[(((s : Int) + k) % (C.length : Int)).toNat]? = some (powS S k p) := by
  rw [mod_big (dvd_big h.ne hl)]
  exact h.at_ _ _ _ hp
section
variable {n : Nat} {T U : List (List Int)}
/-- each rider comes back -/
theorem itr_back (hn : n ≤ 6) (h : TabOk n T) {p : Pr} (hp : p ∈ prs n) : ∃ m, 0 < m ∧ m ≤ 192 ∧ itr (stp n T) m p = p := by
  apply Classical.byContradiction
  intro hno
  have ne : ∀ i j, i < j → j < 193 → itr (stp n T) i p ≠ itr (stp n T) j p := fun i j hij hj e => by
    rw [show j = (j - i) + i by omega, itr_add] at e
    exact hno ⟨j - i, by omega, by omega, (itr_inj hn h i hp (itr_in hn h _ hp) e).symm⟩
  have nd : ((List.range 193).map fun i => itr (stp n T) i p).Nodup := by
    show List.Pairwise (· ≠ ·) _
    rw [List.pairwise_map]
    exact List.Pairwise.imp_of_mem (fun {a b} ha hb hab => ne a b hab (List.mem_range.mp hb)) List.pairwise_lt_range
  have := sub_len nd fun x hx => by
    obtain ⟨i, _, rfl⟩ := List.mem_map.mp hx
    exact itr_in hn h i hp
  rw [List.length_map, List.length_range] at this
  have := prs_len n (by omega)
  omega
theorem itr_big (hn : n ≤ 6) (h : TabOk n T) {p : Pr} (hp : p ∈ prs n) : itr (stp n T) bigN p = p := by
  obtain ⟨m, m0, m1, e⟩ := itr_back hn h hp
  obtain ⟨q, hq⟩ := dvd_big m0 m1
  rw [hq]
  exact itr_fix e q
theorem itr_mod (hn : n ≤ 6) (h : TabOk n T) {p : Pr} (hp : p ∈ prs n) (m : Nat) : itr (stp n T) (m % bigN) p = itr (stp n T) m p := by
  have e := Nat.div_add_mod m bigN
  have : itr (stp n T) m p = itr (stp n T) (bigN * (m / bigN) + m % bigN) p := by rw [e]
  rw [this, itr_add, itr_fix (itr_big hn h hp)]
theorem powS_nat (hn : n ≤ 6) (h : TabOk n T) {p : Pr} (hp : p ∈ prs n) (m : Nat) : powS (stp n T) (m : Int) p = itr (stp n T) m p := by
  unfold powS
  rw [← Int.natCast_emod, Int.toNat_natCast, itr_mod hn h hp]
theorem powS_in (hn : n ≤ 6) (h : TabOk n T) {p : Pr} (hp : p ∈ prs n) (k : Int) : powS (stp n T) k p ∈ prs n := itr_in hn h _ hp
theorem powS_add (hn : n ≤ 6) (h : TabOk n T) {p : Pr} (hp : p ∈ prs n) (k l : Int) : powS (stp n T) l (powS (stp n T) k p) = powS (stp n T) (k + l) p := by
  unfold powS
  rw [← itr_add]
  have hb : (0 : Int) < bigN := by have := bigN_pos; omega
  have h1 := Int.emod_nonneg k (show (bigN : Int) ≠ 0 by omega)
  have h2 := Int.emod_nonneg l (show (bigN : Int) ≠ 0 by omega)
  rw [← itr_mod hn h hp]
  congr 1
  have e : ((((k % (bigN : Int)).toNat + (l % (bigN : Int)).toNat) % bigN : Nat) : Int) = (k + l) % (bigN : Int) := by
    rw [Int.natCast_emod, Int.natCast_add, Int.toNat_of_nonneg h1, Int.toNat_of_nonneg h2, ← Int.add_emod]
  rw [← e, Int.toNat_natCast]
/-- a table of where its riders go -/
def tabF (n : Nat) (f : Pr → Nat) : List (List Int) := (List.range (2 ^ n)).map fun i => (List.range n).map fun x => if (i, x) ∈ prs n then (f (i, x) : Int) else -1
def powT (n : Nat) (T : List (List Int)) (k : Int) : List (List Int) := tabF n fun p => (powS (stp n T) k p).2
theorem tabF_congr {f g : Pr → Nat} (h : ∀ p ∈ prs n, f p = g p) : tabF n f = tabF n g := by
  unfold tabF
  refine List.map_congr_left fun i _ => List.map_congr_left fun x _ => ?_
  by_cases c : (i, x) ∈ prs n
  · rw [if_pos c, if_pos c, h _ c]
  · rw [if_neg c, if_neg c]
theorem tab_stp (hn : n ≤ 6) (h : TabOk n T) : T = tabF n fun p => (stp n T p).2 := by
  have hl := h.len hn
  refine List.ext_getElem? fun i => ?_
  unfold tabF
  rw [List.getElem?_map]
  by_cases hi : i < 2 ^ n
  · rw [List.getElem?_range hi]
    have hE := h.at_i hn hi
    have e1 : T[i]? = some (T.getD i []) := by rw [List.getD_eq_getElem?_getD, List.getElem?_eq_getElem (by omega)]; rfl
    rw [e1]
    refine congrArg some (list_ext hE.len (by rw [List.length_map, List.length_range]) fun x hx => ?_)
    rw [map_getD_lt (d := 0) (by rw [List.length_range]; exact hx), show (List.range n).getD x 0 = x by rw [List.getD_eq_getElem?_getD, List.getElem?_range hx]; rfl]
    by_cases c : x ∈ lotI n i
    · rw [if_neg fun z => (mem_prs.mp z).2.2 c]
      exact hE.key x hx c
    · rw [if_pos (mem_prs.mpr ⟨hi, hx, c⟩)]
      have := hE.rid x hx c
      show _ = (((T.getD i []).getD x 0).toNat : Int)
      omega
  · rw [List.getElem?_eq_none (by omega), List.getElem?_eq_none (by rw [List.length_range]; omega)]
    rfl
theorem stp_ext (hn : n ≤ 6) (h : TabOk n T) (g : TabOk n U) (e : ∀ p ∈ prs n, stp n T p = stp n U p) : T = U := by
  rw [tab_stp hn h, tab_stp hn g]
  exact tabF_congr fun p hp => by rw [e p hp]
theorem stp_still (hn : n ≤ 6) {p : Pr} (hp : p ∈ prs n) : stp n (stillT n) p = p := by
  obtain ⟨h1, h2, h3⟩ := mem_prs.mp hp
  have e : (stillT n).getD p.1 [] = byE (lotI n p.1) (ups n) := by rw [← en_at hn h1, en_still hn (lot_mem hn h1)]
  unfold stp
  rw [e, goal_ups (all_ascL hn _ (lot_mem hn h1)), lot_num hn h1, byE_at (by rw [ups_len]; exact h2), if_neg h3, ups_at h2, Int.toNat_natCast]
theorem stp_both (hn : n ≤ 6) (h : TabOk n T) (g : TabOk n U) {p : Pr} (hp : p ∈ prs n) : stp n (bothT n T U) p = stp n U (stp n T p) := by
  obtain ⟨h1, h2, h3⟩ := mem_prs.mp hp
  have hl := lot_mem hn h1
  have hE := h.at_i hn h1
  have hg := goal_all hn (T.getD p.1 [])
  have hEu := g.ent hn hg
  have e : (bothT n T U).getD p.1 [] = cmpE (T.getD p.1 []) (en n U (goalE n (T.getD p.1 []))) := by
    rw [← en_at hn h1, en_both hn h hl, en_at hn h1]
  have eu : U.getD (num n (goalE n (T.getD p.1 []))) [] = en n U (goalE n (T.getD p.1 [])) := rfl
  have r := hE.rid p.2 h2 h3
  unfold stp
  rw [e, (hE.cmp hEu).2, cmp_at (by rw [hE.len]; exact h2), if_neg (by omega)]
  show _ = (num n (goalE n (U.getD (num n (goalE n (T.getD p.1 []))) [])), ((U.getD (num n (goalE n (T.getD p.1 []))) []).getD ((T.getD p.1 []).getD p.2 0).toNat 0).toNat)
  rw [eu]
def itT (n : Nat) (T : List (List Int)) : Nat → List (List Int)
  | 0 => stillT n
  | k + 1 => bothT n (itT n T k) T
theorem itT_ok (hn : n ≤ 6) (h : TabOk n T) : ∀ k, TabOk n (itT n T k)
  | 0 => still_ok hn
  | k + 1 => (itT_ok hn h k).both hn h
theorem stp_itT (hn : n ≤ 6) (h : TabOk n T) : ∀ (k : Nat) {p : Pr}, p ∈ prs n → stp n (itT n T k) p = itr (stp n T) k p
  | 0, _, hp => stp_still hn hp
  | k + 1, _, hp => by
    rw [itr_succ, ← stp_itT hn h k hp]
    exact stp_both hn (itT_ok hn h k) h hp
theorem powT_it (hn : n ≤ 6) (h : TabOk n T) (k : Int) : powT n T k = itT n T (k % (bigN : Int)).toNat := by
  rw [tab_stp hn (itT_ok hn h _)]
  exact tabF_congr fun p hp => by rw [stp_itT hn h _ hp]; rfl
theorem powT_ok (hn : n ≤ 6) (h : TabOk n T) (k : Int) : TabOk n (powT n T k) := by rw [powT_it hn h]; exact itT_ok hn h _
theorem stp_powT (hn : n ≤ 6) (h : TabOk n T) (k : Int) {p : Pr} (hp : p ∈ prs n) : stp n (powT n T k) p = powS (stp n T) k p := by rw [powT_it hn h, stp_itT hn h _ hp]; rfl
theorem powT_add (hn : n ≤ 6) (h : TabOk n T) (k l : Int) : bothT n (powT n T k) (powT n T l) = powT n T (k + l) := by
  refine stp_ext hn ((powT_ok hn h k).both hn (powT_ok hn h l)) (powT_ok hn h _) fun p hp => ?_
  rw [stp_both hn (powT_ok hn h k) (powT_ok hn h l) hp, stp_powT hn h k hp, stp_powT hn h l (powS_in hn h hp k), stp_powT hn h _ hp, powS_add hn h hp]
theorem powT_one (hn : n ≤ 6) (h : TabOk n T) : powT n T 1 = T := by
  refine stp_ext hn (powT_ok hn h 1) h fun p hp => ?_
  rw [stp_powT hn h 1 hp, show (1 : Int) = ((1 : Nat) : Int) from rfl, powS_nat hn h hp]
  rfl
theorem powT_succ (hn : n ≤ 6) (h : TabOk n T) (k : Int) : bothT n (powT n T k) T = powT n T (k + 1) := by
  have := powT_add hn h k 1
  rw [powT_one hn h] at this
  exact this
/-! ### the order -/
structure Rounds (n : Nat) (S : Pr → Pr) (CL : List (List Pr)) : Prop where
  cyc : ∀ C ∈ CL, Cyc S C
  sub : ∀ C ∈ CL, ∀ p ∈ C, p ∈ prs n
  all : ∀ p ∈ prs n, ∃ C ∈ CL, p ∈ C
theorem Rounds.len {S : Pr → Pr} {CL : List (List Pr)} (hn : n ≤ 6) (h : Rounds n S CL) {C : List Pr} (hC : C ∈ CL) : C.length ≤ 192 := Nat.le_trans (sub_len (h.cyc C hC).nd (h.sub C hC)) (prs_len n (by omega))
structure IsOrd (n : Nat) (S : Pr → Pr) (o : Nat) : Prop where
  pos : 0 < o
  dvd : ∀ m : Nat, (∀ p ∈ prs n, itr S m p = p) ↔ o ∣ m
theorem IsOrd.uniq {S : Pr → Pr} {a b : Nat} (h : IsOrd n S a) (g : IsOrd n S b) : a = b :=
  Nat.dvd_antisymm ((h.dvd b).mp ((g.dvd b).mpr (Nat.dvd_refl b))) ((g.dvd a).mp ((h.dvd a).mpr (Nat.dvd_refl a)))
def lcmL (ls : List Nat) : Nat := ls.foldl Nat.lcm 1
theorem lcm_fold : ∀ (ls : List Nat) (a m : Nat), ls.foldl Nat.lcm a ∣ m ↔ a ∣ m ∧ ∀ l ∈ ls, l ∣ m
  | [], a, m => by simp
  | l :: ls, a, m => by
    rw [List.foldl_cons, lcm_fold ls]
    constructor
    · rintro ⟨h1, h2⟩
      refine ⟨Nat.dvd_trans (Nat.dvd_lcm_left a l) h1, fun x hx => ?_⟩
      rcases List.mem_cons.mp hx with rfl | hx
      · exact Nat.dvd_trans (Nat.dvd_lcm_right a _) h1
      · exact h2 x hx
    · rintro ⟨h1, h2⟩
      exact ⟨Nat.lcm_dvd h1 (h2 l List.mem_cons_self), fun x hx => h2 x (List.mem_cons_of_mem _ hx)⟩
theorem lcm_fold_pos : ∀ (ls : List Nat) (a : Nat), 0 < a → (∀ l ∈ ls, 0 < l) → 0 < ls.foldl Nat.lcm a
  | [], a, h, _ => h
  | l :: ls, a, h, g => lcm_fold_pos ls _ (Nat.lcm_pos h (g l List.mem_cons_self)) fun x hx => g x (List.mem_cons_of_mem _ hx)
theorem Rounds.ord {S : Pr → Pr} {CL : List (List Pr)} (h : Rounds n S CL) : IsOrd n S (lcmL (CL.map List.length)) := by
  refine ⟨lcm_fold_pos _ _ Nat.one_pos fun l hl => ?_, fun m => ?_⟩
  · obtain ⟨C, hC, rfl⟩ := List.mem_map.mp hl
    exact (h.cyc C hC).ne
  · unfold lcmL
    rw [lcm_fold]
    constructor
    · intro k
      refine ⟨Nat.one_dvd m, fun l hl => ?_⟩
      obtain ⟨C, hC, rfl⟩ := List.mem_map.mp hl
      have c := h.cyc C hC
      have hx : C[0]'c.ne ∈ C := List.getElem_mem c.ne
      exact (c.fix hx m).mp (k _ (h.sub C hC _ hx))
    · rintro ⟨_, k⟩ p hp
      obtain ⟨C, hC, hpC⟩ := h.all p hp
      exact ((h.cyc C hC).fix hpC m).mpr (k _ (List.mem_map.mpr ⟨C, hC, rfl⟩))
theorem pow_calm (hn : n ≤ 6) (h : TabOk n T) {o : Nat} (ho : IsOrd n (stp n T) o) (m : Nat) : powT n T (m : Int) = stillT n ↔ o ∣ m := by
  rw [← ho.dvd m]
  constructor
  · intro e p hp
    rw [← powS_nat hn h hp, ← stp_powT hn h _ hp, e, stp_still hn hp]
  · intro k
    refine stp_ext hn (powT_ok hn h _) (still_ok hn) fun p hp => ?_
    rw [stp_powT hn h _ hp, powS_nat hn h hp, stp_still hn hp, k p hp]
end
end Kr
namespace Kr
/-! a term kept within narrower bounds keeps the wider ones -/
mutual
theorem okTm_mono {D D' : Mv → Prop} {r r' k k' : Nat} (hD : ∀ d, D d → D' d) (hr : r ≤ r') (hk : k ≤ k') : ∀ t : Tm, okTm D r k t → okTm D' r' k' t
  | .doo d, h => by
    simp only [okTm] at h ⊢
    exact hD d h
  | .part j, h => by
    simp only [okTm] at h ⊢
    exact Nat.lt_of_lt_of_le h hk
  | .row ts, h => by
    simp only [okTm] at h ⊢
    exact ⟨Nat.le_trans h.1 hr, okTms_mono hD hr hk ts h.2⟩
  | .back t, h => by
    simp only [okTm] at h ⊢
    exact okTm_mono hD hr hk t h
  | .times t n, h => by
    simp only [okTm] at h ⊢
    exact ⟨h.1, okTm_mono hD hr hk t h.2⟩
theorem okTms_mono {D D' : Mv → Prop} {r r' k k' : Nat} (hD : ∀ d, D d → D' d) (hr : r ≤ r') (hk : k ≤ k') : ∀ ts : List Tm, okTms D r k ts → okTms D' r' k' ts
  | [], _ => by simp [okTms]
  | t :: ts, h => by
    simp only [okTms] at h ⊢
    exact ⟨okTm_mono hD hr hk t h.1, okTms_mono hD hr hk ts h.2⟩
end
end Kr
namespace Kr
open PySem PySem.Spec PyProof.Rows L2
theorem Deed.few {n : Nat} {d : Mv} (h : Deed n d) : d.1.length + 2 ≤ n := by
  have h1 := h.ab
  have h2 := h.bn
  have := sub_len (C := d.2.1 :: d.2.2 :: d.1) (L := List.range n) (List.nodup_cons.mpr ⟨fun z => by
    rcases List.mem_cons.mp z with e | e
    · omega
    · exact h.na e, List.nodup_cons.mpr ⟨h.nb, h.asc.1.imp fun {a b} (q : a < b) => Nat.ne_of_lt q⟩⟩) fun x hx => by
    rw [List.mem_range]
    simp only [List.mem_cons] at hx
    rcases hx with rfl | rfl | hx
    · omega
    · exact h2
    · have := (h.asc.2 x hx).2; omega
  simpa using this
/-! ### how many items stand in a thing -/
mutual
def itm : PyData → Nat
  | .tuple ds => ds.length + itmA ds
  | .none | .bool _ | .int _ | .str _ | .list _ | .dict _ => 0
def itmA : List PyData → Nat
  | [] => 0
  | d :: ds => itm d + itmA ds
end
theorem itmA_map : ∀ ds : List PyData, itmA ds = (ds.map itm).sum
  | [] => rfl
  | d :: ds => by
    simp only [itmA, List.map_cons, List.sum_cons]
    rw [itmA_map ds]
theorem depthAll_le : ∀ {ds : List PyData} {d : PyData}, d ∈ ds → d.depth ≤ PyData.depthAll ds
  | e :: ds, d, h => by
    simp only [PyData.depthAll]
    rcases List.mem_cons.mp h with rfl | h
    · exact Nat.le_max_left _ _
    · exact Nat.le_trans (depthAll_le h) (Nat.le_max_right _ _)
theorem flatTA_mem : ∀ {ds : List PyData}, flatTA ds = true → ∀ d ∈ ds, flatT d = true
  | e :: ds, h, d, hd => by
    have h2 : flatT e = true ∧ flatTA ds = true := by simpa [flatTA] using h
    rcases List.mem_cons.mp hd with rfl | hd
    · exact h2.1
    · exact flatTA_mem h2.2 d hd
theorem kit_tl {K : PySem.W.Frag} {d : PyData} (h : flatT d = true) : PySem.W.kitAny K (.type (tyN d)) [.type "tuple", .type "list"] = some (isTu d) := by
  have h1 := kit_tuple (K := K) d
  cases d with
  | tuple ds => unfold PySem.W.kitAny; rw [h1]; rfl
  | list _ => simp [flatT] at h
  | dict _ => simp [flatT] at h
  | none => unfold PySem.W.kitAny; rw [h1]; simp only [isTu]; unfold PySem.W.kitAny; rw [show PySem.W.kitOne K (.type (tyN .none)) (.type "list") = some false from kit_ty (show kitB "NoneType" "list" = some false by decide +kernel)]; rfl
  | bool _ => unfold PySem.W.kitAny; rw [h1]; simp only [isTu]; unfold PySem.W.kitAny; rw [show PySem.W.kitOne K (.type (tyN (.bool _))) (.type "list") = some false from kit_ty (show kitB "bool" "list" = some false by decide +kernel)]; rfl
  | int _ => unfold PySem.W.kitAny; rw [h1]; simp only [isTu]; unfold PySem.W.kitAny; rw [show PySem.W.kitOne K (.type (tyN (.int _))) (.type "list") = some false from kit_ty (show kitB "int" "list" = some false by decide +kernel)]; rfl
  | str _ => unfold PySem.W.kitAny; rw [h1]; simp only [isTu]; unfold PySem.W.kitAny; rw [show PySem.W.kitOne K (.type (tyN (.str _))) (.type "list") = some false from kit_ty (show kitB "str" "list" = some false by decide +kernel)]; rfl
mutual
/-- tuples of at most m items -/
def widT (m : Nat) : PyData → Bool
  | .tuple xs => decide (xs.length ≤ m) && widTA m xs
  | .none | .bool _ | .int _ | .str _ | .list _ | .dict _ => true
def widTA (m : Nat) : List PyData → Bool
  | [] => true
  | x :: xs => widT m x && widTA m xs
end
theorem widTA_mem {m : Nat} : ∀ {ds : List PyData}, widTA m ds = true → ∀ d ∈ ds, widT m d = true
  | e :: ds, h, d, hd => by
    have h2 : widT m e = true ∧ widTA m ds = true := by simpa [widTA] using h
    rcases List.mem_cons.mp hd with rfl | hd
    · exact h2.1
    · exact widTA_mem h2.2 d hd
/-! ### what few items show -/
mutual
/-- numbers and texts of few signs -/
def lowT : PyData → Bool
  | .none | .bool _ => true
  | .int i => decide (i.natAbs < 2 ^ 100)
  | .str x => (x.cps.toList.all fun c => decide (c < 16 ^ 8)) && decide (x.length ≤ 100)
  | .tuple xs => lowTA xs
  | .list _ | .dict _ => false
def lowTA : List PyData → Bool
  | [] => true
  | x :: xs => lowT x && lowTA xs
end
theorem low_leaf {d : PyData} (h : lowT d = true) (hn : isTu d = false) : Sm 1 100 d := by
  cases d with
  | none => exact ⟨rfl, rfl, by simp [PyData.depth], by simp [PyData.weight]⟩
  | bool b => exact ⟨rfl, rfl, by simp [PyData.depth], by simp [PyData.weight]⟩
  | int i =>
    have hi : i.natAbs < 2 ^ 100 := by simpa [lowT] using h
    have a := Sm.int (i := i) (Nat.lt_of_lt_of_le hi (by decide))
    refine ⟨a.sh, a.ls, a.dp, ?_⟩
    simp only [PyData.weight]
    split
    · omega
    · rename_i h0
      have h1 : i.natAbs ≠ 0 := fun z => h0 (by simp; omega)
      have : i.natAbs.log2 < 100 := (Nat.log2_lt h1).mpr hi
      omega
  | str x =>
    have hx : (x.cps.toList.all fun c => decide (c < 16 ^ 8)) = true ∧ x.length ≤ 100 := by simpa [lowT] using h
    exact .strm hx.1 hx.2
  | tuple _ => simp [isTu] at hn
  | list _ => simp [lowT] at h
  | dict _ => simp [lowT] at h
theorem low_isTu {d : PyData} (h : isTu d = true) : ∃ ds, d = .tuple ds := by
  cases d with
  | tuple ds => exact ⟨ds, rfl⟩
  | _ => exact absurd h (by simp [isTu])
mutual
theorem low_sm : ∀ d : PyData, lowT d = true → d.showable = true ∧ d.leavesShort 41 = true ∧ (isTu d = true → d.weight ≤ 101 * itm d) ∧ d.weight ≤ 101 * itm d + 100
  | .none, _ => by simp [PyData.showable, PyData.leavesShort, PyData.weight, isTu]
  | .bool _, _ => by simp [PyData.showable, PyData.leavesShort, PyData.weight, isTu]
  | .int i, h => by
    have a := low_leaf h rfl
    have := a.wt
    exact ⟨a.sh, a.ls, fun z => by simp [isTu] at z, by omega⟩
  | .str x, h => by
    have a := low_leaf h rfl
    have := a.wt
    exact ⟨a.sh, a.ls, fun z => by simp [isTu] at z, by omega⟩
  | .tuple xs, h => by
    simp only [lowT] at h
    obtain ⟨h1, h2, h3⟩ := lowA_sm xs h
    refine ⟨by simpa [PyData.showable] using h1, by simpa [PyData.leavesShort] using h2, fun _ => ?_, ?_⟩
    · simp only [PyData.weight, itm]
      omega
    · simp only [PyData.weight, itm]
      omega
  | .list _, h => by simp [lowT] at h
  | .dict _, h => by simp [lowT] at h
theorem lowA_sm : ∀ ds : List PyData, lowTA ds = true → PyData.showableAll ds = true ∧ PyData.leavesShortAll 41 ds = true ∧ PyData.weightAll ds ≤ 101 * (ds.length + itmA ds)
  | [], _ => by simp [PyData.showableAll, PyData.leavesShortAll, PyData.weightAll]
  | d :: ds, h => by
    have h2 : lowT d = true ∧ lowTA ds = true := by simpa [lowTA] using h
    obtain ⟨a1, a2, _, a4⟩ := low_sm d h2.1
    obtain ⟨b1, b2, b3⟩ := lowA_sm ds h2.2
    refine ⟨by simp [PyData.showableAll, a1, b1], by simp [PyData.leavesShortAll, a2, b2], ?_⟩
    simp only [PyData.weightAll, itmA, List.length_cons]
    omega
end
theorem sm_low {d : PyData} {k m : Nat} (h : lowT d = true) (ht : isTu d = true) (hk : d.depth ≤ k) (hm : itm d ≤ m) : Sm k (101 * m) d := by
  obtain ⟨h1, h2, h3, _⟩ := low_sm d h
  exact ⟨h1, h2, hk, Nat.le_trans (h3 ht) (Nat.mul_le_mul_left _ hm)⟩
/-- terms -/
theorem low_lot {l : List Nat} (h : ∀ x ∈ l, x < 24) : lowT (lotD l) = true := by
  have : ∀ l : List Nat, (∀ x ∈ l, x < 24) → lowTA (l.map fun x : Nat => PyData.int (x : Int)) = true := by
    intro l
    induction l with
    | nil => intro _; rfl
    | cons x l ih =>
      intro h
      have hx := h x List.mem_cons_self
      simp only [List.map_cons, lowTA, lowT, ih fun y hy => h y (List.mem_cons_of_mem _ hy), Bool.and_true, decide_eq_true_eq, Int.natAbs_natCast]
      exact Nat.lt_trans hx (by decide)
  simp only [lotD, lowT]
  exact this l h
theorem low_deed {n : Nat} (hn : n ≤ 24) {d : Mv} (h : Deed n d) : lowT (deedD d) = true := by
  have h1 := h.ab
  have h2 := h.bn
  have h3 := low_lot (l := d.1) fun x hx => by have := (h.asc.2 x hx).2; omega
  simp only [deedD, lowT, lowTA, h3, Bool.true_and, Bool.and_true, Int.natAbs_natCast, Bool.and_eq_true, decide_eq_true_eq]
  exact ⟨Nat.lt_trans (by omega : d.2.1 < 24) (by decide), Nat.lt_trans (by omega : d.2.2 < 24) (by decide)⟩
mutual
theorem low_tm {n r k : Nat} (hn : n ≤ 24) (hk : k ≤ 400) : ∀ t : Tm, okTm (Deed n) r k t → lowT (tmD t) = true
  | .doo d, h => by
    simp only [okTm] at h
    simp only [tmD, lowT, lowTA, low_deed hn h]
    decide +kernel
  | .part j, h => by
    simp only [okTm] at h
    simp only [tmD, lowT, lowTA, Int.natAbs_natCast]
    rw [decide_eq_true (show j < 2 ^ 100 from Nat.lt_trans (by omega : j < 400) (by decide))]
    decide +kernel
  | .row ts, h => by
    simp only [okTm] at h
    simp only [tmD, lowT, lowTA, low_tms hn hk ts h.2]
    decide +kernel
  | .back t, h => by
    simp only [okTm] at h
    simp only [tmD, lowT, lowTA, low_tm hn hk t h]
    decide +kernel
  | .times t m, h => by
    simp only [okTm] at h
    simp only [tmD, lowT, lowTA, low_tm hn hk t h.2, Int.natAbs_natCast]
    rw [decide_eq_true (show m < 2 ^ 100 from Nat.lt_of_le_of_lt h.1 (by decide +kernel))]
    decide +kernel
theorem low_tms {n r k : Nat} (hn : n ≤ 24) (hk : k ≤ 400) : ∀ ts : List Tm, okTms (Deed n) r k ts → lowTA (tmDs ts) = true
  | [], _ => rfl
  | t :: ts, h => by
    simp only [okTms] at h
    simp only [tmDs, lowTA, low_tm hn hk t h.1, low_tms hn hk ts h.2]
    rfl
end
mutual
theorem wid_tm {n r k : Nat} (hn : n ≤ 24) (hr : r ≤ 400) : ∀ t : Tm, okTm (Deed n) r k t → widT 400 (tmD t) = true
  | .doo d, h => by
    simp only [okTm] at h
    have h1 := h.few
    have h2 : ∀ l : List Nat, widTA 400 (l.map fun x : Nat => PyData.int (x : Int)) = true := by
      intro l
      induction l with
      | nil => rfl
      | cons x l ih => simp only [List.map_cons, widTA, widT, ih]; rfl
    have h3 : widT 400 (lotD d.1) = true := by
      simp only [lotD, widT, h2, List.length_map, Bool.and_true, decide_eq_true_eq]
      omega
    simp only [tmD, deedD, widT, widTA, h3]
    rfl
  | .part j, h => by simp only [tmD, widT, widTA]; rfl
  | .row ts, h => by
    simp only [okTm] at h
    have h1 : (tmDs ts).length = ts.length := by rw [tmDs_map, List.length_map]
    simp only [tmD, widT, widTA, wid_tms hn hr ts h.2, h1]
    rw [decide_eq_true (show ts.length ≤ 400 by omega)]
    rfl
  | .back t, h => by
    simp only [okTm] at h
    simp only [tmD, widT, widTA, wid_tm hn hr t h]
    rfl
  | .times t m, h => by
    simp only [okTm] at h
    simp only [tmD, widT, widTA, wid_tm hn hr t h.2]
    rfl
theorem wid_tms {n r k : Nat} (hn : n ≤ 24) (hr : r ≤ 400) : ∀ ts : List Tm, okTms (Deed n) r k ts → widTA 400 (tmDs ts) = true
  | [], _ => rfl
  | t :: ts, h => by
    simp only [okTms] at h
    simp only [tmDs, widTA, wid_tm hn hr t h.1, wid_tms hn hr ts h.2]
    rfl
end
theorem lot_depth (l : List Nat) : (lotD l).depth ≤ 1 := by
  have : ∀ l : List Nat, PyData.depthAll (l.map fun x : Nat => PyData.int (x : Int)) = 0 := by
    intro l
    induction l with
    | nil => rfl
    | cons x l ih => simp only [List.map_cons, PyData.depthAll, PyData.depth, ih]; rfl
  simp only [lotD, PyData.depth, this]
  omega
mutual
theorem tm_depth : ∀ t : Tm, (tmD t).depth ≤ 2 * dep t + 1
  | .doo d => by
    have := lot_depth d.1
    simp only [tmD, deedD, PyData.depth, PyData.depthAll, dep]
    omega
  | .part j => by simp only [tmD, PyData.depth, PyData.depthAll, dep]; omega
  | .row ts => by
    have := tms_depth ts
    simp only [tmD, PyData.depth, PyData.depthAll, dep]
    omega
  | .back t => by
    have := tm_depth t
    simp only [tmD, PyData.depth, PyData.depthAll, dep]
    omega
  | .times t k => by
    have := tm_depth t
    simp only [tmD, PyData.depth, PyData.depthAll, dep]
    omega
theorem tms_depth : ∀ ts : List Tm, PyData.depthAll (tmDs ts) ≤ 2 * depL ts + 1
  | [] => by simp [tmDs, PyData.depthAll]
  | t :: ts => by
    have h1 := tm_depth t
    have h2 := tms_depth ts
    simp only [tmDs, PyData.depthAll, depL]
    omega
end
end Kr
namespace Kr
open PySem PySem.Spec PyProof.Rows L2
/-- the data of a term: of deeds of n places, rows of at most r terms, behind k others, at most m deep, of at most c items -/
def IsTm (n r k m c : Nat) (d : PyData) : Prop := ∃ t, d = tmD t ∧ okTm (Deed n) r k t ∧ dep t ≤ m ∧ itm (tmD t) ≤ c
theorem lot_itm (l : List Nat) : itm (lotD l) = l.length := by
  have : ∀ l : List Nat, itmA (l.map fun x : Nat => PyData.int (x : Int)) = 0 := by
    intro l
    induction l with
    | nil => rfl
    | cons x l ih => simp only [List.map_cons, itmA, itm, ih]
  simp only [lotD, itm, this, List.length_map]
  rfl
theorem deed_itm {n : Nat} (hn : n ≤ 24) {d : Mv} (h : Deed n d) : itm (deedD d) ≤ 25 := by
  have h1 := h.few
  have h2 := lot_itm d.1
  simp only [deedD, itm, itmA, h2, List.length_cons, List.length_nil]
  omega
theorem tm_do {n r k m : Nat} (hn : n ≤ 24) {d : Mv} (h : Deed n d) : IsTm n r k (m + 1) 27 (.tuple [.str "do", deedD d]) := ⟨.doo d, by simp only [tmD], by simp only [okTm]; exact h, by simp only [dep]; omega, by
  have := deed_itm hn h
  simp only [tmD, itm, itmA, List.length_cons, List.length_nil]
  omega⟩
theorem tm_part {n r k m : Nat} {i : Int} (h0 : 0 ≤ i) (h : i < k) : IsTm n r k (m + 1) 2 (.tuple [.str "part", .int i]) := ⟨.part i.toNat, by simp only [tmD]; rw [Int.toNat_of_nonneg h0], by simp only [okTm]; omega, by simp only [dep]; omega, by
  simp only [tmD, itm, itmA, List.length_cons, List.length_nil]
  omega⟩
theorem tm_back {n r k m c : Nat} {d : PyData} (h : IsTm n r k m c d) : IsTm n r k (m + 1) (c + 2) (.tuple [.str "back", d]) := by
  obtain ⟨t, rfl, h1, h2, h3⟩ := h
  exact ⟨.back t, by simp only [tmD], by simp only [okTm]; exact h1, by simp only [dep]; omega, by
    simp only [tmD, itm, itmA, List.length_cons, List.length_nil]
    omega⟩
theorem tm_times {n r k m c : Nat} {d : PyData} {i : Int} (h : IsTm n r k m c d) (h0 : 0 ≤ i) (hi : i ≤ 10 ^ 30) : IsTm n r k (m + 1) (c + 3) (.tuple [.str "times", d, .int i]) := by
  obtain ⟨t, rfl, h1, h2, h3⟩ := h
  refine ⟨.times t i.toNat, by simp only [tmD]; rw [Int.toNat_of_nonneg h0], ?_, by simp only [dep]; omega, by
    simp only [tmD, itm, itmA, List.length_cons, List.length_nil]
    omega⟩
  simp only [okTm]
  exact ⟨by omega, h1⟩
theorem tm_list {n r k m c : Nat} : ∀ {ds : List PyData}, (∀ d ∈ ds, IsTm n r k m c d) → ∃ ts, ds = tmDs ts ∧ okTms (Deed n) r k ts ∧ depL ts ≤ m ∧ ts.length = ds.length ∧ itmA (tmDs ts) ≤ ds.length * c
  | [], _ => ⟨[], rfl, by simp [okTms], by simp [depL], rfl, by simp [tmDs, itmA]⟩
  | d :: ds, h => by
    obtain ⟨t, rfl, h1, h2, h6⟩ := h d List.mem_cons_self
    obtain ⟨ts, rfl, h3, h4, h5, h7⟩ := tm_list fun x hx => h x (List.mem_cons_of_mem _ hx)
    refine ⟨t :: ts, by simp only [tmDs], ?_, ?_, by simp [h5], ?_⟩
    · simp only [okTms]
      exact ⟨h1, h3⟩
    · simp only [depL]
      exact Nat.max_le.mpr ⟨h2, h4⟩
    · simp only [tmDs, itmA, List.length_cons, Nat.succ_mul]
      omega
theorem tm_row {n r k m c : Nat} {ds : List PyData} (h : ∀ d ∈ ds, IsTm n r k m c d) (hl : ds.length ≤ r) : IsTm n r k (m + 1) (2 + ds.length * (c + 1)) (.tuple [.str "row", .tuple ds]) := by
  obtain ⟨ts, rfl, h1, h2, h3, h4⟩ := tm_list h
  refine ⟨.row ts, by simp only [tmD], ?_, by simp only [dep]; omega, ?_⟩
  · simp only [okTm]
    exact ⟨by omega, h1⟩
  · simp only [tmD, itm, itmA, List.length_cons, List.length_nil, Nat.mul_add]
    omega
theorem tm_row1 {n r k m c : Nat} {a : PyData} (ha : IsTm n r k m c a) (hr : 1 ≤ r) : IsTm n r k (m + 1) (c + 3) (.tuple [.str "row", .tuple [a]]) := by
  obtain ⟨t, h0, h1, h2, h3⟩ := tm_row (ds := [a]) (fun d hd => by rw [List.mem_singleton.mp hd]; exact ha) hr
  exact ⟨t, h0, h1, h2, by simp only [List.length_cons, List.length_nil] at h3; omega⟩
theorem tm_row2 {n r k m c : Nat} {a b : PyData} (ha : IsTm n r k m c a) (hb : IsTm n r k m c b) (hr : 2 ≤ r) : IsTm n r k (m + 1) (2 * c + 4) (.tuple [.str "row", .tuple [a, b]]) := by
  obtain ⟨t, h0, h1, h2, h3⟩ := tm_row (ds := [a, b]) (fun d hd => by
    simp only [List.mem_cons, List.not_mem_nil, or_false] at hd
    rcases hd with rfl | rfl
    · exact ha
    · exact hb) hr
  exact ⟨t, h0, h1, h2, by simp only [List.length_cons, List.length_nil] at h3; omega⟩
theorem IsTm.mono {n r k m c r' k' m' c' : Nat} {d : PyData} (h : IsTm n r k m c d) (hr : r ≤ r' := by omega) (hk : k ≤ k' := by omega) (hm : m ≤ m' := by omega) (hc : c ≤ c' := by omega) : IsTm n r' k' m' c' d := by
  obtain ⟨t, rfl, h1, h2, h3⟩ := h
  exact ⟨t, rfl, okTm_mono (fun _ q => q) hr hk t h1, by omega, by omega⟩
theorem IsTm.itm {n r k m c : Nat} {d : PyData} (h : IsTm n r k m c d) : itm d ≤ c := by
  obtain ⟨t, rfl, h1, h2, h3⟩ := h
  exact h3
end Kr
namespace Kr
open PySem PySem.Spec PyProof.Rows L2
open AutoSeq1 (wpAny_loadPart')

theorem enum_new_tup (l : Addr) (items : Array Value) :
    Meets (Builtin.«enumerate.__new__» ⟨[.type "enumerate", .ref l], []⟩) (fun _ R s => s.heap.IsTuple l items ∧
      R (.ok (.ret (.ref (s.heap.push { cls := .type "tuple_iterator", data := .fields #[.ref l, .int 0 0] }).objs.size)))
        { s with heap := (s.heap.push { cls := .type "tuple_iterator", data := .fields #[.ref l, .int 0 0] }).push { cls := .type "enumerate", data := .fields #[.none, .bool false, .ref s.heap.objs.size, rawInt 0, .none, .none] } }) :=
  .of_wp fun prog w A R s h => by
    obtain ⟨hp, g, d, tk, os⟩ := s
    obtain ⟨hL, h⟩ := h
    have hsub := sub_enumerate
    wp_walk using wpAny_pyIter_tuple hL
    refine wpAny_stack_any fun st => wpAny_pure ?_
    split
    · rename_i c _ _ _ _ _
      cases (c == Value.type "enumerate")
      all_goals
        wp_walk using wpAny_pyIter_tuple hL
        exact ⟨_, rfl, h⟩
    · wp_walk using wpAny_pyIter_tuple hL
      exact ⟨_, rfl, h⟩

section
variable {prog : Program} {w : World} {A : Around} {E : Value → Shared → Prop} {s : Shared}
theorem enum_call_tup {l : Addr} {items : Array Value} {Q : Value → Shared → Prop} (hL : s.heap.IsTuple l items)
    (h : ∀ h', IsEnum h' (s.heap.objs.size + 1) s.heap.objs.size 0 .none → h'.IsTupleIter s.heap.objs.size l 0 → h'.objs.size = s.heap.objs.size + 2 →
      (∀ b o, s.heap.get? b = some o → h'.get? b = some o) → Q (.ref (s.heap.objs.size + 1)) { s with heap := h' }) :
    wpAny (model prog w) A (call (.type "enumerate") [.ref l]) Q E s := by
  refine callType_new F.called_enumerate (by decide) (F.typeCall_enumerate_1 _) (F.newCall_enumerate_1 _) (fun obj => F.args_object_init_2 obj _) F.entry_enumerate_new
    (enum_new_tup l items) ⟨hL, ?_⟩
  generalize hh1 : s.heap.push { cls := .type "tuple_iterator", data := .fields #[.ref l, .int 0 0] } = h1
  have hz : h1.objs.size = s.heap.objs.size + 1 := by rw [← hh1]; exact Heap.size_push ..
  have g1 : h1.get? s.heap.objs.size = some { cls := .type "tuple_iterator", data := .fields #[.ref l, .int 0 0] } := by rw [← hh1]; exact Heap.get?_push_size _ rfl
  have k1 : ∀ b o, s.heap.get? b = some o → h1.get? b = some o := fun b o e => by rw [← hh1]; exact Heap.get?_push_of_some _ e
  have he : IsEnum (h1.push { cls := .type "enumerate", data := .fields #[.none, .bool false, .ref s.heap.objs.size, rawInt 0, .none, .none] }) (s.heap.objs.size + 1) s.heap.objs.size 0 .none := by
    have q := Heap.get?_push_size h1 (o := { cls := .type "enumerate", data := .fields #[.none, .bool false, .ref s.heap.objs.size, rawInt 0, .none, .none] }) rfl
    rw [hz] at q
    exact q
  show _ ∧ _
  rw [hz]
  exact ⟨⟨_, he, rfl⟩, h _ he ⟨_, Heap.get?_push_of_some _ g1, rfl, rfl⟩ (by rw [Heap.size_push, hz]) fun b o x => Heap.get?_push_of_some _ (k1 b o x)⟩
end

/-- the tuple at a, each item in a new pair -/
def Itet (K : PySem.W.Frag) (a : Addr) : It :=
  ⟨fun i H => ∃ (xs : List V) (x : V), SqT K H a xs ∧ xs[i]? = some x,
    fun i H v H' => ∃ T x, v = .ref T ∧ H T = none ∧ H' = upd H T (.tup [.int (i : Nat), x]) ∧ ∀ xs, SqT K H a xs → xs[i]? = some x,
    fun i H => ∃ xs : List V, SqT K H a xs ∧ xs.length = i⟩
theorem tup_ne {h : Heap} {a it : Addr} {items : Array Value} {o : Obj} (p : IsTup h a items) (ho : h.get? it = some o) (hc : o.cls ≠ .type "tuple") : a ≠ it := fun z => by
  obtain ⟨u, hu, hcu, _⟩ := p
  rw [z, ho] at hu
  cases hu
  exact hc hcu
theorem turn_enumT {P : Program} {w : World} {K : PySem.W.Frag} {elts : List Expr} {kk : Nat} {tpos : Pos} (a e it : Addr) :
    Turn P w K (.Tuple elts kk tpos) (Itet K a) [e, it] e (fun i h => (∃ old, IsEnum h e it ((i : Nat) : Int) old) ∧ h.IsTupleIter it a i ∧ e ≠ it) where
  mem := by simp
  obj := fun i h st b hb => by
    obtain ⟨⟨old, he⟩, ⟨o, ho, hc, hd⟩, _⟩ := st
    rcases (show b = e ∨ b = it by simpa using hb) with z | z
    · rw [z]; exact ⟨_, he, fun v q => nomatch q⟩
    · rw [z]; exact ⟨o, ho, fun v q => by rw [hd] at q; cases q⟩
  keep := fun i h h' st k => let ⟨⟨old, he⟩, hi, hne⟩ := st; ⟨⟨old, k e (by simp) _ he⟩, hi.at fun o q => k it (by simp) o q, hne⟩
  item := by
    intro X hP hw hK hc i pins s σ H E I hf st hg
    subst hP hw hK
    obtain ⟨⟨old, he⟩, hit, hne⟩ := st
    obtain ⟨xs, x, hq, hx⟩ := hg
    obtain ⟨its, rv, p, hz⟩ := I.tuple hq
    obtain ⟨u, hu, ru⟩ := rv.get hx
    have hel : e < s.heap.objs.size := Heap.lt_size he
    have hil : it < s.heap.objs.size := by obtain ⟨_, q, _⟩ := hit; exact Heap.lt_size q
    have nai : a ≠ it := by
      obtain ⟨o, ho, hcl, _⟩ := id hit
      exact tup_ne p ho (by rw [hcl]; decide)
    have hlt : i < its.toArray.size := by
      rw [List.size_toArray]
      exact (List.getElem?_eq_some_iff.mp hu).1
    have nea : e ≠ a := fun z => tup_ne p he (by show Value.type "enumerate" ≠ Value.type "tuple"; decide) z.symm
    refine PySem.wpAny_pyNext_enum_itemC (Draws.tuple (A := X.A.in1) (I.ok.hd hc) it a nai its.toArray) he ⟨hit, p⟩ hlt hne (by simp [hne, nea]) fun y h' tk hy ho hst hT hsz hk => ?_
    have ey : y = u := by
      have : its.toArray[i]? = some y := hy
      rw [List.getElem?_toArray, hu] at this
      exact (Option.some.inj this).symm
    subst ey
    refine ⟨_, rfl, wpAny_letOwnedTupleGo_enum (s := { s with heap := h', toks := tk + 1 }) ho fun h'' he' sb => ?_⟩
    have hT2 : h''.get? s.heap.objs.size = some { cls := .type "tuple", data := .seq #[.int i tk, y] } := (sb.2 _ (Nat.ne_of_gt hel)).trans hT
    have new : ObjOk X.prog X.w (upd H s.heap.objs.size (.tup [.int (i : Nat), x])) h'' s.heap.objs.size (.tup [.int (i : Nat), x]) :=
      ⟨by show 2 ≤ sizeLine; decide, [.int i tk, y], .cons ⟨_, rfl⟩ (.cons ru .nil), ⟨_, hT2, rfl, _, rfl⟩⟩
    have I1 : Inv X pins σ (upd H s.heap.objs.size (.tup [.int (i : Nat), x])) { s with heap := h'', toks := tk + 1 } :=
      I.turnedNew (ch := [e, it]) (fun b ob hb q => (sb.2 b (fun z => hb (by simp [z]))).trans (hk b ob (fun z => hb (by simp [z])) (fun z => hb (by simp [z])) q)) hf (Nat.le_refl _) new
    refine ⟨.ref s.heap.objs.size, _, I1, rfl, ⟨_, x, rfl, I.hok.fresh (Nat.le_refl _), rfl, fun ys hy => by rw [I.tuple_inj hy hq]; exact hx⟩, ⟨⟨y, ?_⟩, hst.1.at fun o q => (sb.2 it (Ne.symm hne)).trans q, hne⟩, fun b hb => ?_⟩
    · rw [show ((i + 1 : Nat) : Int) = (i : Int) + 1 by omega]
      exact he'
    · have hb' : b < s.heap.objs.size := by
        rcases (show b = e ∨ b = it by simpa using hb) with z | z
        · rw [z]; exact hel
        · rw [z]; exact hil
      rw [upd_ne (Nat.ne_of_lt hb')]
      exact (hf b hb).1
  done := by
    intro X hP hw hK hc i pins s σ H E I hf st hg
    subst hP hw hK
    obtain ⟨⟨old, he⟩, hit, hne⟩ := st
    obtain ⟨xs, hq, hx⟩ := hg
    obtain ⟨its, rv, p, hz⟩ := I.tuple hq
    obtain ⟨f0, f1, f2, f3, f4, f5⟩ := hf it (by simp)
    have nai : a ≠ it := by
      obtain ⟨o, ho, hcl, _⟩ := id hit
      exact tup_ne p ho (by rw [hcl]; decide)
    have ez : its.toArray.size = i := by
      rw [List.size_toArray, ← rv.length, hx]
    refine PySem.wpAny_pyNext_enum_endD (Draws.tuple (A := X.A.in1) (I.ok.hd hc) it a nai its.toArray) he ?_ fun h' eb => ⟨rfl, I.turned (t' := s.toks) (fun b o hb q => eb b o hb q) f0 f1 f3 f4 f5⟩
    rw [ez]
    exact ⟨hit, p⟩
  self := fun A i s Q E st h => let ⟨⟨_, he⟩, _⟩ := st; wpAny_pyIter_enum he h
def iEnumT (K : PySem.W.Frag) (ta : TA) : TI := fun σ H R => ta σ H fun vs H1 => ∃ a xs, vs = [.ref a] ∧ SqT K H1 a xs ∧ R (Itet K a) H1
theorem pi_enumT {X : Cx} {e : Expr} {ta : TA} {p pos tpos : Pos} {elts : List Expr} {kk : Nat} (hg : Gl X "enumerate") (hm : X.mg "enumerate" = none) (ha : PA X [e] ta) (hs : starEach [e] X.env = [(false, eval e X.env)] := by rfl) :
    PI X (.Tuple elts kk tpos) (.Call (.Name "enumerate" p) [e] [] pos) (iEnumT X.K ta) := by
  refine ⟨fun pins s σ H R I h => Call_ (ld_blt I hg hm boot_enumerate (PyProof.Rows.callWith_type1 (thn (ha.run pos pins s σ H _ I h) fun us s1 ⟨vs, H1, I1, r1, q1⟩ => ?_) hs rfl))⟩
  obtain ⟨a, xs, rfl, hq, q⟩ := q1
  obtain rfl := Vals.ref1 r1
  obtain ⟨its, rv, p', hz⟩ := I1.tuple hq
  refine enum_call_tup p' fun h' he hit hsz hk => wpAny_pyIter_enum he ?_
  have I2 : Inv X pins σ H1 { s1 with heap := h' } := I1.kept (t' := s1.toks) hk
  refine ⟨s1.heap.objs.size + 1, [s1.heap.objs.size + 1, s1.heap.objs.size], _, _, H1, rfl, I2, turn_enumT a (s1.heap.objs.size + 1) s1.heap.objs.size, ⟨⟨.none, he⟩, hit, Nat.succ_ne_self _⟩, fun b hb => ?_, q⟩
  have hle : s1.heap.objs.size ≤ b := by
    rcases (show b = s1.heap.objs.size + 1 ∨ b = s1.heap.objs.size by simpa using hb) with z | z <;> rw [z]
    · exact Nat.le_succ _
    · exact Nat.le_refl _
  exact I1.fpOk hle (I1.hok.fresh hle)

theorem walk_enumT {K : PySem.W.Frag} {a : Addr} {xs : List V} : Walk (Itet K a) xs.length (fun H => SqT K H a xs) (YPair (fun i => some (.int (i : Nat))) (fun i => xs[i]?)) := by
  refine ⟨fun i _ hi q => ⟨xs, xs[i], q, List.getElem?_eq_getElem hi⟩, fun _ q => ⟨xs, q, rfl⟩, fun i H v H' _ q y => ?_⟩
  obtain ⟨T, x, e1, e2, e3, e4⟩ := y
  exact ⟨T, _, x, e1, e2, e3, rfl, e4 xs q⟩
end Kr
namespace Kr
open PySem PySem.Spec PyProof.Rows L2 HT
theorem adj_rev (n : Nat) : Builtin.Slice.sliceAdjust none none (-1) (n : Int) = ((n : Int) - 1, -1) := by
  unfold Builtin.Slice.sliceAdjust
  simp
theorem pla_rev (n : Nat) : Builtin.Slice.slicePlaces ((n : Int) - 1) (-1) (-1) = n := by
  unfold Builtin.Slice.slicePlaces
  simp
  omega
theorem pick_rev (xs : Array Value) : ((List.range xs.size).filterMap fun (m : Nat) => xs[(((xs.size : Nat) : Int) - 1 + (m : Int) * (-1)).toNat]?).toArray = xs.toList.reverse.toArray := by
  have e : (fun (m : Nat) => xs[(((xs.size : Nat) : Int) - 1 + (m : Int) * (-1)).toNat]?) = (fun k => xs[k]?) ∘ fun (m : Nat) => xs.size - 1 - m := by
    funext m
    show _ = xs[xs.size - 1 - m]?
    rw [show (((xs.size : Nat) : Int) - 1 + (m : Int) * (-1)).toNat = xs.size - 1 - m by omega]
  rw [e, ← List.filterMap_map, PySem.W.krv_range, List.filterMap_reverse, PySem.W.krv_all]
section
variable {prog : Program} {w : World} {A : Around} {E : Value → Shared → Prop} {s : Shared}
theorem applied_rev {sl : Addr} {vk : Value} {n : Nat} {Q : Int × Int × Nat → Shared → Prop} (hs : s.heap.IsSliceOf sl .none .none vk) (pk : IsPart vk (some (-1)))
    (h : Q ((n : Int) - 1, -1, n) s) : wpAny (model prog w) A (Builtin.Slice.sliceApplied (.ref sl) (pure (n : Int))) Q E s := by
  obtain ⟨os, hos, hcs, hds⟩ := id hs
  unfold Builtin.Slice.sliceApplied Builtin.Slice.sliceFields
  refine wpAny_bind (wpAny_bind (wpAny_field hos hds (x := .none) rfl (wpAny_bind (wpAny_field hos hds (x := .none) rfl (wpAny_bind (wpAny_field hos hds (x := vk) rfl (wpAny_pure ?_)))))))
  refine wpAny_bind (slicePart_ pk ?_)
  show wpAny _ _ (if ((-1 : Int) == 0) = true then _ else _) _ _ s
  rw [if_neg (by decide)]
  refine wpAny_bind (slicePart_none (wpAny_bind (slicePart_none (wpAny_bind (wpAny_pure ?_)))))
  show wpAny _ _ (match Builtin.Slice.sliceAdjust none none (-1) (n : Int) with | (lo, hi) => pure (lo, (-1 : Int), Builtin.Slice.slicePlaces lo hi (-1))) _ _ s
  rw [adj_rev n]
  show wpAny _ _ (pure ((n : Int) - 1, (-1 : Int), Builtin.Slice.slicePlaces ((n : Int) - 1) (-1) (-1))) _ _ s
  rw [pla_rev]
  exact wpAny_pure h
theorem tuple_rev {t sl : Addr} {items : Array Value} {vk : Value} {Q : Value → Shared → Prop} (ht : IsTup s.heap t items) (hs : s.heap.IsSliceOf sl .none .none vk) (pk : IsPart vk (some (-1)))
    (h : Q (.ref s.heap.objs.size) { s with heap := s.heap.push { cls := .type "tuple", data := .seq items.toList.reverse.toArray } })
    (hsz : items.size ≤ sizeLine) : wpAny (model prog w) A (getItem (.ref t) (.ref sl)) Q E s := by
  have hok : sizeOk (.seq items.toList.reverse.toArray) := by
    show items.toList.reverse.toArray.size ≤ sizeLine
    rw [List.size_toArray, List.length_reverse, Array.length_toList]
    exact hsz
  obtain ⟨os, hos, hcs, hds⟩ := id hs
  have hTs : s.TypeIs (.ref sl) "slice" := ⟨os, hos, hcs⟩
  unfold getItem
  try with_reducible refine wpAny_holding ?_
  first | refine wpAny_bind (wpAny_pure ?_) | skip
  refine wpAny_bind (wpAny_sequenceKey ht.typeIs (by decide) ?_)
  refine wpAny_bind (wpAny_callSpecial?_slot (name := Str.ofString "__getitem__") ht.typeIs PyProof.Rows.slot_tuple_getitem
    (wpAny_call_entry PyProof.Rows.slot_tuple_getitem ht.typeIs entry_tuple_getitem ?_ (args_tuple_getitem _ _)))
  show wpAny _ _ (Builtin.Tuple.tupleItemsOf (.ref t) >>= _) _ _ s
  refine wpAny_bind (tupleItemsOf_ ht (wpAny_bind (wpAny_typeOf hTs ?_)))
  rw [if_pos (by decide)]
  refine wpAny_bind (applied_rev hs pk ?_)
  have hno : ¬ (((((items.size : Nat) : Int) - 1) == 0 && (-1 : Int) == 1 && items.size == items.size) = true) := by
    rw [show ((-1 : Int) == 1) = false by decide, Bool.and_false, Bool.false_and]
    exact Bool.false_ne_true
  show wpAny _ _ (if ((((items.size : Nat) : Int) - 1) == 0 && (-1 : Int) == 1 && items.size == items.size) = true then _ else _) _ _ s
  rw [if_neg hno, pick_rev]
  first
    | exact wpAny_bind (wpAny_bind (m := Builtin.Tuple.tupleExact _) (wpAny_newObj_type (wpAny_pure ⟨_, rfl, wpAny_pure h⟩) hok))
    | exact wpAny_bind (m := Builtin.Tuple.tupleExact _) (wpAny_newObj_type (wpAny_pure ⟨_, rfl, wpAny_pure h⟩) hok)
    | exact wpAny_bind (m := Builtin.Tuple.tupleExact _) (wpAny_newObj_type (wpAny_bind (wpAny_pure (wpAny_pure ⟨_, rfl, wpAny_pure h⟩))) hok)
    | exact wpAny_bind (wpAny_bind (m := Builtin.Tuple.tupleExact _) (wpAny_newObj_type (wpAny_pure (wpAny_pure ⟨_, rfl, wpAny_pure h⟩)) hok))
end
section
variable {X : Cx}
/-- t[::-1] of a tuple -/
def tRevT (K : PySem.W.Frag) (te : TE) : TE := fun σ H Q => te σ H fun x H1 => ∃ a xs, x = .ref a ∧ SqT K H1 a xs ∧ ∀ p, H1 p = none → Q (.ref p) (upd H1 p (.tup xs.reverse))
theorem pe_revT {e : Expr} {te : TE} {k : Nat} {p1 p2 p3 pos : Pos} (he : PE X e te) : PE X (.Subscript e (.Slice none none (some (.UnaryOp .USub (.Constant (.int 1) k p1) p2)) p3) pos) (tRevT X.K te) := by
  refine ⟨fun pins s σ H Q I h => Subscript_ (thn (he.run pins s σ H _ I h) fun v s1 ⟨x, H1, I1, r1, q1⟩ => ?_)⟩
  obtain ⟨a, xs, rfl, hx, q⟩ := q1
  cases r1
  have hst : PO X (some (.UnaryOp .USub (.Constant (.int 1) k p1) p2)) (tPart (tUn (rU fun i => .int (-i)) (tC (.int 1)))) := po_some (pe_un un_neg pe_int)
  refine wpAny_Slice (thn (po_none.run pins s1 σ H1 (fun o H2 => o = none ∧ H2 = H1) I1 ⟨rfl, rfl⟩) fun vl s2 ⟨l, H2, I2, pl, el, e2⟩ => ?_)
  subst el e2
  refine thn (po_none.run pins s2 σ H2 (fun o H3 => o = none ∧ H3 = H2) I2 ⟨rfl, rfl⟩) fun vu s3 ⟨u, H3, I3, pu, eu, e3⟩ => ?_
  subst eu e3
  refine thn (hst.run pins s3 σ H3 (fun o H4 => o = some (-1) ∧ H4 = H3) I3 ⟨1, rfl, -1, rfl, rfl, rfl⟩) fun vs s4 ⟨o, H4, I4, ps, eo, e4⟩ => ?_
  subst eo e4
  cases pl
  cases pu
  have I5 : Inv X pins σ H4 { s4 with heap := s4.heap.push { cls := .type "slice", data := .fields #[.none, .none, vs] } } := I4.kept (t' := s4.toks) fun b ob q => Heap.get?_push_of_some _ q
  obtain ⟨its, r, ht, hz⟩ := I5.tuple hx
  have hlen := r.length
  show wpAny (model X.prog X.w) X.A (subscriptTail e (.Slice none none (some (.UnaryOp .USub (.Constant (.int 1) k p1) p2)) p3) (.ref a) (.ref s4.heap.objs.size)) (EP X pins σ Q) X.xe { s4 with heap := s4.heap.push { cls := .type "slice", data := .fields #[.none, .none, vs] } }
  refine tail_any (ops := [.ref a, .ref s4.heap.objs.size]) ht.typeIs (PyProof.Rows.slot_tuple_getitem.lookup) ?_ (by with_unfolding_all rfl)
  refine tuple_rev ht (Heap.IsSliceOf.new _ .none .none vs) ps ?_ (by rw [List.size_toArray]; omega)
  refine ⟨.ref _, _, I5.laid (t' := s4.toks) (o := .tup xs.reverse) (fun b ob q => Heap.get?_push_of_some _ q) (Nat.le_refl _) ?_, rfl, q _ (I5.hok.fresh (Nat.le_refl _))⟩
  exact ⟨by rw [List.length_reverse]; exact hz, _, r.reverse, IsTup.new _ _⟩
end
end Kr
namespace Kr
open PySem L2
def top (i : Nat) : Stmt := PySem.Challenge.pw_keyriders_k18_whole_programs_alike.main.body.getD i (.Pass ⟨0, 0, 0, 0⟩)
abbrev sRidersError : Stmt := top 3
abbrev sTooMany : Stmt := top 4
abbrev sLotsOf : Stmt := top 6
abbrev sAllLots : Stmt := top 7
abbrev sDone : Stmt := top 9
abbrev sProgramWorth : Stmt := top 11
abbrev sTermWorth : Stmt := top 12
abbrev sGoal : Stmt := top 14
abbrev sStill : Stmt := top 15
abbrev sWays : Stmt := top 16
abbrev sEntryBy : Stmt := top 17
abbrev sDeedTable : Stmt := top 18
abbrev sBoth : Stmt := top 19
abbrev sNumbers : Stmt := top 20
abbrev sUndone : Stmt := top 21
abbrev sAims : Stmt := top 22
abbrev sTurnedBack : Stmt := top 23
abbrev sPower : Stmt := top 24
abbrev sEntryOf : Stmt := top 25
abbrev sCircles : Stmt := top 26
abbrev sStepsOf : Stmt := top 27
abbrev sTableMeasure : Stmt := top 29
abbrev sTableOf : Stmt := top 30
abbrev sStepsMeasure : Stmt := top 32
abbrev sRun : Stmt := top 33
abbrev sBox : Stmt := top 35
abbrev sDraw : Stmt := top 36
abbrev sPick : Stmt := top 37
abbrev sMixed : Stmt := top 38
abbrev sEvery : Stmt := top 39
abbrev sDeed : Stmt := top 40
abbrev sLTerm : Stmt := top 41
abbrev sLLength : Stmt := top 42
abbrev sLProgram : Stmt := top 43
abbrev sLMoves : Stmt := top 44
abbrev sLAllMoves : Stmt := top 45
abbrev sLStanding : Stmt := top 46
abbrev sLThrough : Stmt := top 47
abbrev sLDressed : Stmt := top 48
abbrev sLStirred : Stmt := top 49
abbrev sLApart : Stmt := top 50
abbrev sLSpoilt : Stmt := top 51
abbrev sLaw : Stmt := top 52
end Kr
namespace Kr
open PySem PySem.Spec PyProof.Rows L2
/-! ### the deck: a dict of a list and a number, apart from all else -/
def hid (p l : Addr) (H : Hp) : Hp := fun b => if b = p ∨ b = l then none else H b
theorem hid_ne {p l b : Addr} {H : Hp} (h1 : b ≠ p) (h2 : b ≠ l) : hid p l H b = H b := by
  unfold hid
  rw [if_neg (fun h => h.elim h1 h2)]
theorem hid_some {p l b : Addr} {H : Hp} {o : HO} (h : hid p l H b = some o) : b ≠ p ∧ b ≠ l ∧ H b = some o := by
  unfold hid at h
  by_cases e : b = p ∨ b = l
  · rw [if_pos e] at h
    cases h
  · rw [if_neg e] at h
    exact ⟨fun z => e (.inl z), fun z => e (.inr z), h⟩
theorem hid_same (p l : Addr) (H : Hp) : Same (hid p l H) H := fun _ _ h => (hid_some h).2.2
abbrev Ext (p l : Addr) (H H' : Hp) : Prop := Same (hid p l H) (hid p l H')
theorem Ext.of {p l : Addr} {H H' : Hp} (s : Same H H') : Ext p l H H' := fun b o h => by
  obtain ⟨h1, h2, h3⟩ := hid_some h
  rw [hid_ne h1 h2]
  exact s _ _ h3
theorem Ext.rfl {p l : Addr} {H : Hp} : Ext p l H H := Same.refl _
abbrev kG : Key := Sum.inr ("great" : Str)
abbrev kS : Key := Sum.inr ("stirred" : Str)
abbrev kC : Key := Sum.inr ("count" : Str)
theorem kgs : ¬ ("great" : Str) = "stirred" := by decide +kernel
theorem ksg : ¬ ("stirred" : Str) = "great" := by decide +kernel
theorem kgc : ¬ ("great" : Str) = "count" := by decide +kernel
theorem kcg : ¬ ("count" : Str) = "great" := by decide +kernel
theorem ksc : ¬ ("stirred" : Str) = "count" := by decide +kernel
theorem kcs : ¬ ("count" : Str) = "stirred" := by decide +kernel
def dkv (x : V) (st : Int × Int) : List (Key × V) := [(kG, x), (kS, .int st.1), (kC, .int st.2)]
theorem dkv_g (x : V) (st : Int × Int) : valV (dkv x st) kG = some x := valV_pos rfl
theorem dkv_s (x : V) (st : Int × Int) : valV (dkv x st) kS = some (.int st.1) := (valV_neg (fun z => kgs (Sum.inr.inj z))).trans (valV_pos rfl)
theorem dkv_c (x : V) (st : Int × Int) : valV (dkv x st) kC = some (.int st.2) := (valV_neg (fun z => kgc (Sum.inr.inj z))).trans ((valV_neg (fun z => ksc (Sum.inr.inj z))).trans (valV_pos rfl))
theorem dkv_pc (x : V) (st : Int × Int) (z : Int) : putK (dkv x st) kC (.int z) = dkv x (st.1, z) := by
  simp [putK, dkv, kgs, ksg, kgc, kcg, ksc, kcs]
theorem dkv_m (x : V) (a b : Int) : mergeK [] [(kG, x), (kS, .int a), (kC, .int b)] = dkv x (a, b) := by
  simp [mergeK, putK, dkv, kgs, ksg, kgc, kcg, ksc, kcs]
structure Deck (H : Hp) (p l : Addr) : Prop where
  ex : ∃ (ds : List Int) (st : Int × Int), H p = some (.dK (dkv (.ref l) st)) ∧ H l = some (.lst (ds.map V.int)) ∧ ds.length ≤ 63
theorem Deck.ne {H : Hp} {p l : Addr} (d : Deck H p l) : p ≠ l := by
  obtain ⟨ds, st, h1, h2, _⟩ := d.ex
  exact ne_of h1 h2 (by intro z; cases z)
theorem Deck.up {H H' : Hp} {p l : Addr} (d : Deck H p l) (s : Same H H') : Deck H' p l := by
  obtain ⟨ds, st, h1, h2, h3⟩ := d.ex
  exact ⟨ds, st, s _ _ h1, s _ _ h2, h3⟩
/-- a new object stands apart -/
theorem Deck.new {H : Hp} {p l q : Addr} (d : Deck H p l) (h : H q = none) : q ≠ p ∧ q ≠ l := by
  obtain ⟨ds, st, h1, h2, h3⟩ := d.ex
  exact ⟨(ne_of_none h1 h).symm, (ne_of_none h2 h).symm⟩
theorem hid_upd {H : Hp} {p l q : Addr} {o : HO} (h1 : q ≠ p) (h2 : q ≠ l) : hid p l (upd H q o) q = some o := by
  rw [hid_ne h1 h2, upd_same]
def spDeck (K : PySem.W.Frag) : Sp := fun vs H Q _ => ∃ (a : Addr) (ns : List Int), vs = [.ref a] ∧ SqL K H a (ns.map V.int) ∧ ns.length ≤ 1000 ∧ ∀ H' p l, Same H H' → H p = none → H l = none → Deck H' p l → Q (.ref p) H'
section
variable {P : Program} {w : World} {K : PySem.W.Frag} {mg : Str → Option Value} {base : Heap}
abbrev nBox : List Str := ["script", "marks", "stirred", "cell", "mark"]
theorem scDeck : FnScope nBox ["script"] (defScope sBox) := ⟨rfl, rfl, rfl, by decide +kernel, rfl, by decide +kernel, by decide +kernel⟩
theorem ok_deck {f : Addr} {fd : FuncData} {k : Nat} (F : Fun K "_law_box" "_law_box" sBox f fd) (B : Bi mg) : FnOk P w K mg base CX0 (k + 1) f fd ["script"] (spDeck K) := by
  refine F.ok scDeck (fun vs H Q E h => ?_) (fun cdv A outer s H vs Q E hr h => ?_)
  · obtain ⟨a, ns, rfl, _⟩ := h
    rfl
  · obtain ⟨a, ns, rfl, hS, hlen, q⟩ := h
    refine ⟨_, pss_cons (ps_par (i := 1) (j := 2) rfl scDeck.nd rfl rfl (by decide) rfl rfl (pa_cons
        (pe_lc (own := [("cell", 3)]) (g := gName 3) (tt := tYes) rfl scDeck.nd (pi_list (pe_slice sl_list (pv 0) po_none (po_some pe_int))) (blkOk_by (own := [("cell", 3)]) (N := nBox) (sc := defScope sBox) (by decide +kernel)) (fun _ _ _ _ _ => pg_name (i := 3) scDeck.nd rfl (.inl rfl)) (fun _ _ _ _ _ => pts_nil)
          (fun _ _ _ _ _ => pe_op op_add (pe_op op_mul pe_int (pe_callB call_abs (by rfl) B.abs (by decide +kernel) (pa_cons (pv 3) pa_nil))) (pe_callTy call_int1 (by rfl) B.int (by decide +kernel) (pa_cons (pe_cmpR op_lt (pv 3) pe_int (nomark _)) pa_nil))))
        (pa_cons (pe_op op_add pe_int (pe_callB call_len_seq (by rfl) B.len boot_len (pa_cons (pv 0) pa_nil))) pa_nil)) (by rfl))
      (pss_cons (ps_for PassesOwn.never rfl (pi_list (pv 1)) (pg_name (i := 4) scDeck.nd rfl (.inl rfl))
        (pss_one (ps_set (i := 2) scDeck.nd rfl (.inl rfl) (pe_op op_mod (pe_callTy call_int1 (by rfl) B.int (by decide +kernel) (pa_cons (pe_op op_add (pe_op op_mul (pv 2) pe_int) (pv 4)) pa_nil)) pe_int))))
      (pss_one (ps_ret (pe_disp (pps_cons pe_str (pe_lc (own := [("mark", 4)]) (g := gName 4) rfl scDeck.nd (pi_list (pv 1)) (blkOk_by (own := [("mark", 4)]) (N := nBox) (sc := defScope sBox) (by decide +kernel)) (fun _ _ _ _ _ => pg_name (i := 4) scDeck.nd rfl (.inl rfl)) (fun _ _ _ _ _ => pts_one (pt_cmpR op_gt (pv 4) (pe_op op_pow pe_int pe_int) (nomark _))) (fun _ _ _ _ _ => pv 4))
        (pps_cons pe_str (pv 2) (pps_cons pe_str pe_int pps_nil))) (by rfl) (by rfl) (fun z => by cases z) (by decide))))), ?_⟩
    refine ⟨.ref a, rfl, 63, rfl, a, _, rfl, hS, fun c nc => ?_⟩
    obtain ⟨ms, e63, hml⟩ : ∃ ms : List Int, cutV (ns.map V.int) none (some 63) = ms.map V.int ∧ ms.length ≤ 63 := by
      refine ⟨ns.take 63, ?_, by rw [List.length_take]; omega⟩
      unfold cutV
      rw [HT.sIx_none, show HT.sIx (ns.map V.int).length (ns.map V.int).length (some 63) = min 63 (ns.map V.int).length from HT.sIx_nat _ _ 63, List.drop_zero, Nat.sub_zero, List.length_map, List.map_take]
      rcases Nat.le_total 63 ns.length with h | h
      · rw [Nat.min_eq_left h]
      · rw [Nat.min_eq_right h, List.take_of_length_le (by rw [List.length_map]; exact Nat.le_refl _), List.take_of_length_le (by rw [List.length_map]; exact h)]
    rw [e63]
    have s1 := same_new (o := .lst (ms.map V.int)) nc
    have hc : upd H c (.lst (ms.map V.int)) c = some (.lst (ms.map V.int)) := upd_same
    generalize upd H c (.lst (ms.map V.int)) = H1 at s1 hc
    refine ⟨c, rfl, ⟨_, SqL.of hc⟩, fun D nD => ?_⟩
    refine lc_it (walk_list (K := K) (a := c) (xs := ms.map V.int)) (fun i G => ∃ zs : List Int, G D = some (.lst (zs.map V.int)) ∧ Same H1 G ∧ zs.length = i) ⟨[], upd_same, same_new nD, rfl⟩ (fun i G _ ⟨_, _, s2, _⟩ => SqL.of (s2 _ _ hc)) ?_ ?_
    · rintro i x G G' hi ⟨zs, hD, s2, hl⟩ ⟨rfl, hx⟩
      rw [List.length_map] at hi
      obtain ⟨z, rfl⟩ : ∃ z, x = V.int z := by
        rw [List.getElem?_map] at hx
        cases e : ms[i]? with
        | none => rw [e] at hx; cases hx
        | some z => rw [e] at hx; exact ⟨z, (Option.some.inj hx).symm⟩
      refine ⟨rfl, ?_⟩
      dsimp only [tYes]
      rw [if_pos rfl]
      refine ⟨.int z, rfl, z, rfl, ?_⟩
      refine ⟨_, _, rfl, rfl, .inl ⟨by decide, by decide⟩, .int z, rfl, _, _, rfl, rfl, .inr ⟨_, rfl, _, _, rfl, rfl, ?_⟩⟩
      refine ⟨_, hD, szl (by rw [List.length_map]; omega), zs ++ [_], by rw [upd_same, List.map_append]; rfl, fun b o hb => ?_, by rw [List.length_append, hl]; rfl⟩
      rw [upd_ne (ne_of_none hb nD)]
      exact s2 _ _ hb
    rintro G ⟨zs, hD, s2, hl⟩
    rw [List.length_map] at hl
    have sG := s1.trans s2
    refine ⟨.ref a, rfl, a, _, rfl, .inl (sG.seq hS), _, _, rfl, rfl, _, _, rfl, ?_⟩
    dsimp only
    generalize (40961 + ((ns.map V.int).length : Int)) = st0
    refine ⟨.ref D, rfl, D, rfl, ⟨_, SqL.of hD⟩, for_list (K := K) (xs := zs.map V.int) (fun i σ G2 => ∃ (st : Int) (v4 : Option V), σ = [some (.ref a), some (.ref D), some (.int st), none, v4] ∧ G2 = G) ⟨st0, none, rfl, rfl⟩ (fun i σ G2 _ ⟨_, _, _, e⟩ => by rw [e]; exact SqL.of hD) ?_ ?_⟩
    · rintro i x σ G2 hx ⟨st, v4, rfl, rfl⟩
      obtain ⟨z, rfl⟩ : ∃ z, x = V.int z := by
        rw [List.getElem?_map] at hx
        cases e : zs[i]? with
        | none => rw [e] at hx; cases hx
        | some z => rw [e] at hx; exact ⟨z, (Option.some.inj hx).symm⟩
      exact ⟨.int st, rfl, _, _, rfl, rfl, .inr ⟨by decide, by decide⟩, .int z, rfl, _, _, rfl, rfl, .inl ⟨_, rfl, _, _, rfl, rfl, (by show (0 : Int) < 4294967291; decide), _, _, rfl, rfl⟩⟩
    rintro σ G2 ⟨st, v4, rfl, rfl⟩
    intro p np
    have sp := same_new (o := .dK []) np
    have hD2 := sp _ _ hD
    have hp : upd G2 p (.dK []) p = some (.dK []) := upd_same
    have np0 : H p = none := sG.free np
    have sGp := sG.trans sp
    generalize upd G2 p (.dK []) = G3 at sp hD2 hp sGp
    refine ⟨.ref D, rfl, D, rfl, ⟨_, SqL.of hD2⟩, fun l nl => ?_⟩
    have nl0 : H l = none := sGp.free nl
    have nlp : l ≠ p := (ne_of_none hp nl).symm
    refine lc_it (walk_list (K := K) (a := D) (xs := zs.map V.int)) (fun i G => ∃ ds : List Int, G l = some (.lst (ds.map V.int)) ∧ Same G3 G ∧ ds.length ≤ i) ⟨[], upd_same, same_new nl, Nat.le_refl _⟩ (fun i G _ ⟨_, _, s2, _⟩ => SqL.of (s2 _ _ hD2)) ?_ ?_
    · rintro i x G' G'' hi ⟨ds, hL, s3, hdl⟩ ⟨rfl, hx⟩
      rw [List.length_map] at hi
      obtain ⟨z, rfl⟩ : ∃ z, x = V.int z := by
        rw [List.getElem?_map] at hx
        cases e : zs[i]? with
        | none => rw [e] at hx; cases hx
        | some z => rw [e] at hx; exact ⟨z, (Option.some.inj hx).symm⟩
      refine ⟨rfl, .int z, rfl, _, _, rfl, rfl, ⟨by decide, by decide, by decide⟩, _, _, rfl, rfl, _, rfl, ite2 (fun _ => ?_) (fun _ => ?_)⟩
      · refine ⟨.int z, rfl, _, hL, szl (by rw [List.length_map]; omega), ds ++ [z], by rw [upd_same, List.map_append]; rfl, fun b o hb => ?_, by rw [List.length_append]; show _ + 1 ≤ _; omega⟩
        rw [upd_ne (ne_of_none hb nl)]
        exact s3 _ _ hb
      · exact ⟨ds, hL, s3, by omega⟩
    rintro G4 ⟨ds, hL, s3, hdl⟩
    rw [List.length_map] at hdl
    refine ⟨.int st, rfl, s3 _ _ hp, [(kG, V.ref l), (kS, .int st), (kC, .int 0)], rfl, by show 3 ≤ 15; decide, ?_⟩
    rw [dkv_m]
    refine q _ p l (fun b o hb => ?_) np0 nl0 ⟨ds, (st, 0), upd_same, by rw [upd_ne nlp]; exact hL, by omega⟩
    rw [upd_ne (ne_of_none hb np0)]
    exact s3 _ _ (sGp _ _ hb)
end
end Kr
namespace Kr
open PySem PySem.Spec PyProof.Rows L2
/-! ### beside an empty list -/
def rEqN : R2 := fun x y H Q => ∃ l b xs, x = .ref l ∧ y = .ref b ∧ H l = some (.lst xs) ∧ H b = some (.lst []) ∧ Q (.bl xs.isEmpty) H
theorem op_eqN {X : Cx} (hu : X.A.units + 64 < cLine) : OpR X (compareOp .Eq) rEqN := by
  intro pins s σ H x y v u Q I rx ry h
  obtain ⟨l, b, xs, rfl, rfl, hl, hb, q⟩ := h
  obtain rfl : v = Value.ref l := rx
  obtain rfl : u = Value.ref b := ry
  obtain ⟨its, r1, p1, _⟩ := I.list (SqL.of (K := X.K) hl)
  obtain ⟨it2, r2, p2, _⟩ := I.list (SqL.of (K := X.K) hb)
  cases r2
  cases r1 with
  | nil => exact SeqAt.RcAt.lists (e := fun _ => true) p1.isList p2.isList rfl (by omega) (fun j h1 _ => absurd h1 (by simp)) X.prog X.w X.xe _ ⟨.bl true, H, I, by rfl, q⟩
  | cons _ _ => exact SeqAt.RcAt.lists_lengths p1.isList p2.isList (by simp) (by omega) X.prog X.w X.xe _ ⟨.bl false, H, I, rfl, q⟩
/-- a list beside one without items -/
def rNeN : R2 := fun x y H Q => ∃ l b xs, x = .ref l ∧ y = .ref b ∧ H l = some (.lst xs) ∧ H b = some (.lst []) ∧ Q (.bl (!xs.isEmpty)) H
theorem op_neN {X : Cx} (hu : X.A.units + 64 < cLine) : OpR X (compareOp .NotEq) rNeN := by
  intro pins s σ H x y v u Q I rx ry h
  obtain ⟨l, b, xs, rfl, rfl, hl, hb, q⟩ := h
  obtain rfl : v = Value.ref l := rx
  obtain rfl : u = Value.ref b := ry
  obtain ⟨its, r1, p1, _⟩ := I.list (SqL.of (K := X.K) hl)
  obtain ⟨it2, r2, p2, _⟩ := I.list (SqL.of (K := X.K) hb)
  cases r2
  have hn : its.length = xs.length := r1.length.symm
  by_cases he : xs = []
  · subst he
    have : its = [] := List.length_eq_zero_iff.mp hn
    subst this
    exact SeqAt.RcNeAt.lists (e := fun _ => true) p1.isList p2.isList rfl (by omega) (fun j h1 _ => absurd h1 (by simp)) X.prog X.w X.xe _ ⟨.bl false, H, I, by rfl, q⟩
  · have hne : (its.toArray.size != ([] : List Value).toArray.size) = true := by
      have := List.length_pos_iff.mpr he
      simp
      intro z
      subst z
      simp at hn
      exact he (List.length_eq_zero_iff.mp hn.symm)
    have e1 : (!xs.isEmpty) = true := by
      cases xs with
      | nil => exact absurd rfl he
      | cons _ _ => rfl
    rw [e1] at q
    exact SeqAt.RcNeAt.lists_lengths p1.isList p2.isList hne (by omega) X.prog X.w X.xe _ ⟨.bl true, H, I, rfl, q⟩
/-- zip of two tuples, of any lengths -/
theorem walk_zipT {K : PySem.W.Frag} {a b : Addr} {xs ys : List V} {n : Nat} (hn : n = min xs.length ys.length) : Walk (RZ.ItzT K a b) n (fun H => SqT K H a xs ∧ SqT K H b ys) (YPair (fun i => xs[i]?) (fun i => ys[i]?)) := by
  subst hn
  refine ⟨fun i _ hi q => ?_, fun _ ⟨q1, q2⟩ => ⟨xs, ys, q1, q2, (by omega)⟩, fun i H v H' _ ⟨q1, q2⟩ y => ?_⟩
  · obtain ⟨g1, g2⟩ := Nat.lt_min.mp hi
    exact ⟨xs, ys, xs[i], ys[i], q.1, q.2, List.getElem?_eq_getElem g1, List.getElem?_eq_getElem g2⟩
  · obtain ⟨T, x, z, t1, t2, t3, t4, t5⟩ := y
    exact ⟨T, x, z, t1, t2, t3, t4 _ q1, t5 _ q2⟩
theorem vals_ints_flat (ns : List Int) : flatV (.int 0) = true := rfl
end Kr
namespace Kr
open PySem PySem.Spec PyProof.Rows L2
def spDraw : Sp := fun vs H Q _ => ∃ (p l : Addr) (m : Int), vs = [.ref p, .int m] ∧ Deck H p l ∧ 1 ≤ m ∧ m < 1073741824 ∧ ∀ H' r, Deck H' p l → Ext p l H H' → 0 ≤ r → r < m → Q (.int r) H'
theorem Ext.new {p l q : Addr} {H H' : Hp} {o : HO} (e : Ext p l H H') (h : H' q = none) : Ext p l H (upd H' q o) := fun b x hb => by
  have h2 := e b x hb
  obtain ⟨h3, h4, h5⟩ := hid_some h2
  rw [hid_ne h3 h4, upd_ne (ne_of_none h5 h)]
  exact h5
theorem Ext.at {p l q : Addr} {H H' : Hp} {o : HO} (e : Ext p l H H') (h : q = p ∨ q = l) : Ext p l H (upd H' q o) := fun b x hb => by
  have h2 := e b x hb
  obtain ⟨h3, h4, h5⟩ := hid_some h2
  have hq : b ≠ q := fun z => h.elim (fun w => h3 (z.trans w)) fun w => h4 (z.trans w)
  rw [hid_ne h3 h4, upd_ne hq]
  exact h5
abbrev nDr : List Str := ["box", "many", "great", "mark", "count", "found"]
section
variable {P : Program} {w : World} {K : PySem.W.Frag} {mg : Str → Option Value} {base : Heap}
theorem scDraw : FnScope nDr ["box", "many"] (defScope sDraw) := ⟨rfl, rfl, rfl, by decide +kernel, rfl, by decide +kernel, by decide +kernel⟩
theorem ok_draw {f : Addr} {fd : FuncData} {k : Nat} (F : Fun K "_law_draw" "_law_draw" sDraw f fd) (B : Bi mg) : FnOk P w K mg base CX0 (k + 1) f fd ["box", "many"] spDraw := by
  refine F.ok scDraw (fun vs H Q E h => ?_) (fun cdv A outer s H vs Q E hr h => ?_)
  · obtain ⟨p, l, m, rfl, _⟩ := h
    rfl
  · obtain ⟨p, l, m, rfl, D, hm1, hm, q⟩ := h
    have hu := hu_of hr
    have hu2 : (cxOf CX0 P w K mg base nDr "_law_draw" (defScope sDraw) f cdv A outer s H E).A.units + 64 < cLine := hr.units
    refine ⟨_, pss_cons (ps_set (i := 2) scDraw.nd rfl (.inl rfl) (pe_dget hu (pv 0) pe_str (fun _ _ => rfl)))
      (pss_cons (ps_if (pt_cmpR (op_neN hu2) (pv 2) (pe_lst pa_nil) (nomark _))
        (pss_cons (ps_set (i := 3) scDraw.nd rfl (.inl rfl) (pe_ix ix_list (pv 2) pe_int (fun _ _ => rfl)))
        (pss_cons (ps_asg (pe_op op_fdiv (pv 3) (pv 1)) (pg_sub (pv 2) pe_int set_list))
        (pss_cons (ps_if (pt_cmpR op_lt (pv 3) (pv 1) (nomark _)) (pss_one (ps_expr (pe_bm PySem.F.plainAttrs_list PySem.F.slot_list_pop PySem.F.type_list_pop mt_popAt (pv 2) (pa_cons pe_int pa_nil)))) pss_nil)
        (pss_one (ps_ret (pe_op op_mod (pe_callTy call_int1 (by rfl) B.int (by decide +kernel) (pa_cons (pv 3) pa_nil)) (pv 1))))))) pss_nil)
      (pss_cons (ps_set (i := 4) scDraw.nd rfl (.inl rfl) (pe_op op_add (pe_dget hu (pv 0) pe_str (fun _ _ => rfl)) pe_int))
      (pss_cons (ps_dput hu (pv 0) pe_str (pv 4) rfl)
      (pss_cons (ps_set (i := 5) scDraw.nd rfl (.inl rfl) (pe_op op_mod (pe_callTy call_int1 (by rfl) B.int (by decide +kernel) (pa_cons (pe_op op_add (pe_dget hu (pv 0) pe_str (fun _ _ => rfl)) (pe_op op_mul pe_int (pv 4))) pa_nil)) pe_int))
      (pss_cons (ps_set (i := 5) scDraw.nd rfl (.inl rfl) (pe_op op_mod (pe_callTy call_int1 (by rfl) B.int (by decide +kernel) (pa_cons (pe_op op_add (pe_op op_add (pe_op op_mul (pv 5) (pv 5)) (pe_op op_mul pe_int (pv 4))) pe_int) pa_nil)) pe_int))
      (pss_cons (ps_set (i := 5) scDraw.nd rfl (.inl rfl) (pe_op op_mod (pe_callTy call_int1 (by rfl) B.int (by decide +kernel) (pa_cons (pe_op op_add (pe_op op_mul (pv 5) (pv 5)) (pe_dget hu (pv 0) pe_str (fun _ _ => rfl))) pa_nil)) pe_int))
      (pss_one (ps_ret (pe_op op_mod (pe_callTy call_int1 (by rfl) B.int (by decide +kernel) (pa_cons (pe_op op_fdiv (pv 5) pe_int) pa_nil)) (pv 1)))))))))), ?_⟩
    obtain ⟨ds, st, hp, hl, hd⟩ := id D.ex
    have nlp : l ≠ p := D.ne.symm
    have hgd : DGet H p (V.str "great") (some (.ref l)) := by rw [← dkv_g (.ref l) st]; exact DGet.k (k := kG) hp
    refine ⟨.ref p, rfl, p, .ref l, rfl, hgd, ?_⟩
    refine ⟨.ref l, rfl, by show 0 ≤ sizeLine; decide, fun e ne => ?_⟩
    have nep : e ≠ p := (ne_of_none hp ne).symm
    have nel : e ≠ l := (ne_of_none hl ne).symm
    have hp1 : upd H e (.lst []) p = some (.dK (dkv (.ref l) st)) := by rw [upd_ne nep.symm]; exact hp
    have hl1 : upd H e (.lst []) l = some (.lst (ds.map V.int)) := by rw [upd_ne nel.symm]; exact hl
    have E1 : Ext p l H (upd H e (.lst [])) := Ext.rfl.new ne
    refine ⟨l, e, ds.map V.int, rfl, rfl, hl1, upd_same, _, rfl, ?_⟩
    generalize upd H e (.lst []) = H1 at hp1 hl1 E1
    cases ds with
    | nil =>
      refine iteF ?_
      have hgc1 : DGet H1 p (V.str "count") (some (.int st.2)) := by rw [← dkv_c (.ref l) st]; exact DGet.k (k := kC) hp1
      refine ⟨.ref p, rfl, p, .int st.2, rfl, hgc1, _, _, rfl, rfl, ?_⟩
      dsimp only
      refine ⟨.int (st.2 + 1), rfl, .ref p, rfl, p, _, rfl, DPut.k (k := kC) hp1 (by show 3 < sizeLine; decide), ?_⟩
      rw [dkv_pc]
      have hp2 : upd H1 p (.dK (dkv (.ref l) (st.1, st.2 + 1))) p = some (.dK (dkv (.ref l) (st.1, st.2 + 1))) := upd_same
      have hl2 : upd H1 p (.dK (dkv (.ref l) (st.1, st.2 + 1))) l = some (.lst (([] : List Int).map V.int)) := by rw [upd_ne nlp]; exact hl1
      have E2 : Ext p l H (upd H1 p (.dK (dkv (.ref l) (st.1, st.2 + 1)))) := E1.at (.inl rfl)
      generalize upd H1 p (.dK (dkv (.ref l) (st.1, st.2 + 1))) = H2 at hp2 hl2 E2
      have hgs2 : DGet H2 p (V.str "stirred") (some (.int st.1)) := by
        have := dkv_s (.ref l) (st.1, st.2 + 1)
        rw [← this]
        exact DGet.k (k := kS) hp2
      generalize st.2 + 1 = ct at hp2
      refine ⟨.ref p, rfl, p, .int st.1, rfl, hgs2, .int ct, rfl, _, _, rfl, rfl, .inl ⟨by decide, by decide⟩, _, _, rfl, rfl, .inl ⟨_, rfl, _, _, rfl, rfl, (by show (0 : Int) < 4294967291; decide), ?_⟩⟩
      dsimp only
      have o0 : 0 ≤ ((st.1 + 2654435761 * ct) % 4294967291 : Int) := Int.emod_nonneg _ (by decide)
      have o1 : ((st.1 + 2654435761 * ct) % 4294967291 : Int) < 4294967291 := Int.emod_lt_of_pos _ (by decide)
      generalize ((st.1 + 2654435761 * ct) % 4294967291 : Int) = one at o0 o1
      refine ⟨.int one, rfl, .int one, rfl, _, _, rfl, rfl, .inl ⟨by omega, by omega⟩, .int ct, rfl, _, _, rfl, rfl, .inl ⟨by decide, by decide⟩, _, _, rfl, rfl, _, _, rfl, rfl, .inl ⟨_, rfl, _, _, rfl, rfl, (by show (0 : Int) < 4294967279; decide), ?_⟩⟩
      dsimp only
      have t0 : 0 ≤ ((one * one + 40503 * ct + 7) % 4294967279 : Int) := Int.emod_nonneg _ (by decide)
      have t1 : ((one * one + 40503 * ct + 7) % 4294967279 : Int) < 4294967279 := Int.emod_lt_of_pos _ (by decide)
      generalize ((one * one + 40503 * ct + 7) % 4294967279 : Int) = two at t0 t1
      refine ⟨.int two, rfl, .int two, rfl, _, _, rfl, rfl, .inl ⟨by omega, by omega⟩, .ref p, rfl, p, .int st.1, rfl, hgs2, _, _, rfl, rfl, .inl ⟨_, rfl, _, _, rfl, rfl, (by show (0 : Int) < 4294967231; decide), ?_⟩⟩
      dsimp only
      generalize ((two * two + st.1) % 4294967231 : Int) = three
      refine ⟨.int three, rfl, _, _, rfl, rfl, ⟨by decide, by decide⟩, .inl ⟨_, rfl, .int m, rfl, _, _, rfl, rfl, (by show 0 < m; omega), ?_⟩⟩
      exact q _ _ ⟨[], _, hp2, hl2, Nat.zero_le _⟩ E2 (Int.emod_nonneg _ (by omega)) (Int.emod_lt_of_pos _ (by omega))
    | cons d0 dr =>
      refine iteT ?_
      have hd' : dr.length + 1 ≤ 63 := hd
      refine ⟨.ref l, rfl, l, _, 0, .int d0, rfl, rfl, SqL.of hl1, by simpa using atI_nat (j := 0) (xs := (d0 :: dr).map V.int) (v := V.int d0) rfl, ?_⟩
      refine ⟨.int d0, rfl, .int m, rfl, _, _, rfl, rfl, ⟨by show 0 < m; omega, by show m < _; omega⟩, .ref l, rfl, l, _, 0, 0, rfl, rfl, hl1, ?_, ?_⟩
      · unfold ixN
        rw [if_pos (by decide), if_pos (by simp only [List.length_map, List.length_cons]; omega)]
        rfl
      dsimp only
      have hl2 : upd H1 l (.lst (((d0 :: dr).map V.int).set 0 (.int (d0 / m)))) l = some (.lst ((d0 / m :: dr).map V.int)) := upd_same
      have hp2 : upd H1 l (.lst (((d0 :: dr).map V.int).set 0 (.int (d0 / m)))) p = some (.dK (dkv (.ref l) st)) := by rw [upd_ne nlp.symm]; exact hp1
      have E2 : Ext p l H (upd H1 l (.lst (((d0 :: dr).map V.int).set 0 (.int (d0 / m))))) := E1.at (.inr rfl)
      generalize upd H1 l (.lst (((d0 :: dr).map V.int).set 0 (.int (d0 / m)))) = H2 at hp2 hl2 E2
      refine ⟨.int d0, rfl, .int m, rfl, _, _, rfl, rfl, _, rfl, ?_⟩
      refine join2 (H2 := H2) (R := fun H3 => ∃ ds3 : List Int, H3 p = some (.dK (dkv (.ref l) st)) ∧ H3 l = some (.lst (ds3.map V.int)) ∧ ds3.length ≤ 63 ∧ Ext p l H H3)
        (fun H3 hR => ?_) (fun _ => ⟨d0 / m :: dr, hp2, hl2, hd, E2⟩) (fun _ tail => ?_)
      · obtain ⟨ds3, hp3, hl3, hd3, E3⟩ := hR
        refine ⟨.int d0, rfl, .inl ⟨_, rfl, .int m, rfl, _, _, rfl, rfl, (by show 0 < m; omega), ?_⟩⟩
        exact q _ _ ⟨ds3, st, hp3, hl3, hd3⟩ E3 (Int.emod_nonneg _ (by omega)) (Int.emod_lt_of_pos _ (by omega))
      · refine ⟨.ref l, rfl, .inl ⟨rfl, _, SqL.of hl2⟩, l, _, 0, 0, .int (d0 / m), rfl, rfl, hl2, by decide, by decide, ?_, rfl, ?_⟩
        · exact (ixN_seq (by unfold ixN; rw [if_pos (by decide), if_pos (by simp only [List.length_map, List.length_cons]; omega)]; rfl)).1
        · exact tail _ ⟨dr, by rw [upd_ne nlp.symm]; exact hp2, upd_same, by omega, E2.at (.inr rfl)⟩
end
end Kr
namespace Kr
open PySem PySem.Spec PyProof.Rows L2
/-! ### defs by their names -/
section
variable {P : Program} {w : World} {K : PySem.W.Frag} {mg : Str → Option Value} {base : Heap}
end
section
variable {P : Program} {w : World} {K : PySem.W.Frag} {mg : Str → Option Value} {base : Heap}
theorem o_draw (D : Df K mg "_law_draw" sDraw ["box", "many"]) (B : Bi mg) : Ok P w K mg base 1 "_law_draw" ["box", "many"] spDraw := D.ok fun _ _ F => ok_draw F B
theorem o_deck (D : Df K mg "_law_box" sBox ["script"]) (B : Bi mg) : Ok P w K mg base 1 "_law_box" ["script"] (spDeck K) := D.ok fun _ _ F => ok_deck F B
end
end Kr
namespace Kr
open PySem PySem.Spec PyProof.Rows L2
/-! ### beside the deck -/
theorem Ext.mut {p l f : Addr} {H H' : Hp} {o : HO} (e : Ext p l H H') (h : H f = none) : Ext p l H (upd H' f o) := fun b x hb => by
  obtain ⟨_, _, h5⟩ := hid_some hb
  obtain ⟨h1, h2, h3⟩ := hid_some (e b x hb)
  rw [hid_ne h1 h2, upd_ne (ne_of_none h5 h)]
  exact h3
theorem Deck.mut {H : Hp} {p l f : Addr} {o : HO} (d : Deck H p l) (h1 : f ≠ p) (h2 : f ≠ l) : Deck (upd H f o) p l := by
  obtain ⟨ds, st, a, b, c⟩ := d.ex
  exact ⟨ds, st, by rw [upd_ne h1.symm]; exact a, by rw [upd_ne h2.symm]; exact b, c⟩
theorem Ext.free {p l f : Addr} {H H' : Hp} (e : Ext p l H H') (h : H' f = none) (h1 : f ≠ p) (h2 : f ≠ l) : H f = none := by
  cases q : H f with
  | none => rfl
  | some o =>
    have := (hid_some (e f o (by rw [hid_ne h1 h2]; exact q))).2.2
    rw [h] at this
    cases this
theorem Ext.at_ {p l f : Addr} {H H' : Hp} {o : HO} (e : Ext p l H H') (h1 : f ≠ p) (h2 : f ≠ l) (q : H f = some o) : H' f = some o := (hid_some (e f o (by rw [hid_ne h1 h2]; exact q))).2.2
/-- tuples stand apart from the deck -/
theorem TS.hide {p l : Addr} {H : Hp} (D : Deck H p l) : TS H (hid p l H) := fun b xs h => by
  obtain ⟨ds, st, h1, h2, _⟩ := D.ex
  rw [hid_ne (ne_of h h1 (by intro z; cases z)) (ne_of h h2 (by intro z; cases z))]
  exact h
theorem TS.deck {p l : Addr} {H H' : Hp} (D : Deck H p l) (E : Ext p l H H') : TS H H' := (TS.hide D).trans ((TS.of E).trans (TS.of (hid_same p l H')))
/-- a list of a new address stands apart -/
structure Apart (p l f : Addr) : Prop where
  p : f ≠ p
  l : f ≠ l
theorem Deck.apart {H : Hp} {p l q : Addr} (d : Deck H p l) (h : H q = none) : Apart p l q := ⟨(d.new h).1, (d.new h).2⟩
theorem Apart.of {H : Hp} {p l f : Addr} (d : Deck H p l) (h : hid p l H f ≠ none) : Apart p l f := by
  cases q : hid p l H f with
  | none => exact absurd q h
  | some o => exact ⟨(hid_some q).1, (hid_some q).2.1⟩
end Kr
namespace Kr
open PySem PySem.Spec PyProof.Rows L2
theorem new_dq {p l q : Addr} {H : Hp} {o : HO} (D : Deck H p l) (h : H q = none) : Ext p l H (upd H q o) ∧ Deck (upd H q o) p l ∧ hid p l (upd H q o) q = some o := by
  obtain ⟨h1, h2⟩ := D.new h
  exact ⟨Ext.rfl.new h, D.mut h1 h2, hid_upd h1 h2⟩
theorem seqIx {r : Int} {n : Nat} (h0 : 0 ≤ r) (h1 : r < n) : seqIndex? r n = some r.toNat := (ixN_seq (by unfold ixN; rw [if_pos h0, if_pos h1])).1
theorem erasev_perm (zs : List V) {k : Nat} (h : k < zs.length) : (zs[k] :: zs.eraseIdx k).Perm zs := by
  rw [List.eraseIdx_eq_take_drop_succ]
  have e : zs = zs.take k ++ zs[k] :: zs.drop (k + 1) := by
    rw [← List.drop_eq_getElem_cons h, List.take_append_drop]
  exact List.perm_middle.symm.trans (.of_eq e.symm)
/-- items in a drawn order -/
def spMixV : Sp := fun vs H Q _ => ∃ (p l a : Addr) (xs : List V), vs = [.ref p, .ref a] ∧ Deck H p l ∧ hid p l H a = some (.lst xs) ∧ xs.length ≤ 1000 ∧
  ∀ (H' : Hp) (f : Addr) (ys : List V), Deck H' p l → Ext p l H H' → H f = none → hid p l H' f = some (.lst ys) → ys.Perm xs → Q (.ref f) H'
def spDeed : Sp := fun vs H Q _ => ∃ (p l : Addr) (n : Nat), vs = [.ref p, .int (n : Int)] ∧ Deck H p l ∧ 3 ≤ n ∧ n ≤ 6 ∧ ∀ H' v m, Deck H' p l → Ext p l H H' → DeedAt H' v m → Deed n m → Q v H'
def spDrawn : Sp := fun vs H Q _ => ∃ (p l : Addr) (n : Nat), vs = [.ref p, .int (n : Int)] ∧ Deck H p l ∧ 3 ≤ n ∧ n ≤ 6 ∧ ∀ H' v T, Deck H' p l → Ext p l H H' → Dq H' v (tabD T) → TabOk n T → Q v H'
end Kr
namespace Kr
open PySem PySem.Spec PyProof.Rows L2
/-- a drawn item of a list or a tuple -/
def spPick : Sp := fun vs H Q _ => ∃ (p l a : Addr) (xs : List V), vs = [.ref p, .ref a] ∧ Deck H p l ∧ (hid p l H a = some (.lst xs) ∨ hid p l H a = some (.tup xs)) ∧ 0 < xs.length ∧ xs.length < 100000 ∧
  ∀ (H' : Hp) (r : Nat) (v : V), Deck H' p l → Ext p l H H' → xs[r]? = some v → Q v H'
section
variable {P : Program} {w : World} {K : PySem.W.Frag} {mg : Str → Option Value} {base : Heap}
theorem o_pick (D : Df K mg "_law_pick" sPick ["box", "items"]) (B : Bi mg) (d : Ok P w K mg base 1 "_law_draw" ["box", "many"] spDraw) : Ok P w K mg base 2 "_law_pick" ["box", "items"] spPick := by
  have scPk : FnScope ["box", "items"] ["box", "items"] (defScope sPick) := ⟨rfl, rfl, rfl, by decide +kernel, rfl, by decide +kernel, by decide +kernel⟩
  refine D.ok fun f fd F => F.ok scPk (fun vs H Q E h => ?_) (fun cdv A outer s H vs Q E hr h => ?_)
  · obtain ⟨p, l, a, xs, rfl, _⟩ := h
    rfl
  · obtain ⟨p, l, a, xs, rfl, Dk, ha, h0, hl, q⟩ := h
    refine ⟨_, pss_one (ps_ret (pe_ix ix_seq (pv 1) (pe_fn d hr (by rfl) (pa_cons (pv 0) (pa_cons (pe_callB call_len_seq (by rfl) B.len boot_len (pa_cons (pv 1) pa_nil)) pa_nil))) (fun _ _ => rfl))), ?_⟩
    have hs : SqL K H a xs ∨ SqT K H a xs := ha.elim (fun z => .inl (SqL.of (hid_same p l H _ _ z))) fun z => .inr (SqT.of (hid_same p l H _ _ z))
    refine ⟨.ref a, rfl, .ref p, rfl, .ref a, rfl, a, xs, rfl, hs, p, l, (xs.length : Nat), rfl, Dk, by omega, by omega, fun H2 z D2 E2 z0 z1 => ?_⟩
    obtain ⟨r, rfl⟩ : ∃ r : Nat, z = r := ⟨z.toNat, by omega⟩
    obtain ⟨v, hv⟩ : ∃ v, xs[r]? = some v := ⟨_, List.getElem?_eq_getElem (by omega)⟩
    have k := q H2 r v D2 E2 hv
    rcases ha with z | z
    · exact .inl ⟨a, xs, r, v, rfl, rfl, SqL.of (hid_same p l H2 _ _ (E2 _ _ z)), atI_nat hv, k⟩
    · exact .inr (.inl ⟨a, xs, r, v, rfl, rfl, SqT.of (hid_same p l H2 _ _ (E2 _ _ z)), atI_nat hv, k⟩)
end
end Kr
namespace Kr
open PySem PySem.Spec PyProof.Rows L2
/-! ### displays beside the deck -/
def frD (p l : Addr) : Fr := ⟨fun G => Deck G p l, fun A B => Ext p l A B, Ext.rfl, fun a b => Same.trans a b, fun s d => d.up s, fun s => Ext.of s, fun D E => TS.deck D E⟩
section
variable {P : Program} {w : World} {K : PySem.W.Frag} {mg : Str → Option Value} {base : Heap}
variable {p l : Addr} {σ : L2.St} {H : Hp} {te tf : TE} {ta : TA} {n : Nat} {i j : Nat}
theorem bn_draw {N : Int → Prop} (hp : σ[i]? = some (some (.ref p))) (h : Bn (frD p l) te σ H fun m => 1 ≤ m ∧ m < 1073741824 ∧ ∀ r, 0 ≤ r → r < m → N r) : Bn (frD p l) (tCall spDraw [] E0 (tCons (tVar i) (tCons te tNil))) σ H N := fun G a b Q q =>
  ⟨_, hp, h G a b _ fun G1 m I1 r1 ⟨m0, m1, k⟩ => ⟨p, l, m, rfl, I1, m0, m1, fun G2 r D2 E2 h0 h1 => q G2 r D2 (Same.trans r1 E2) (k r h0 h1)⟩⟩
theorem bq_deed (hp : σ[i]? = some (some (.ref p))) (hn : σ[j]? = some (some (.int (n : Int)))) (n0 : 3 ≤ n) (n1 : n ≤ 6) : Bq (frD p l) (tCall spDeed [] E0 (tCons (tVar i) (tCons (tVar j) tNil))) σ H (fun d => ∃ m, d = deedD m ∧ Deed n m) := fun G a b Q q =>
  ⟨_, hp, _, hn, p, l, n, rfl, a, n0, n1, fun G1 v d D1 E1 qv hd => q G1 v _ D1 E1 (deed_dq qv) (deed_flat d) ⟨d, rfl, hd⟩⟩
theorem flat_mem : ∀ {es : List PyData}, flatTA es = true → ∀ d ∈ es, flatT d = true
  | e :: es, h, d, hd => by
    have h2 : flatT e = true ∧ flatTA es = true := by simpa [flatTA] using h
    rcases List.mem_cons.mp hd with rfl | hd
    · exact h2.1
    · exact flat_mem h2.2 d hd
theorem bq_pick {S : List PyData → Prop} {R : PyData → Prop} {m : Nat} (hp : σ[i]? = some (some (.ref p))) (h : BqA (frD p l) (m + 1) ta σ H S) (hS : ∀ ds d, S ds → d ∈ ds → R d) (hm : m < 10000 := by decide) : Bq (frD p l) (tCall spPick [] E0 (tCons (tVar i) (tCons (tLst ta) tNil))) σ H R := fun G a b Q q =>
  ⟨_, hp, bq_lst h a b (by omega) fun G1 L vs ds I1 r1 q1 l1 f1 k nL => by
    obtain ⟨n1, n2⟩ := Deck.new I1 nL
    have s := same_new (o := .lst vs) nL
    have hl := q1.len
    refine ⟨p, l, L, vs, rfl, Deck.up I1 s, .inl (hid_upd n1 n2), by omega, by omega, fun G2 x v D2 E2 hx => ?_⟩
    obtain ⟨d, hd, qd⟩ := q1.get hx
    have fd : flatT d = true := flat_mem f1 d (List.mem_of_getElem? hd)
    exact q G2 v d D2 (Same.trans r1 (Same.trans (Ext.of s) E2)) (Dq.upT (TS.deck (Deck.up I1 s) E2) fd (qd.up s)) fd (hS ds d k (List.mem_of_getElem? hd))⟩
theorem bn_pick {N : Int → Prop} {m : Nat} (hp : σ[i]? = some (some (.ref p))) (h : BqA (frD p l) (m + 1) ta σ H fun ds => ∀ d ∈ ds, ∃ x, d = .int x ∧ N x) (hm : m < 10000 := by decide) : Bn (frD p l) (tCall spPick [] E0 (tCons (tVar i) (tCons (tLst ta) tNil))) σ H N :=
  bn_of (bq_pick (R := fun d => ∃ x, d = .int x ∧ N x) hp h (fun ds d k hd => k d hd) hm) fun d k => k
/-- a list that a comprehension over a range fills with flat data, each drawn -/
theorem bq_lcR {g : Nat} {vs : List Nat} {R : PyData → Prop} {m : Nat} {Qd : Hp → Prop} {G : Hp} {D : Addr} (nD : G D = none) (hm : m ≤ 100000) (a : Deck G p l) (hw : ∀ x : Int, wipe ((wipe σ vs).set g (some (.int x))) vs = wipe σ vs)
    (h : ∀ k, k < m → Bq (frD p l) te ((wipe σ vs).set g (some (.int (k : Int)))) G R) (q : ∀ G1 us ds, Deck G1 p l → Ext p l G G1 → D ≠ p → D ≠ l → G1 D = some (.lst us) → DqA G1 us ds → ds.length = m → flatTA ds = true → (∀ d ∈ ds, R d) → Qd G1) :
    ∃ W : Nat → Nat → Hp → Prop, (∃ k, W 0 k (upd G D (.lst []))) ∧ ∀ i k H, W i k H →
      ((Itr 0 m).stop i H ∧ Qd H) ∨ ((Itr 0 m).go i H ∧ ∃ Nx : Hp → Prop, (∀ H', Nx H' → ∃ k', k' < k ∧ W (i + 1) k' H') ∧ ∀ x H', (Itr 0 m).yld i H x H' → gName g x (wipe σ vs) H' fun σ2 H2 => wipe σ2 vs = wipe σ vs ∧ tYes σ2 H2 fun b H3 =>
        if b = true then te σ2 H3 fun y H4 => ∃ acc, H4 D = some (.lst acc) ∧ acc.length < sizeLine ∧ Nx (upd H4 D (.lst (acc ++ [y]))) else Nx H3) := by
  obtain ⟨nDp, nDl⟩ := a.new nD
  refine lc_it (walk_rg (n := m)) (fun i G2 => ∃ (us : List V) (ds : List PyData), G2 D = some (.lst us) ∧ Deck G2 p l ∧ Ext p l G G2 ∧ us.length = i ∧ DqA G2 us ds ∧ flatTA ds = true ∧ ∀ d ∈ ds, R d) ⟨[], [], upd_same, a.mut nDp nDl, Ext.mut Ext.rfl nD, rfl, .nil, rfl, (fun _ h => nomatch h)⟩ (fun _ _ _ _ => trivial) ?_ ?_
  · rintro i x _ G2 hi ⟨us, ds, hD, DG, EG, hul, qu, fu, hds⟩ ⟨rfl, rfl⟩
    refine ⟨hw _, ?_⟩
    dsimp only [tYes]
    rw [if_pos rfl]
    refine h i hi _ DG EG _ fun G3 v d D3 E3 qd fd hd => ?_
    have D3 : Deck G3 p l := D3
    have E3 : Ext p l G2 G3 := E3
    have hD3 := E3.at_ nDp nDl hD
    have ts3 : TS G3 (upd G3 D (.lst (us ++ [v]))) := TS.lst hD3
    refine ⟨us, hD3, szm (by omega), us ++ [v], ds ++ [d], upd_same, D3.mut nDp nDl, Ext.mut (Same.trans EG E3) nD, by rw [List.length_append, hul]; rfl, dqa_snoc (DqA.upT ts3 fu (DqA.upT (TS.deck DG E3) fu qu)) (Dq.upT ts3 fd qd), ?_, fun y hy => ?_⟩
    · have : ∀ e : List PyData, flatTA e = true → flatTA (e ++ [d]) = true := by
        intro e
        induction e with
        | nil => intro _; simp [flatTA, fd]
        | cons x e ih =>
          intro h
          have h3 : flatT x = true ∧ flatTA e = true := by simpa [flatTA] using h
          simp [flatTA, h3.1, ih h3.2]
      exact this ds fu
    · rcases List.mem_append.mp hy with c | c
      · exact hds y c
      · rw [List.mem_singleton.mp c]
        exact hd
  · rintro G2 ⟨us, ds, hD, DG, EG, hul, qu, fu, hds⟩
    exact q G2 us ds DG EG nDp nDl hD qu (by rw [← qu.len, hul]) fu hds
end
end Kr
namespace Kr
open PySem PySem.Spec PyProof.Rows L2
section
variable {prog : Program} {w : World} {A : Around} {E : Value → Shared → Prop} {s : Shared}
/-- the heap behind a collecting -/
def gathered (h : Heap) (vs : List Value) : Heap := (h.push (seqObj "list" #[] 0)).update h.objs.size (Obj.mapSeq (· ++ vs.toArray))
theorem collect_tup {t : Addr} {vs : List Value} {Q : List Value → Shared → Prop} (hl : IsTup s.heap t vs.toArray) (h : Q vs { s with heap := gathered s.heap vs }) (hsz : vs.length ≤ sizeLine) : wpAny (model prog w) A (collect (.ref t)) Q E s := by
  obtain ⟨ot, gt, ct, nt, dt⟩ := id hl
  unfold collect
  refine wpAny_bind (wpAny_runValue (codeAny_builtin entry_proto_collect' ?_))
  show wpAny (model prog w) _ (do again (.builtin "list.__iadd__" ⟨[← newList [], .ref t], []⟩)) _ _ s
  refine wpAny_bind (wpAny_newList (wpAny_pure ⟨Code.quiet_builtin _ (by decide +kernel), codeAny_builtin entry_list_iadd' (?_ : wpAny (model prog w) _ (Builtin.List.listExtendWith (.ref s.heap.objs.size) (.ref t) (.ref s.heap.objs.size)) _ _ { s with heap := s.heap.push (seqObj "list" #[] 0) })⟩))
  unfold Builtin.List.listExtendWith
  have gt' : (s.heap.push (seqObj "list" #[] 0)).get? t = some ot := Heap.get?_push_of_some _ gt
  refine wpAny_bind (wpAny_typeOf (T := "tuple") ⟨ot, gt', ct⟩ ?_)
  have tt : (Value.type "tuple" == Value.type "tuple") = true := by rfl
  rw [if_pos (by rw [tt]; simp)]
  refine wpAny_bind (listItems_at gt' dt (wpAny_bind (listItems_at (xs := #[]) (n := 0) (Heap.get?_push_size _ rfl) rfl ?_)))
  rw [if_neg (by simp)]
  refine wpAny_bind (listUpdate_at (xs := #[]) (n := 0) (Heap.get?_push_size _ rfl) rfl (wpAny_pure ?_) (Nat.zero_le _) (by show (#[] ++ vs.toArray).size ≤ sizeLine + 1; simp only [Array.size_append, List.size_toArray, List.length_nil]; omega))
  show wpAny (model prog w) A (do let ob ← load s.heap.objs.size; match ob.data with | .seq xs _ => pure xs.toList | _ => unsupported "internal:collect") Q E { s with heap := gathered s.heap vs }
  refine wpAny_bind (wpAny_load (get?_update_seq (Heap.get?_push_size _ rfl) _) ?_)
  show wpAny (model prog w) A (pure ((#[] : Array Value) ++ vs.toArray).toList) Q E _
  have e0 : ((#[] : Array Value) ++ vs.toArray).toList = vs := by simp
  rw [e0]
  exact wpAny_pure h
theorem sorted_tup {t : Addr} {vs : List Value} {ltv : Value → Value → Bool} {Q : Value → Shared → Prop} (O : SrtO.Swo ltv) (hl : IsTup s.heap t vs.toArray) (hz : vs.length ≤ sizeLine)
    (hS : 2 ≤ vs.length → ∀ (h₁ : Heap) (a : Addr), h₁.get? a = some (seqObj "list" vs.toArray 0) → (∀ b o, s.heap.get? b = some o → b ≠ a ∧ h₁.get? b = some o) → SrtO.SortableO prog w A.in1.in1 { s with heap := h₁ } a vs ltv)
    (h : ∀ out : List Value, SrtO.Srtd ltv out → SrtO.Stb ltv out vs → Q (.ref (s.heap.objs.size + 1)) { s with heap := sortedAll s.heap vs out.toArray }) : wpAny (model prog w) A (call (.builtin "sorted") [.ref t]) Q E s := by
  refine Calls.call_function_entry kind_sorted plain_sorted entry_sorted (args_sorted1 _) ?_
  unfold Builtin.«sorted»
  refine wpAny_bind (m := checkCount "sorted" 1 1 _) (wpAny_pure (wpAny_bind (collect_tup hl (wpAny_bind (wpAny_newList ?_ hz)) hz)))
  have z1 : (gathered s.heap vs).objs.size = s.heap.objs.size + 1 := (Heap.size_update _ _ _).trans (size_push' _ _)
  have lst : ((gathered s.heap vs).push (seqObj "list" vs.toArray 0)).get? (s.heap.objs.size + 1) = some (seqObj "list" vs.toArray 0) := by
    rw [← z1]; exact Heap.get?_push_size _ rfl
  have stays : ∀ b o, s.heap.get? b = some o → b ≠ s.heap.objs.size + 1 ∧ ((gathered s.heap vs).push (seqObj "list" vs.toArray 0)).get? b = some o := fun b o q => by
    have lt := Heap.lt_size q
    refine ⟨Nat.ne_of_lt (Nat.lt_succ_of_lt lt), Heap.get?_push_of_some _ ?_⟩
    unfold gathered
    rw [Heap.get?_update_ne _ _ _ _ (Nat.ne_of_lt lt)]
    exact Heap.get?_push_of_some _ q
  show wpAny (model prog w) _ _ _ _ { s with heap := (gathered s.heap vs).push (seqObj "list" vs.toArray 0) }
  rw [z1]
  exact wpAny_bind (wpAny_holding (wpAny_call_entry slot_list_sort ⟨_, lst, rfl⟩ entry_list_sort (SrtO.list_sort_ord O lst hz (fun h2 => hS h2 _ _ lst stays) fun out hs hb => ⟨_, rfl, wpAny_pure ⟨_, rfl, h out hs hb⟩⟩) (args_list_sort _)))
end
section
variable {X : Cx}
/-- sorted(t), t a tuple of whole numbers -/
def rSortT (K : PySem.W.Frag) : List V → Hp → VK → Prop := fun vs H Q => ∃ (a : Addr) (ns : List Int), vs = [V.ref a] ∧ SqT K H a (ns.map V.int) ∧ ∀ (ns' : List Int) (p : Addr), ns'.Perm ns → ns'.Pairwise (· ≤ ·) → H p = none → Q (.ref p) (upd H p (.lst (ns'.map V.int)))
theorem cr_sortT5 : CallR X (.builtin "sorted") (rSortT X.K) := by
  intro pins s σ H vs us Q I r h
  obtain ⟨a, ns, rfl, hs, q⟩ := h
  obtain ⟨its, rv, ht, hz⟩ := I.tuple hs
  rw [Vals.ref1 r]
  have hi := rv.ints
  refine sorted_tup SrtO.swo_int ht (by rw [← rv.length]; exact hz) (fun h2 _ _ _ _ => SrtO.ints_sortable hi h2) fun out h1 h2 => ?_
  obtain ⟨k1, k2, k3⟩ := SrtO.ints_out hi h1 h2
  obtain ⟨ep, he⟩ := PyProof.Rows.sortedAll_at s.heap its out.toArray
  have hl : ((out.map SrtO.iv).map V.int).length ≤ sizeLine := by
    rw [List.length_map] at hz
    rw [List.length_map, k2.length_eq]
    exact hz
  exact ⟨.ref _, upd H (s.heap.objs.size + 1) (.lst ((out.map SrtO.iv).map V.int)), I.laid (t' := s.toks) (fun _ _ => PyProof.Rows.sortedAll_old) (Nat.le_succ _) ⟨hl, out, ep, vals_of_ints k1, he⟩, rfl, q _ _ k2 k3 (I.hok.fresh (Nat.le_succ _))⟩
end
end Kr
namespace Kr
open PySem PySem.Spec PyProof.Rows L2
section
variable {P : Program} {w : World} {K : PySem.W.Frag} {mg : Str → Option Value} {base : Heap}
abbrev nDd : List Str := ["box", "n", "mixed", "size", "a", "b"]
theorem o_deed (D0 : Df K mg "_law_deed" sDeed ["box", "n"]) (B : Bi mg) (dr : Ok P w K mg base 1 "_law_draw" ["box", "many"] spDraw) (mx : Ok P w K mg base 2 "_law_mixed" ["box", "items"] spMixV) : Ok P w K mg base 3 "_law_deed" ["box", "n"] spDeed := by
  have scDd : FnScope nDd ["box", "n"] (defScope sDeed) := ⟨rfl, rfl, rfl, by decide +kernel, rfl, by decide +kernel, by decide +kernel⟩
  refine D0.ok fun f fd F => F.ok scDd (fun vs H Q E h => ?_) (fun cdv A outer s H vs Q E hr h => ?_)
  · obtain ⟨p, l, n, rfl, _⟩ := h
    rfl
  · obtain ⟨p, l, n, rfl, Dk, n0, n1, q⟩ := h
    have hr1 := hr.mono (show 1 ≤ 2 by decide)
    refine ⟨_, pss_cons (ps_par (i := 2) (j := 3) rfl scDd.nd rfl rfl (by decide) rfl rfl (pa_cons (pe_fn mx hr (by rfl) (pa_cons (pv 0) (pa_cons (pe_listRg rfl (by rfl) B.list (prg_1 (by rfl) B.range (pv 1))) pa_nil))) (pa_cons (pe_fn dr hr1 (by rfl) (pa_cons (pv 0) (pa_cons (pe_op op_sub (pv 1) pe_int) pa_nil))) pa_nil)) (by rfl))
      (pss_cons (ps_asg (pe_callB cr_sortedI (by rfl) B.sorted (by decide +kernel) (pa_cons (pe_slice sl_list (pv 2) (po_some (pv 3)) (po_some (pe_op op_add (pv 3) pe_int))) pa_nil)) (pg_unl rfl (pgs_cons (pg_name (i := 4) scDd.nd rfl (.inl rfl)) (pgs_cons (pg_name (i := 5) scDd.nd rfl (.inl rfl)) pgs_nil))))
      (pss_one (ps_ret (pe_tup (pa_cons (pe_callTy call_tuple_of (by rfl) B.tuple (by decide +kernel) (pa_cons (pe_callB cr_sortedI (by rfl) B.sorted (by decide +kernel) (pa_cons (pe_slice sl_list (pv 2) po_none (po_some (pv 3))) pa_nil)) pa_nil)) (pa_cons (pv 4) (pa_cons (pv 5) pa_nil))))))), ?_⟩
    refine ⟨.ref p, rfl, .int n, rfl, (n : Int), rfl, RgOk.of_le (Int.le_refl _) (by omega) (by decide) (by omega), fun b nb => ?_⟩
    rw [rg_ups]
    obtain ⟨e4, D4, hid4⟩ := new_dq (o := .lst ((ups n).map V.int)) Dk nb
    have hul : (ups n).length = n := by unfold ups; rw [List.length_map, List.length_range]
    refine ⟨p, l, b, _, rfl, D4, hid4, by rw [List.length_map, hul]; omega, fun H5 f5 ys D5 E5 nf5 hf hp => ?_⟩
    obtain ⟨zs, rfl, hpz⟩ : ∃ zs : List Int, ys = zs.map V.int ∧ zs.Perm (ups n) := by
      have hy : ∀ y ∈ ys, ∃ z, V.int z = y := fun y hy => by
        obtain ⟨z, _, e⟩ := List.mem_map.mp (hp.subset hy)
        exact ⟨z, e⟩
      have hg : ∀ ys : List V, (∀ y ∈ ys, ∃ z, V.int z = y) → ∃ zs : List Int, ys = zs.map V.int := by
        intro ys
        induction ys with
        | nil => intro _; exact ⟨[], rfl⟩
        | cons y ys ih =>
          intro h
          obtain ⟨z, rfl⟩ := h y List.mem_cons_self
          obtain ⟨zs, rfl⟩ := ih fun y hy => h y (List.mem_cons_of_mem _ hy)
          exact ⟨z :: zs, rfl⟩
      obtain ⟨zs, rfl⟩ := hg ys hy
      refine ⟨zs, rfl, ?_⟩
      have := hp.map (fun v => match v with | V.int z => z | _ => 0)
      simpa [List.map_map, Function.comp_def] using this
    have hzl : zs.length = n := by rw [hpz.length_eq, hul]
    have E15 : Ext p l H H5 := Same.trans e4 E5
    refine ⟨.ref p, rfl, .int n, rfl, _, _, rfl, rfl, p, l, (n : Int) - 1, rfl, D5, by omega, by omega, fun H6 z D6 E6 z0 z1 => ⟨_, _, rfl, ?_⟩⟩
    obtain ⟨s', rfl, hs⟩ : ∃ s : Nat, z = (s : Int) ∧ s + 2 ≤ n := ⟨z.toNat, by omega, by omega⟩
    have hf6 : H6 f5 = some (.lst (zs.map V.int)) := hid_same p l _ _ _ (E6 _ _ hf)
    have E16 : Ext p l H H6 := Same.trans E15 E6
    clear z0 z1 E6 D5 E5 hf nf5 hid4 D4 e4 nb
    refine ⟨.ref f5, rfl, .int s', rfl, (s' : Int), rfl, .int s', rfl, _, _, rfl, rfl, (s' : Int) + 2, rfl, f5, _, rfl, SqL.of hf6, fun c nc => ?_⟩
    have e1 : cutV (zs.map V.int) (some (s' : Int)) (some ((s' : Int) + 2)) = ((zs.drop s').take 2).map V.int := by
      unfold cutV
      rw [HT.sIx_nat, show ((s' : Int) + 2) = ((s' + 2 : Nat) : Int) by omega, HT.sIx_nat, List.length_map, hzl, Nat.min_eq_left (by omega), Nat.min_eq_left (by omega), show s' + 2 - s' = 2 by omega, ← List.map_drop, ← List.map_take]
    rw [e1]
    have s1 := same_new (o := .lst (((zs.drop s').take 2).map V.int)) nc
    refine ⟨c, (zs.drop s').take 2, rfl, SqL.of upd_same, fun ws d hpw hso nd => ?_⟩
    have s2 := same_new (o := .lst (ws.map V.int)) nd
    have hwl : ws.length = 2 := by rw [hpw.length_eq, List.length_take, List.length_drop]; omega
    obtain ⟨ab, rfl, hab⟩ := drawn_piece hpz ((List.take_sublist _ _).trans (List.drop_sublist _ _)) hpw hso
    rw [List.length_map] at hwl
    obtain ⟨x, y, rfl⟩ : ∃ x y, ab = [x, y] := by
      match ab, hwl with
      | [x, y], _ => exact ⟨x, y, rfl⟩
    refine ⟨d, _, rfl, SqL.of upd_same, rfl, .int (x : Nat), [.int (y : Nat)], rfl, .int (y : Nat), [], rfl, rfl, ?_⟩
    have s12 := s1.trans s2
    have hf7 := s12 _ _ hf6
    have D7 := D6.up s12
    have E17 : Ext p l H _ := Same.trans E16 (Ext.of s12)
    generalize upd (upd H6 c (.lst (((zs.drop s').take 2).map V.int))) d (.lst (([x, y].map fun (x : Nat) => (x : Int)).map V.int)) = H7 at hf7 D7 E17
    clear s12 s2 nd s1 nc E16 D6 hf6
    dsimp only [tNext]
    refine ⟨.ref f5, rfl, .int s', rfl, (s' : Int), rfl, f5, _, rfl, SqL.of hf7, fun c nc => ?_⟩
    rw [cut_to (by rw [List.length_map]; omega), ← List.map_take]
    have s1 := same_new (o := .lst ((zs.take s').map V.int)) nc
    refine ⟨c, zs.take s', rfl, SqL.of upd_same, fun us d2 hpu hsu nd2 => ?_⟩
    have s2 := same_new (o := .lst (us.map V.int)) nd2
    obtain ⟨own, rfl, hown⟩ := drawn_piece hpz (List.take_sublist _ _) hpu hsu
    refine ⟨d2, _, rfl, .inl ⟨SqL.of upd_same, fun t nt => ?_⟩⟩
    have s3 := same_new (o := .tup ((own.map fun (x : Nat) => (x : Int)).map V.int)) nt
    refine ⟨.int (x : Nat), rfl, .int (y : Nat), rfl, by show 3 ≤ sizeLine; decide, fun e ne => ?_⟩
    have s4 := same_new (o := .tup [.ref t, .int (x : Nat), .int (y : Nat)]) ne
    have s14 := s1.trans (s2.trans (s3.trans s4))
    have hnz : zs.Nodup := by
      have h0 : (ups n).Nodup := List.Pairwise.map _ (fun a b (h : a < b) => by show ((a : Nat) : Int) ≠ b; omega) List.pairwise_lt_range
      exact hpz.symm.nodup h0
    have hdj : ∀ k : Nat, (k : Int) ∈ (zs.drop s').take 2 → k ∉ own := fun k hk ho => by
      have h1 : (k : Int) ∈ zs.take s' := hpu.subset (List.mem_map.mpr ⟨k, ho, rfl⟩)
      have h2 : (k : Int) ∈ zs.drop s' := List.take_subset _ _ hk
      have h3 : (zs.take s' ++ zs.drop s').Nodup := by rw [List.take_append_drop]; exact hnz
      exact (List.nodup_append.mp h3).2.2 _ h1 _ h2 rfl
    have hxy := hab.1
    have hbd := hab.2
    refine q _ _ (own, x, y) (D7.up s14) (Same.trans E17 (Ext.of s14)) ⟨e, t, rfl, upd_same, ?_⟩ ⟨hown, ?_, ?_, hdj x (hpw.subset (by simp)), hdj y (hpw.subset (by simp))⟩
    · have := s4 _ _ (show upd (upd (upd H7 c (.lst ((zs.take s').map V.int))) d2 (.lst ((own.map fun (x : Nat) => (x : Int)).map V.int))) t (.tup ((own.map fun (x : Nat) => (x : Int)).map V.int)) t = _ from upd_same)
      rw [this]
      unfold lv
      rw [List.map_map]
      rfl
    · exact (List.pairwise_cons.mp hxy).1 y (by simp)
    · have := (hbd y (by simp)).2
      show y < n
      omega
end
end Kr
namespace Kr
open PySem PySem.Spec PyProof.Rows L2
/-! ### words of terms asked: term[0] == ".." -/
section
variable {K : PySem.W.Frag} {σ : L2.St} {H : Hp} {i : Nat} {a : Addr} {xs : List V} {w x : Str} {D : Ends} {t u : L2.TS}
abbrev tWord (K : PySem.W.Frag) (i : Nat) (x : Str) : TT := tTest (tOp rEq (tOp (rIxT K) (tVar i) (tC (.int 0))) (tC (.str x)))
theorem w_test {Q : Bool → Hp → Prop} (hv : σ[i]? = some (some (.ref a))) (ha : H a = some (.tup (.str w :: xs))) (q : Q (decide (V.str w = V.str x)) H) : tWord K i x σ H Q := ⟨.ref a, hv, a, _, ((0 : Nat) : Int), _, rfl, rfl, SqT.of ha, atI_nat (j := 0) rfl, rfl, _, rfl, q⟩
theorem sq_wno (hv : σ[i]? = some (some (.ref a))) (ha : H a = some (.tup (.str w :: xs))) (hne : decide (V.str w = V.str x) = false) (h : u D σ H) : tSeq (tIfS (tWord K i x) t tNext) u D σ H := w_test (Q := fun b H1 => if b = true then t { D with nx := u D } σ H1 else u D σ H1) hv ha (by rw [hne]; exact iteF h)
theorem sq_wyes (hv : σ[i]? = some (some (.ref a))) (ha : H a = some (.tup (.str w :: xs))) (h : t (nxD D u) σ H) : tSeq (tIfS (tWord K i w) t tNext) u D σ H := w_test (Q := fun b H1 => if b = true then t { D with nx := u D } σ H1 else u D σ H1) hv ha (by rw [decide_eq_true rfl]; exact iteT h)
theorem rix {k : Int} {j : Nat} {v : V} {Q : VK} (hv : σ[i]? = some (some (.ref a))) (ha : H a = some (.tup xs)) (hk : k = ((j : Nat) : Int)) (hx : xs[j]? = some v) (q : Q v H) : tOp (rIxT K) (tVar i) (tC (.int k)) σ H Q := by
  subst hk
  exact ⟨.ref a, hv, a, xs, _, v, rfl, rfl, SqT.of ha, atI_nat hx, q⟩
end
/-- what stands at the data of a term -/
theorem tm_doo {H : Hp} {v : V} {d : Mv} (h : Dq H v (tmD (.doo d))) : ∃ a x, v = .ref a ∧ H a = some (.tup [.str "do", x]) ∧ Dq H x (deedD d) := by
  simp only [tmD] at h
  obtain ⟨a, xs, rfl, ha, qx⟩ := Dq.tup_inv h
  cases qx with
  | cons q1 qx =>
  cases qx with
  | cons q2 qx =>
  cases qx
  cases q1
  exact ⟨a, _, rfl, ha, q2⟩
theorem tm_prt {H : Hp} {v : V} {j : Nat} (h : Dq H v (tmD (.part j))) : ∃ a, v = .ref a ∧ H a = some (.tup [.str "part", .int (j : Int)]) := by
  simp only [tmD] at h
  obtain ⟨a, xs, rfl, ha, qx⟩ := Dq.tup_inv h
  cases qx with
  | cons q1 qx =>
  cases qx with
  | cons q2 qx =>
  cases qx
  cases q1
  cases q2
  exact ⟨a, rfl, ha⟩
theorem tm_rw {H : Hp} {v : V} {ts : List Tm} (h : Dq H v (tmD (.row ts))) : ∃ a b ys, v = .ref a ∧ H a = some (.tup [.str "row", .ref b]) ∧ H b = some (.tup ys) ∧ DqA H ys (ts.map tmD) ∧ ys.length = ts.length := by
  simp only [tmD] at h
  obtain ⟨a, xs, rfl, ha, qx⟩ := Dq.tup_inv h
  cases qx with
  | cons q1 qx =>
  cases qx with
  | cons q2 qx =>
  cases qx
  cases q1
  obtain ⟨b, ys, rfl, hb, qy⟩ := Dq.tup_inv q2
  rw [tmDs_map] at qy
  exact ⟨a, b, ys, rfl, ha, hb, qy, by rw [qy.len, List.length_map]⟩
theorem tm_bk {H : Hp} {v : V} {t : Tm} (h : Dq H v (tmD (.back t))) : ∃ a x, v = .ref a ∧ H a = some (.tup [.str "back", x]) ∧ Dq H x (tmD t) := by
  simp only [tmD] at h
  obtain ⟨a, xs, rfl, ha, qx⟩ := Dq.tup_inv h
  cases qx with
  | cons q1 qx =>
  cases qx with
  | cons q2 qx =>
  cases qx
  cases q1
  exact ⟨a, _, rfl, ha, q2⟩
theorem tm_tms {H : Hp} {v : V} {t : Tm} {k : Nat} (h : Dq H v (tmD (.times t k))) : ∃ a x, v = .ref a ∧ H a = some (.tup [.str "times", x, .int (k : Int)]) ∧ Dq H x (tmD t) := by
  simp only [tmD] at h
  obtain ⟨a, xs, rfl, ha, qx⟩ := Dq.tup_inv h
  cases qx with
  | cons q1 qx =>
  cases qx with
  | cons q2 qx =>
  cases qx with
  | cons q3 qx =>
  cases qx
  cases q1
  cases q3
  exact ⟨a, _, rfl, ha, q2⟩
mutual
/-- all terms in it are done at most so often -/
def timK (c : Nat) : Tm → Prop
  | .doo _ => True
  | .part _ => True
  | .row ts => timKs c ts
  | .back t => timK c t
  | .times t k => k ≤ c ∧ timK c t
def timKs (c : Nat) : List Tm → Prop
  | [] => True
  | t :: ts => timK c t ∧ timKs c ts
end
theorem timKs_of {c : Nat} : ∀ {ts : List Tm}, (∀ t ∈ ts, timK c t) → timKs c ts
  | [], _ => by simp [timKs]
  | t :: ts, h => by
    simp only [timKs]
    exact ⟨h t List.mem_cons_self, timKs_of fun x hx => h x (List.mem_cons_of_mem _ hx)⟩
theorem timKs_mem {c : Nat} : ∀ {ts : List Tm}, timKs c ts → ∀ t ∈ ts, timK c t
  | u :: ts, h, t, ht => by
    simp only [timKs] at h
    rcases List.mem_cons.mp ht with rfl | ht
    · exact h.1
    · exact timKs_mem h.2 t ht
end Kr
namespace Kr
open PySem PySem.Spec PyProof.Rows L2
local macro_rules | `(tactic| walk_at "bq") => `(tactic| repeat' (first | with_reducible refine bqa_nil ?_ | with_reducible refine bqa_cons ?_ | with_reducible refine bq_tup1 ?_ | with_reducible refine bq_tup2 ?_ | with_reducible refine bq_tup3 ?_ | with_reducible refine bq_str ?_ | with_reducible refine bq_c ?_ | with_reducible refine bn_c ?_ | with_reducible refine bn_op ?_))
/-- the data of a term of the law's: rows of at most ten, done at most three times -/
def IsTp (n k m : Nat) (d : PyData) : Prop := ∃ t, d = tmD t ∧ okTm (Deed n) 10 k t ∧ dep t ≤ m ∧ timK 3 t
theorem tp_do {n k m : Nat} {d : Mv} (h : Deed n d) : IsTp n k (m + 1) (.tuple [.str "do", deedD d]) := ⟨.doo d, by simp only [tmD], by simp only [okTm]; exact h, by simp only [dep]; omega, by simp only [timK]⟩
theorem tp_part {n k m : Nat} {i : Int} (h0 : 0 ≤ i) (h : i < k) : IsTp n k (m + 1) (.tuple [.str "part", .int i]) := ⟨.part i.toNat, by simp only [tmD]; rw [Int.toNat_of_nonneg h0], by simp only [okTm]; omega, by simp only [dep]; omega, by simp only [timK]⟩
theorem tp_back {n k m : Nat} {d : PyData} (h : IsTp n k m d) : IsTp n k (m + 1) (.tuple [.str "back", d]) := by
  obtain ⟨t, rfl, h1, h2, h3⟩ := h
  exact ⟨.back t, by simp only [tmD], by simp only [okTm]; exact h1, by simp only [dep]; omega, by simp only [timK]; exact h3⟩
theorem tp_times {n k m : Nat} {d : PyData} {i : Int} (h : IsTp n k m d) (h0 : 0 ≤ i) (hi : i ≤ 3) : IsTp n k (m + 1) (.tuple [.str "times", d, .int i]) := by
  obtain ⟨t, rfl, h1, h2, h3⟩ := h
  refine ⟨.times t i.toNat, by simp only [tmD]; rw [Int.toNat_of_nonneg h0], ?_, by simp only [dep]; omega, ?_⟩
  · simp only [okTm]
    exact ⟨Nat.le_trans (by omega : i.toNat ≤ 3) (by decide +kernel), h1⟩
  · simp only [timK]
    exact ⟨by omega, h3⟩
theorem tp_row {n k m : Nat} {ds : List PyData} (h : ∀ d ∈ ds, IsTp n k m d) (hl : ds.length ≤ 10) : IsTp n k (m + 1) (.tuple [.str "row", .tuple ds]) := by
  have : ∀ ds : List PyData, (∀ d ∈ ds, IsTp n k m d) → ∃ ts, ds = tmDs ts ∧ okTms (Deed n) 10 k ts ∧ depL ts ≤ m ∧ timKs 3 ts ∧ ts.length = ds.length := by
    intro ds
    induction ds with
    | nil => intro _; exact ⟨[], rfl, by simp [okTms], by simp [depL], by simp [timKs], rfl⟩
    | cons d ds ih =>
      intro h
      obtain ⟨t, rfl, a1, a2, a3⟩ := h d List.mem_cons_self
      obtain ⟨ts, rfl, b1, b2, b3, b4⟩ := ih fun x hx => h x (List.mem_cons_of_mem _ hx)
      exact ⟨t :: ts, by simp only [tmDs], by simp only [okTms]; exact ⟨a1, b1⟩, by simp only [depL]; exact Nat.max_le.mpr ⟨a2, b2⟩, by simp only [timKs]; exact ⟨a3, b3⟩, by simp [b4]⟩
  obtain ⟨ts, rfl, h1, h2, h3, h4⟩ := this ds h
  exact ⟨.row ts, by simp only [tmD], by simp only [okTm]; exact ⟨by omega, h1⟩, by simp only [dep]; omega, by simp only [timK]; exact h3⟩
theorem IsTp.mono {n k m k' m' : Nat} {d : PyData} (h : IsTp n k m d) (hk : k ≤ k' := by omega) (hm : m ≤ m' := by omega) : IsTp n k' m' d := by
  obtain ⟨t, rfl, h1, h2, h3⟩ := h
  exact ⟨t, rfl, okTm_mono (fun _ q => q) (Nat.le_refl _) hk t h1, by omega, h3⟩
def spTermP (n : Nat) : Sp := fun vs H Q _ => ∃ (p l : Addr) (many at_ deep : Nat), vs = [.ref p, .int (many : Int), .int (at_ : Int), .int (deep : Int)] ∧ Deck H p l ∧ 3 ≤ many ∧ many ≤ 6 ∧ at_ ≤ 400 ∧ 1 ≤ deep ∧ deep ≤ n ∧
  ∀ H' v d, Deck H' p l → Ext p l H H' → Dq H' v d → flatT d = true → IsTp many at_ deep d → Q v H'
section
variable {P : Program} {w : World} {K : PySem.W.Frag} {mg : Str → Option Value} {base : Heap}
abbrev nTp : List Str := ["box", "n", "at", "deep", "way", "turn"]
theorem scTp : FnScope nTp ["box", "n", "at", "deep"] (defScope sLTerm) := ⟨rfl, rfl, rfl, by decide +kernel, rfl, by decide +kernel, by decide +kernel⟩
theorem o_lTermP (D0 : Df K mg "_law_term" sLTerm ["box", "n", "at", "deep"]) (B : Bi mg) (dr : Ok P w K mg base 1 "_law_draw" ["box", "many"] spDraw) (dd : Ok P w K mg base 3 "_law_deed" ["box", "n"] spDeed) :
    ∀ n, Ok P w K mg base (3 + n) "_law_term" ["box", "n", "at", "deep"] (spTermP n)
  | 0 => D0.ok fun f fd F => by
    have no : ∀ vs H Q E, ¬ spTermP 0 vs H Q E := fun vs H Q E h => by
      obtain ⟨_, _, _, _, _, _, _, _, _, _, h1, h2, _⟩ := h
      omega
    exact ⟨fun vs H Q E h => absurd h (no vs H Q E), fun A outer s H args us vs Q E _ _ _ _ h => absurd h (no vs H Q E)⟩
  | n + 1 => by
    have ih := o_lTermP D0 B dr dd n
    refine D0.ok fun f fd F => F.ok scTp (fun vs H Q E h => ?_) (fun cdv A outer s H vs Q E hr h => ?_)
    · obtain ⟨_, _, _, _, _, rfl, _⟩ := h
      rfl
    · obtain ⟨p, l, many, at_, deep, rfl, Dk, m0, m1, ha, d0, d1, q⟩ := h
      have hr1 := hr.mono (show 1 ≤ 3 + n by omega)
      have hr3 := hr.mono (show 3 ≤ 3 + n by omega)
      refine ⟨_, pss_cons (ps_set (i := 4) scTp.nd rfl (.inl rfl) (pe_fn dr hr1 (by rfl) (pa_cons (pv 0) (pa_cons (pe_ifExp (pt_cmpR op_gt (pv 3) pe_int (nomark _)) pe_int pe_int) pa_nil))))
      (pss_cons (ps_if (PW.pt (pw_or (pt_cmpR op_lt (pv 4) pe_int (nomark _)) (pw_or1 (PW.pt (pw_and (pt_cmpR op_eq (pv 4) pe_int (nomark _)) (pw_and1 (pt_cmpR op_eq (pv 2) pe_int (nomark _)))))))) (pss_one (ps_ret (pe_tup (pa_cons pe_str (pa_cons (pe_fn dd hr3 (by rfl) (pa_cons (pv 0) (pa_cons (pv 1) pa_nil))) pa_nil))))) pss_nil)
      (pss_cons (ps_if (pt_cmpR op_eq (pv 4) pe_int (nomark _)) (pss_one (ps_ret (pe_tup (pa_cons pe_str (pa_cons (pe_fn dr hr1 (by rfl) (pa_cons (pv 0) (pa_cons (pv 2) pa_nil))) pa_nil))))) pss_nil)
      (pss_cons (ps_if (pt_cmpR op_lt (pv 4) pe_int (nomark _)) (pss_one (ps_ret (pe_tup (pa_cons pe_str (pa_cons (pe_callTy call_tuple_of (by rfl) B.tuple (by decide +kernel) (pa_cons (pe_lc (own := [("turn", 5)]) (g := gName 5) (tt := tYes) rfl scTp.nd (pi_range1 (by rfl) B.range (pa_cons (pe_fn dr hr1 (by rfl) (pa_cons (pv 0) (pa_cons pe_int pa_nil))) pa_nil)) (blkOk_by (own := [("turn", 5)]) (N := nTp) (sc := defScope sLTerm) (by decide +kernel)) (fun _ _ _ _ _ => pg_name (i := 5) scTp.nd rfl (.inl rfl)) (fun _ _ _ _ _ => pts_nil) (fun _ _ _ _ _ => (pe_fn ih hr (by rfl) (pa_cons (pv 0) (pa_cons (pv 1) (pa_cons (pv 2) (pa_cons (pe_op op_sub (pv 3) pe_int) pa_nil))))))) pa_nil)) pa_nil))))) pss_nil)
      (pss_cons (ps_if (pt_cmpR op_eq (pv 4) pe_int (nomark _)) (pss_one (ps_ret (pe_tup (pa_cons pe_str (pa_cons (pe_fn ih hr (by rfl) (pa_cons (pv 0) (pa_cons (pv 1) (pa_cons (pv 2) (pa_cons (pe_op op_sub (pv 3) pe_int) pa_nil))))) pa_nil))))) pss_nil)
      (pss_one (ps_ret (pe_tup (pa_cons pe_str (pa_cons (pe_fn ih hr (by rfl) (pa_cons (pv 0) (pa_cons (pv 1) (pa_cons (pv 2) (pa_cons (pe_op op_sub (pv 3) pe_int) pa_nil))))) (pa_cons (pe_fn dr hr1 (by rfl) (pa_cons (pv 0) (pa_cons pe_int pa_nil))) pa_nil)))))))))), ?_⟩
      have fin : ∀ {te : TE} {σ : L2.St} {G : Hp}, Deck G p l → Ext p l H G → Bq (frD p l) te σ G (IsTp many at_ deep) → te σ G Q := fun {te σ G} DG EG h => bq_at h DG fun G' v d D' E' qd fd hd => q G' v d D' (Same.trans EG E') qd fd hd
      have call : ∀ (σ : L2.St) (G : Hp), 2 ≤ deep → σ[0]? = some (some (.ref p)) → σ[1]? = some (some (.int (many : Int))) → σ[2]? = some (some (.int (at_ : Int))) → σ[3]? = some (some (.int (deep : Int))) →
          Bq (frD p l) (tCall (spTermP n) [] E0 (tCons (tVar 0) (tCons (tVar 1) (tCons (tVar 2) (tCons (tOp (rI0 fun i j => .int (i - j)) (tVar 3) (tC (.int 1))) tNil))))) σ G (IsTp many at_ (deep - 1)) := fun σ G d2 e0 e1 e2 e3 G1 D1 E1 Q' k =>
        ⟨_, e0, _, e1, _, e2, _, e3, _, _, rfl, rfl, p, l, many, at_, deep - 1, by rw [show ((deep - 1 : Nat) : Int) = (deep : Int) - 1 by omega]; rfl, D1, m0, m1, ha, by omega, by omega, fun G2 v d D2 E2 qd fd hd => k G2 v d D2 E2 qd fd hd⟩
      refine sq_asg (bn_at (F := frD p l) (N := fun w => 0 ≤ w ∧ w < 9 ∧ (3 ≤ w → 2 ≤ deep)) (bn_draw rfl (bn_ifc (bn_var rfl (bn_c ⟨fun c => bn_c ⟨by decide, by decide, fun r h0 h1 => ⟨h0, h1, fun _ => by have := of_decide_eq_true c; omega⟩⟩, fun c => bn_c ⟨by decide, by decide, fun r h0 h1 => ⟨h0, by omega, fun z => by omega⟩⟩⟩)))) Dk fun G1 w D1 E1 hw => ?_)
      have D1 : Deck G1 p l := D1
      have E1 : Ext p l H G1 := E1
      refine sq_if ?_
      have doD : ∀ {σ : L2.St} {G : Hp}, σ[0]? = some (some (.ref p)) → σ[1]? = some (some (.int (many : Int))) → Bq (frD p l) (tTup (tCons (tC (.str "do")) (tCons (tCall spDeed [] E0 (tCons (tVar 0) (tCons (tVar 1) tNil))) tNil))) σ G (IsTp many at_ deep) := fun {σ G} e0 e1 => by
        walk_at "bq"
        refine (bq_deed e0 e1 m0 m1).mono fun d ⟨md, e, hd⟩ => ?_
        walk_at "bq"
        rw [e]
        exact (tp_do (k := at_) (m := 0) hd).mono
      refine ⟨.int w, rfl, _, _, rfl, rfl, _, rfl, ite2 (fun c => ?_) (fun c => ?_)⟩
      · exact iteT (one_ret (fin D1 E1 (doD rfl rfl)))
      · have c1 : ¬ w < 2 := fun z => c (decide_eq_true z)
        refine ⟨.int w, rfl, rfl, _, rfl, ite2 (fun c2 => ?_) (fun c2 => ?_)⟩
        · have e2 : w = 2 := V.int.inj (of_decide_eq_true c2)
          refine ⟨.int (at_ : Int), rfl, rfl, _, rfl, ite2 (fun c3 => one_ret (fin D1 E1 (doD rfl rfl))) (fun c3 => ?_)⟩
          have e3 : ¬ at_ = 0 := fun z => c3 (decide_eq_true (by rw [z]; rfl))
          dsimp only [tNext]
          refine sq_if ?_
          refine ⟨.int w, rfl, rfl, _, rfl, ?_⟩
          rw [decide_eq_true (show V.int w = V.int 2 by rw [e2])]
          refine iteT (one_ret (fin D1 E1 ?_))
          walk_at "bq"
          refine bq_int (bn_draw (N := fun r => 0 ≤ r ∧ r < (at_ : Int)) rfl (bn_var rfl ⟨by omega, by omega, fun r h0 h1 => ⟨h0, h1⟩⟩)) fun r hr => ?_
          walk_at "bq"
          exact (tp_part (n := many) (m := 0) hr.1 hr.2).mono
        · have e2 : ¬ w = 2 := fun z => c2 (decide_eq_true (by rw [z]))
          have d2 := hw.2.2 (by have := hw.1; omega)
          refine iteF ?_
          dsimp only [tNext]
          refine sq_if ?_
          refine ⟨.int w, rfl, rfl, _, rfl, ?_⟩
          rw [decide_eq_false (show ¬ V.int w = V.int 2 from fun z => e2 (V.int.inj z))]
          refine iteF ?_
          dsimp only [tNext]
          refine sq_if ?_
          refine ⟨.int w, rfl, _, _, rfl, rfl, _, rfl, ite2 (fun c4 => ?_) (fun c4 => ?_)⟩
          · refine one_ret ?_
            refine ⟨.ref p, rfl, p, l, 5, rfl, D1, by decide, by decide, fun G2 r D2 E2 r0 r1 => ⟨r, rfl, by omega, by omega, fun D nD => bq_lcR nD (p := p) (l := l) (σ := [some (.ref p), some (.int (many : Int)), some (.int (at_ : Int)), some (.int (deep : Int)), some (.int w), none]) (vs := [5]) (g := 5) (m := r.toNat) (R := IsTp many at_ (deep - 1)) (by omega) D2 (fun _ => rfl) (fun k hk => call _ _ d2 rfl rfl rfl rfl) fun G3 us ds D3 E3 nDp nDl hD qu hl fu hds => ?_⟩⟩
            refine ⟨D, us, rfl, .inl ⟨SqL.of hD, fun t nt => ⟨by show 2 ≤ sizeLine; decide, fun t2 nt2 => ?_⟩⟩⟩
            have s1 := same_new (o := .tup us) nt
            have s2 := same_new (o := .tup [.str "row", .ref t]) nt2
            refine q _ _ (.tuple [.str "row", .tuple ds]) (D3.up (s1.trans s2)) (Same.trans (Same.trans (Same.trans E1 E2) E3) (Ext.of (s1.trans s2))) (.tup upd_same (.cons (.str _) (.cons (.tup (s2 _ _ upd_same) (qu.up (s1.trans s2))) .nil))) (by simp [flatT, flatTA, fu]) ?_
            have := tp_row hds (by omega)
            exact this.mono
          · dsimp only [tNext]
            refine sq_if ?_
            refine ⟨.int w, rfl, rfl, _, rfl, ite2 (fun c5 => ?_) (fun c5 => ?_)⟩
            · refine one_ret (fin D1 E1 ?_)
              walk_at "bq"
              refine (call _ _ d2 rfl rfl rfl rfl).mono fun d hd => ?_
              walk_at "bq"
              exact (tp_back hd).mono
            · dsimp only [tNext]
              refine one_ret (fin D1 E1 ?_)
              walk_at "bq"
              refine (call _ _ d2 rfl rfl rfl rfl).mono fun d hd => ?_
              walk_at "bq"
              refine bq_int (bn_draw (N := fun r => 0 ≤ r ∧ r ≤ 3) rfl (bn_c ⟨by decide, by decide, fun r h0 h1 => ⟨h0, by omega⟩⟩)) fun r hr => ?_
              walk_at "bq"
              exact (tp_times hd hr.1 hr.2).mono
end
end Kr
namespace Kr
open PySem PySem.Spec PyProof.Rows L2
theorem sum_castC : ∀ as : List Nat, ((as.map fun a : Nat => (a : Int)).sum) = ((as.sum : Nat) : Int)
  | [] => rfl
  | a :: as => by
    rw [List.map_cons, List.sum_cons, List.sum_cons, sum_castC as]
    omega
/-! ### the law's own count -/
def cntM : Mea Nat := ⟨fun _ => 1, List.sum, fun a => a, fun a k => a * k⟩
theorem sum_lt : ∀ {as : List Nat} {b : Nat}, (∀ a ∈ as, a ≤ b) → as.sum ≤ b * as.length
  | [], _, _ => Nat.zero_le _
  | a :: as, b, h => by
    have h1 := h a List.mem_cons_self
    have h2 := sum_lt fun x hx => h x (List.mem_cons_of_mem _ hx)
    rw [List.sum_cons, List.length_cons, Nat.mul_succ]
    omega
mutual
theorem cnt_lt {ws : List Nat} {W : Nat} (hw : ∀ a ∈ ws, a < 2 ^ W) : ∀ t : Tm, okTm (fun _ => True) 400 ws.length t → worth cntM ws t < 2 ^ (W + 110 * dep t)
  | .doo d, h => by
    simp only [worth, dep]
    exact Nat.one_lt_two_pow (by omega)
  | .part j, h => by
    simp only [okTm] at h
    simp only [worth, dep]
    rw [List.getD_eq_getElem?_getD, List.getElem?_eq_getElem h]
    exact Nat.lt_of_lt_of_le (hw _ (List.getElem_mem h)) (Nat.pow_le_pow_right (by decide) (by omega))
  | .row ts, h => by
    simp only [okTm] at h
    simp only [worth, dep]
    have h1 := cntL_lt hw ts h.2
    have h2 : (worthL cntM ws ts).sum ≤ 2 ^ (W + 110 * depL ts) * (worthL cntM ws ts).length := sum_lt fun a ha => Nat.le_of_lt (h1 a ha)
    have h3 : (worthL cntM ws ts).length ≤ 400 := by rw [worthL_map, List.length_map]; exact h.1
    refine Nat.lt_of_le_of_lt h2 (Nat.lt_of_le_of_lt (Nat.mul_le_mul_left _ h3) ?_)
    have h4 : 2 ^ (W + 110 * depL ts) * 2 ^ 110 = 2 ^ (W + 110 * (depL ts + 1)) := by rw [← Nat.pow_add]; congr 1
    rw [← h4]
    exact Nat.mul_lt_mul_of_pos_left (by decide +kernel) (Nat.two_pow_pos _)
  | .back t, h => by
    simp only [okTm] at h
    simp only [worth, dep]
    exact Nat.lt_of_lt_of_le (cnt_lt hw t h) (Nat.pow_le_pow_right (by decide) (by omega))
  | .times t k, h => by
    simp only [okTm] at h
    simp only [worth, dep]
    have h1 := cnt_lt hw t h.2
    have h4 : 2 ^ (W + 110 * dep t) * 2 ^ 110 = 2 ^ (W + 110 * (dep t + 1)) := by rw [← Nat.pow_add]; congr 1
    rw [← h4]
    exact Nat.mul_lt_mul'' h1 (Nat.lt_of_le_of_lt h.1 (by decide +kernel))
theorem cntL_lt {ws : List Nat} {W : Nat} (hw : ∀ a ∈ ws, a < 2 ^ W) : ∀ ts : List Tm, okTms (fun _ => True) 400 ws.length ts → ∀ x ∈ worthL cntM ws ts, x < 2 ^ (W + 110 * depL ts)
  | [], _, x, hx => by
    simp only [worthL] at hx
    exact nomatch hx
  | t :: ts, h, x, hx => by
    simp only [okTms] at h
    simp only [worthL] at hx
    simp only [depL]
    rcases List.mem_cons.mp hx with rfl | hx
    · exact Nat.lt_of_lt_of_le (cnt_lt hw t h.1) (Nat.pow_le_pow_right (by decide) (Nat.add_le_add_left (Nat.mul_le_mul_left _ (Nat.le_max_left _ _)) _))
    · exact Nat.lt_of_lt_of_le (cntL_lt hw ts h.2 x hx) (Nat.pow_le_pow_right (by decide) (Nat.add_le_add_left (Nat.mul_le_mul_left _ (Nat.le_max_right _ _)) _))
end
end Kr
namespace Kr
open PySem PySem.Spec PyProof.Rows L2
section
variable {P : Program} {w : World} {K : PySem.W.Frag} {mg : Str → Option Value} {base : Heap}
def spCount (n : Nat) : Sp := fun vs H Q _ => ∃ (L : Addr) (v : V) (t : Tm) (ws : List Nat) (W : Nat), vs = [.ref L, v] ∧ H L = some (.lst (ws.map fun a : Nat => V.int (a : Int))) ∧ Dq H v (tmD t) ∧ dep t ≤ n ∧ okTm (fun _ => True) 400 ws.length t ∧ (∀ a ∈ ws, a < 2 ^ W) ∧ W + 110 * n ≤ 900000 ∧ ∀ H', Same H H' → Q (.int ((worth cntM ws t : Nat) : Int)) H'
theorem dep_pos' : ∀ t : Tm, 1 ≤ dep t
  | .doo _ => by simp only [dep]; omega
  | .part _ => by simp only [dep]; omega
  | .row _ => by simp only [dep]; omega
  | .back _ => by simp only [dep]; omega
  | .times _ _ => by simp only [dep]; omega
abbrev nLlp : List Str := ["sizes", "term", "own"]
theorem scLlp : FnScope nLlp ["sizes", "term"] (defScope sLLength) := ⟨rfl, rfl, rfl, by decide +kernel, rfl, by decide +kernel, by decide +kernel⟩
theorem o_lLength (D0 : Df K mg "_law_length" sLLength ["sizes", "term"]) (B : Bi mg) : ∀ n, Ok P w K mg base n "_law_length" ["sizes", "term"] (spCount n)
  | 0 => D0.ok fun f fd F => by
    have no : ∀ vs H Q E, ¬ spCount 0 vs H Q E := fun vs H Q E h => by
      obtain ⟨_, _, t, _, _, _, _, _, hd, _⟩ := h
      have := dep_pos' t
      omega
    exact ⟨fun vs H Q E h => absurd h (no vs H Q E), fun A outer s H args us vs Q E _ _ _ _ h => absurd h (no vs H Q E)⟩
  | n + 1 => by
    have ih := o_lLength D0 B n
    refine D0.ok fun f fd F => F.ok scLlp (fun vs H Q E h => ?_) (fun cdv A outer s H vs Q E hr h => ?_)
    · obtain ⟨_, _, _, _, _, rfl, _⟩ := h
      rfl
    · obtain ⟨L, v, t, ws, W, rfl, hL, hv, hdp, hok, hws, hW, q⟩ := h
      refine ⟨_, pss_cons (ps_if (pt_cmpR op_eq (pe_ix ix_tup (pv 1) pe_int (fun _ _ => rfl)) pe_str (nomark _)) (pss_one (ps_ret pe_int)) pss_nil)
      (pss_cons (ps_if (pt_cmpR op_eq (pe_ix ix_tup (pv 1) pe_int (fun _ _ => rfl)) pe_str (nomark _)) (pss_one (ps_ret (pe_callB (cr_sum rfl) (by rfl) B.sum (by decide +kernel) (pa_cons (pe_lc (own := [("own", 2)]) (g := gName 2) (tt := tYes) rfl scLlp.nd (pi_tup (pe_ix ix_tup (pv 1) pe_int (fun _ _ => rfl))) (blkOk_by (own := [("own", 2)]) (N := nLlp) (sc := defScope sLLength) (by decide +kernel)) (fun _ _ _ _ _ => pg_name (i := 2) scLlp.nd rfl (.inl rfl)) (fun _ _ _ _ _ => pts_nil) (fun _ _ _ _ _ => (pe_fn ih hr (by rfl) (pa_cons (pv 0) (pa_cons (pv 2) pa_nil))))) pa_nil)))) pss_nil)
      (pss_cons (ps_if (pt_cmpR op_eq (pe_ix ix_tup (pv 1) pe_int (fun _ _ => rfl)) pe_str (nomark _)) (pss_one (ps_ret (pe_ix ix_list (pv 0) (pe_ix ix_tup (pv 1) pe_int (fun _ _ => rfl)) (fun _ _ => rfl)))) pss_nil)
      (pss_one (ps_ret (pe_op op_mulW (pe_fn ih hr (by rfl) (pa_cons (pv 0) (pa_cons (pe_ix ix_tup (pv 1) pe_int (fun _ _ => rfl)) pa_nil))) (pe_ifExp (pt_cmpR op_eq (pe_ix ix_tup (pv 1) pe_int (fun _ _ => rfl)) pe_str (nomark _)) (pe_ix ix_tup (pv 1) pe_int (fun _ _ => rfl)) pe_int)))))), ?_⟩
      cases t with
      | doo d =>
        obtain ⟨a, x, rfl, ha, _⟩ := tm_doo hv
        exact sq_wyes rfl ha (one_ret (q H (Same.refl _)))
      | part j =>
        simp only [okTm] at hok
        obtain ⟨a, rfl, ha⟩ := tm_prt hv
        have := q H (Same.refl _)
        simp only [worth] at this
        rw [List.getD_eq_getElem?_getD, List.getElem?_eq_getElem hok] at this
        refine sq_wno rfl ha (by decide) (sq_wno rfl ha (by decide) (sq_wyes rfl ha (one_ret ?_)))
        exact ⟨.ref L, rfl, rix rfl ha rfl (j := 1) rfl ⟨L, _, j, _, rfl, rfl, SqL.of hL, atI_nat (by rw [List.getElem?_map, List.getElem?_eq_getElem hok]; rfl), this⟩⟩
      | row ts =>
        simp only [okTm] at hok
        simp only [dep] at hdp
        obtain ⟨a, b, ys, rfl, ha, hb, qy, hyl⟩ := tm_rw hv
        refine sq_wno rfl ha (by decide) (sq_wyes rfl ha (one_ret ?_))
        refine rix rfl ha rfl (j := 1) rfl ⟨b, rfl, ⟨_, SqT.of hb⟩, fun D nD => ?_⟩
        refine lc_it (walk_tup (K := K) (a := b) (xs := ys)) (fun i G => G D = some (.lst ((((ts.take i).map (worth cntM ws)).map fun a : Nat => (a : Int)).map V.int)) ∧ Same H G) ⟨upd_same, same_new nD⟩ (fun _ _ _ ⟨_, sm⟩ => SqT.of (sm _ _ hb)) ?_ ?_
        · rintro i x _ G hi ⟨hD, sm⟩ ⟨rfl, hx⟩
          obtain ⟨d0, hd0, qd⟩ := qy.get hx
          rw [List.getElem?_map] at hd0
          obtain ⟨t, ht, rfl⟩ := Option.map_eq_some_iff.mp hd0
          have htm := List.mem_of_getElem? ht
          have htd : dep t ≤ n := by have := depL_le htm; omega
          refine ⟨rfl, ?_⟩
          dsimp only [tYes]
          rw [if_pos rfl]
          refine ⟨.ref L, rfl, x, rfl, L, x, t, ws, W, rfl, sm _ _ hL, qd.up sm, htd, okTms_mem hok.2 t htm, hws, by omega, fun H' s1 => ?_⟩
          have hD' := s1 _ _ hD
          refine ⟨_, hD', szm (by rw [List.length_map, List.length_map, List.length_map, List.length_take]; omega), ?_, fun c o hc => ?_⟩
          · rw [upd_same, List.take_add_one, ht]
            simp
          · rw [upd_ne (ne_of_none hc nD)]
            exact s1 _ _ (sm _ _ hc)
        · rintro G ⟨hD, sm⟩
          rw [hyl, List.take_length] at hD
          refine ⟨D, _, rfl, SqL.of hD, ?_⟩
          have := q G sm
          simp only [worth] at this
          rw [worthL_map] at this
          rw [sum_castC]
          exact this
      | back t =>
        simp only [okTm] at hok
        simp only [dep] at hdp
        obtain ⟨a, x, rfl, ha, q2⟩ := tm_bk hv
        have hlt := cnt_lt hws t hok
        refine sq_wno rfl ha (by decide) (sq_wno rfl ha (by decide) (sq_wno rfl ha (by decide) (one_ret ?_)))
        refine ⟨.ref L, rfl, rix rfl ha rfl (j := 1) rfl ⟨L, x, t, ws, W, rfl, hL, q2, by omega, hok, hws, by omega, fun H' s1 => w_test rfl (s1 _ _ ha) ?_⟩⟩
        rw [show decide (V.str "back" = V.str "times") = false by decide]
        refine iteF ⟨_, _, rfl, rfl, wide_mul (a := W + 110 * dep t) (b := 1) (by rw [Int.natAbs_natCast]; exact hlt) (by decide) (by have := dep_pos' t; omega) (by decide) (by omega), ?_⟩
        have := q H' s1
        simp only [worth] at this
        show Q (V.int (((worth cntM ws t : Nat) : Int) * 1)) H'
        rw [Int.mul_one]
        exact this
      | times t k =>
        simp only [okTm] at hok
        simp only [dep] at hdp
        obtain ⟨a, x, rfl, ha, q2⟩ := tm_tms hv
        have hlt := cnt_lt hws t hok.2
        refine sq_wno rfl ha (by decide) (sq_wno rfl ha (by decide) (sq_wno rfl ha (by decide) (one_ret ?_)))
        refine ⟨.ref L, rfl, rix rfl ha rfl (j := 1) rfl ⟨L, x, t, ws, W, rfl, hL, q2, by omega, hok.2, hws, by omega, fun H' s1 => w_test rfl (s1 _ _ ha) ?_⟩⟩
        rw [decide_eq_true rfl]
        refine iteT (rix rfl (s1 _ _ ha) rfl (j := 2) rfl ⟨_, _, rfl, rfl, wide_mul (a := W + 110 * dep t) (b := 100) (by rw [Int.natAbs_natCast]; exact hlt) (by rw [Int.natAbs_natCast]; exact Nat.lt_of_le_of_lt hok.1 (by decide +kernel)) (by have := dep_pos' t; omega) (by decide) (by omega), ?_⟩)
        have := q H' s1
        simp only [worth] at this
        show Q (V.int (((worth cntM ws t : Nat) : Int) * (k : Int))) H'
        rw [← Int.natCast_mul]
        exact this
end
end Kr
namespace Kr
open PySem PySem.Spec PyProof.Rows L2
/-! ### deeds done -/
def gz (ss : List Int) (j : Int) : Int := ss.getD j.toNat 0
def exch (ss lot : List Int) (a b : Int) : List Int := if lot.any (fun j => !decide (gz ss j = 0)) = true then ss else (ss.set a.toNat (gz ss b)).set b.toNat (gz ss a)
structure InR (n : Nat) (lot : List Int) (a b : Int) : Prop where
  rng : ∀ z ∈ lot, 0 ≤ z ∧ z < n
  a0 : 0 ≤ a
  a1 : a < n
  b0 : 0 ≤ b
  b1 : b < n
  len : lot.length ≤ 1000
theorem at_gz {ss : List Int} {j : Int} (h0 : 0 ≤ j) (h1 : j < ss.length) : atI (ss.map V.int) j = some (.int (gz ss j)) := by
  refine atI_int h0 ?_
  have h : j.toNat < ss.length := by omega
  rw [List.getElem?_map, List.getElem?_eq_getElem h]
  unfold gz
  rw [List.getD_eq_getElem?_getD, List.getElem?_eq_getElem h]
  rfl
theorem ixn {n : Nat} {a : Int} (h0 : 0 ≤ a) (h1 : a < n) : ixN n a = some a.toNat := by
  unfold ixN
  rw [if_pos h0, if_pos h1]
theorem ne0 (z : Int) : (!decide (V.int z = V.int 0)) = !decide (z = 0) := by simp
def spDone : Sp := fun vs H Q _ => ∃ (st dd la : Addr) (ss lot : List Int) (a b : Int), vs = [.ref st, .ref dd] ∧ H st = some (.tup (ss.map V.int)) ∧ H dd = some (.tup [.ref la, .int a, .int b]) ∧ H la = some (.tup (lot.map V.int)) ∧ InR ss.length lot a b ∧ ss.length ≤ 1000 ∧
  ∀ (H' : Hp) (t : Addr), Same H H' → H' t = some (.tup ((exch ss lot a b).map V.int)) → Q (.ref t) H'
/-- the same of riders that are none below 0 -/
theorem mem_map_int {lot : List Int} {j : Nat} {x : V} (h : (lot.map V.int)[j]? = some x) : ∃ z, lot[j]? = some z ∧ z ∈ lot ∧ x = V.int z := by
  rw [List.getElem?_map] at h
  cases g : lot[j]? with
  | none => rw [g] at h; cases h
  | some u =>
    rw [g] at h
    exact ⟨u, rfl, List.mem_of_getElem? g, (Option.some.inj h).symm⟩
end Kr
namespace Kr
open PySem PySem.Spec PyProof.Rows L2
/-- the standing behind a deed, behind some -/
def doM (ss : List Int) (m : Mv) : List Int := exch ss (m.1.map fun (x : Nat) => (x : Int)) (m.2.1 : Nat) (m.2.2 : Nat)
def runM (ms : List Mv) (ss : List Int) : List Int := ms.foldl doM ss
theorem exch_len (ss lot : List Int) (a b : Int) : (exch ss lot a b).length = ss.length := by
  unfold exch
  split <;> simp
theorem runM_len : ∀ (ms : List Mv) (ss : List Int), (runM ms ss).length = ss.length
  | [], _ => rfl
  | m :: ms, ss => (runM_len ms _).trans (exch_len _ _ _ _)
theorem Deed.inR {n : Nat} {m : Mv} (d : Deed n m) (hn : n ≤ 1000) : InR n (m.1.map fun (x : Nat) => (x : Int)) (m.2.1 : Nat) (m.2.2 : Nat) := by
  have h1 := d.ab
  have h2 := d.bn
  have h3 := d.asc.len
  refine ⟨fun z hz => ?_, by omega, by omega, by omega, by omega, by rw [List.length_map]; omega⟩
  obtain ⟨x, hx, rfl⟩ := List.mem_map.mp hz
  have := (d.asc.2 x hx).2
  omega
def stD (ss : List Int) : PyData := .tuple (ss.map .int)
/-! ### standings led by tables -/
/-- who lies where, as riders -/
def ridAt (ss ls : List Int) : List Int := ls.map fun z => if 0 ≤ z then gz ss z else 0
/-- the places with keys -/
def KeysAt (n : Nat) (l : List Nat) (ss : List Int) : Prop := ss.length = n ∧ ∀ x, x < n → (x ∈ l ↔ ss.getD x 0 = 0)
theorem getD_map {f : Int → Int} {ls : List Int} {y : Nat} (h : y < ls.length) : (ls.map f).getD y 0 = f (ls.getD y 0) := by
  rw [List.getD_eq_getElem?_getD, List.getD_eq_getElem?_getD, List.getElem?_map, List.getElem?_eq_getElem h]
  rfl
theorem int_ext {n : Nat} {a b : List Int} (ha : a.length = n) (hb : b.length = n) (h : ∀ x, x < n → a.getD x 0 = b.getD x 0) : a = b := list_ext ha hb h
theorem rid_start {n : Nat} {l : List Nat} {ss : List Int} (h : KeysAt n l ss) : ridAt ss (stL n l) = ss := by
  have hl : (stL n l).length = n := by unfold stL; rw [List.length_map, List.length_range]
  refine int_ext (n := n) (by unfold ridAt; rw [List.length_map, hl]) h.1 fun x hx => ?_
  unfold ridAt
  rw [getD_map (by rw [hl]; exact hx)]
  have e : (stL n l).getD x 0 = if x ∈ l then -1 else ((x : Nat) : Int) := by
    unfold stL
    rw [List.getD_eq_getElem?_getD, List.getElem?_map, List.getElem?_range hx]
    rfl
  rw [e]
  by_cases c : x ∈ l
  · rw [if_pos c, if_neg (by decide), (h.2 x hx).mp c]
  · rw [if_neg c, if_pos (by omega)]
    unfold gz
    rw [Int.toNat_natCast]
theorem rid_step {n : Nat} {l : List Nat} {ss ls : List Int} (h : KeysAt n l ss) (L : Lies n l ls) {m : Mv} (d : Deed n m) : ridAt ss (mvL ls m) = doM (ridAt ss ls) m := by
  have h1 := d.ab
  have h2 := d.bn
  have hl := L.len
  have at_ : ∀ y, y < n → gz (ridAt ss ls) ((y : Nat) : Int) = if 0 ≤ ls.getD y 0 then gz ss (ls.getD y 0) else 0 := fun y hy => by
    show (ridAt ss ls).getD (y : Int).toNat 0 = _
    rw [Int.toNat_natCast]
    unfold ridAt
    rw [getD_map (by rw [hl]; exact hy)]
  have cond : (m.1.map fun (x : Nat) => (x : Int)).any (fun j => !decide (gz (ridAt ss ls) j = 0)) = !(m.1.all fun x => !decide (0 ≤ ls.getD x 0)) := by
    rw [List.any_map, Bool.eq_iff_iff, List.any_eq_true, Bool.not_eq_true', ← Bool.not_eq_true, List.all_eq_true]
    constructor
    · rintro ⟨x, hx, hz⟩ hall
      have hxn : x < n := by have := (d.asc.2 x hx).2; omega
      have := hall x hx
      simp only [Function.comp, at_ x hxn] at hz
      rw [if_neg (by simpa using this)] at hz
      simp at hz
    · intro hall
      refine Classical.byContradiction fun hno => hall fun x hx => ?_
      have hxn : x < n := by have := (d.asc.2 x hx).2; omega
      have hz : ¬ (!decide (gz (ridAt ss ls) ((x : Nat) : Int) = 0)) = true := fun z => hno ⟨x, hx, z⟩
      rw [at_ x hxn] at hz
      by_cases c : 0 ≤ ls.getD x 0
      · exfalso
        rw [if_pos c] at hz
        rcases L.at_ x hxn with e | ⟨r, hr, hrl, e⟩
        · omega
        · have : ss.getD r 0 ≠ 0 := fun z => hrl ((h.2 r hr).mpr z)
          apply hz
          rw [e]
          unfold gz
          rw [Int.toNat_natCast]
          simp only [Bool.not_eq_true', decide_eq_false_iff_not]
          exact this
      · rw [decide_eq_false c]
        rfl
  unfold doM exch mvL
  rw [cond]
  cases hc : (m.1.all fun x => !decide (0 ≤ ls.getD x 0)) with
  | true =>
    rw [if_pos rfl, if_neg (show ¬ (!true) = true by decide), at_ m.2.1 (by omega), at_ m.2.2 h2]
    unfold ridAt
    rw [List.map_set, List.map_set]
    simp only [Int.toNat_natCast]
  | false =>
    rw [if_neg (show ¬ false = true by decide), if_pos (show (!false) = true from rfl)]
theorem lies_fold {n : Nat} {l : List Nat} {ss : List Int} (h : KeysAt n l ss) : ∀ (ms : List Mv) (ls : List Int), Lies n l ls → (∀ m ∈ ms, Deed n m) → ridAt ss (ms.foldl mvL ls) = runM ms (ridAt ss ls)
  | [], _, _, _ => rfl
  | m :: ms, ls, L, d => by
    rw [List.foldl_cons, lies_fold h ms (mvL ls m) (L.moved (d m List.mem_cons_self)).1 fun x hx => d x (List.mem_cons_of_mem _ hx), rid_step h L (d m List.mem_cons_self)]
    rfl
/-- the program's own way -/
def ledP (n : Nat) (e ss : List Int) (i : Nat) : List Int := putAll (((List.range i).filter fun x => !decide (ss.getD x 0 = 0)).map fun x => ((e.getD x 0).toNat, ss.getD x 0)) (List.replicate n 0)
theorem led_lies {n : Nat} {l : List Nat} {ss ls : List Int} (h : KeysAt n l ss) (L : Lies n l ls) : ledP n (lawE n ls) ss n = ridAt ss ls := by
  have hl := L.len
  refine int_ext (n := n) (by unfold ledP; rw [putAll_len, List.length_replicate]) (by unfold ridAt; rw [List.length_map, hl]) fun y hy => ?_
  have inj : ∀ x x', x < n → x' < n → x ∉ l → x' ∉ l → ((lawE n ls).getD x 0).toNat = ((lawE n ls).getD x' 0).toNat → x = x' := fun x x' hx hx' c c' e => by
    obtain ⟨u, hu, eu⟩ := L.has x hx c
    obtain ⟨u', hu', eu'⟩ := L.has x' hx' c'
    rw [L.put hx hu eu, L.put hx' hu' eu', Int.toNat_natCast, Int.toNat_natCast] at e
    subst e
    rw [eu] at eu'
    omega
  have mem : ∀ {x}, x ∈ (List.range n).filter (fun x => !decide (ss.getD x 0 = 0)) ↔ x < n ∧ x ∉ l := fun {x} => by
    rw [List.mem_filter, List.mem_range]
    constructor
    · rintro ⟨a, b⟩
      refine ⟨a, fun c => ?_⟩
      rw [(h.2 x a).mp c] at b
      simp at b
    · rintro ⟨a, b⟩
      refine ⟨a, ?_⟩
      rw [Bool.not_eq_true', decide_eq_false_iff_not]
      exact fun z => b ((h.2 x a).mpr z)
  have nd : (((List.range n).filter fun x => !decide (ss.getD x 0 = 0)).map fun x => (((lawE n ls).getD x 0).toNat, ss.getD x 0)).map (·.1) |>.Nodup := by
    rw [List.map_map]
    refine List.pairwise_map.mpr ?_
    refine ((List.nodup_range (n := n)).filter _).imp_of_mem fun {a b} ha hb hne => ?_
    obtain ⟨a1, a2⟩ := mem.mp ha
    obtain ⟨b1, b2⟩ := mem.mp hb
    exact fun z => hne (inj a b a1 b1 a2 b2 z)
  unfold ridAt
  rw [getD_map (by rw [hl]; exact hy)]
  rcases L.at_ y hy with e | ⟨x, hx, hxl, e⟩
  · rw [e, if_neg (by decide)]
    unfold ledP
    rw [List.getD_eq_getElem?_getD, putAll_keep _ _ fun p hp => ?_, List.getElem?_replicate, if_pos hy]
    · rfl
    · obtain ⟨x, hx, rfl⟩ := List.mem_map.mp hp
      obtain ⟨a1, a2⟩ := mem.mp hx
      obtain ⟨u, hu, eu⟩ := L.has x a1 a2
      show ((lawE n ls).getD x 0).toNat ≠ y
      rw [L.put a1 hu eu, Int.toNat_natCast]
      intro z
      subst z
      rw [e] at eu
      omega
  · rw [e, if_pos (by omega)]
    unfold ledP
    rw [List.getD_eq_getElem?_getD, putAll_at (v := ss.getD x 0) _ _ nd ?_ (by rw [List.length_replicate]; exact hy)]
    · unfold gz
      rw [Int.toNat_natCast]
      rfl
    · refine List.mem_map.mpr ⟨x, mem.mpr ⟨hx, hxl⟩, ?_⟩
      rw [L.put hx hy e, Int.toNat_natCast]
/-- a table of deeds leads as the deeds do -/
theorem led_made {n : Nat} {l : List Nat} {ss : List Int} (h : KeysAt n l ss) {ms : List Mv} (d : ∀ m ∈ ms, Deed n m) : ledP n (madeE n ms l) ss n = runM ms ss := by
  have L := lies_start n l
  rw [madeE, led_lies h (lies_all ms _ L d), lies_fold h ms _ L d, rid_start h]
end Kr
namespace Kr
open PySem PySem.Spec PyProof.Rows L2
/-! ### the deeds of a term, one behind another -/
def movM : Mea (List Mv) := ⟨fun d => [d], List.flatten, List.reverse, fun a k => (List.replicate k a).flatten⟩
theorem rep_flat_len {α : Type} (k : Nat) (l : List α) : (List.replicate k l).flatten.length = l.length * k := by
  induction k with
  | zero => simp
  | succ k ih => rw [List.replicate_succ, List.flatten_cons, List.length_append, ih, Nat.mul_succ]; omega
theorem flat_len_le {α : Type} {b : Nat} : ∀ {ls : List (List α)}, (∀ l ∈ ls, l.length ≤ b) → ls.flatten.length ≤ ls.length * b
  | [], _ => by simp
  | l :: ls, h => by
    have h1 := h l List.mem_cons_self
    have h2 := flat_len_le (b := b) fun x hx => h x (List.mem_cons_of_mem _ hx)
    rw [List.flatten_cons, List.length_append, List.length_cons, Nat.succ_mul]
    omega
mutual
theorem mov_len {D : Mv → Prop} {k B : Nat} (hB : 1 ≤ B) {ws : List (List Mv)} (hw : ∀ a ∈ ws, a.length ≤ B) : ∀ t : Tm, okTm D 10 k t → timK 3 t → (worth movM ws t).length ≤ B * 10 ^ dep t
  | .doo d, _, _ => by
    simp only [worth, dep]
    show 1 ≤ _
    have : 1 ≤ 10 ^ 1 := by decide
    exact Nat.le_trans hB (Nat.le_mul_of_pos_right _ (by decide))
  | .part j, h, _ => by
    simp only [worth, dep]
    have h1 : (ws.getD j (movM.oR [])).length ≤ B := by
      rw [List.getD_eq_getElem?_getD]
      cases e : ws[j]? with
      | none => exact Nat.zero_le _
      | some a => exact hw a (List.mem_of_getElem? e)
    exact Nat.le_trans h1 (Nat.le_mul_of_pos_right _ (by decide))
  | .row ts, h, c => by
    simp only [okTm] at h
    simp only [timK] at c
    simp only [worth, dep]
    have h1 := movL_len hB hw ts h.2 c
    have h2 : (worthL movM ws ts).flatten.length ≤ (worthL movM ws ts).length * (B * 10 ^ depL ts) := flat_len_le h1
    have h3 : (worthL movM ws ts).length ≤ 10 := by rw [worthL_map, List.length_map]; exact h.1
    have h4 : (worthL movM ws ts).length * (B * 10 ^ depL ts) ≤ 10 * (B * 10 ^ depL ts) := Nat.mul_le_mul_right _ h3
    have h5 : 10 * (B * 10 ^ depL ts) = B * 10 ^ (depL ts + 1) := by rw [Nat.pow_succ, ← Nat.mul_assoc, Nat.mul_comm 10 B, Nat.mul_assoc, Nat.mul_comm 10]
    show (worthL movM ws ts).flatten.length ≤ _
    omega
  | .back t, h, c => by
    simp only [okTm] at h
    simp only [timK] at c
    simp only [worth, dep]
    have h1 := mov_len hB hw t h c
    show (List.reverse _).length ≤ _
    rw [List.length_reverse]
    exact Nat.le_trans h1 (Nat.mul_le_mul_left _ (Nat.pow_le_pow_right (by decide) (by omega)))
  | .times t m, h, c => by
    simp only [okTm] at h
    simp only [timK] at c
    simp only [worth, dep]
    have h1 := mov_len hB hw t h.2 c.2
    show (List.flatten _).length ≤ _
    rw [rep_flat_len]
    have h2 : (worth movM ws t).length * m ≤ (B * 10 ^ dep t) * 10 := Nat.mul_le_mul h1 (by omega)
    have h5 : (B * 10 ^ dep t) * 10 = B * 10 ^ (dep t + 1) := by rw [Nat.pow_succ, Nat.mul_assoc]
    omega
theorem movL_len {D : Mv → Prop} {k B : Nat} (hB : 1 ≤ B) {ws : List (List Mv)} (hw : ∀ a ∈ ws, a.length ≤ B) : ∀ ts : List Tm, okTms D 10 k ts → timKs 3 ts → ∀ x ∈ worthL movM ws ts, x.length ≤ B * 10 ^ depL ts
  | [], _, _, x, hx => by
    simp only [worthL] at hx
    exact nomatch hx
  | t :: ts, h, c, x, hx => by
    simp only [okTms] at h
    simp only [timKs] at c
    simp only [worthL] at hx
    simp only [depL]
    rcases List.mem_cons.mp hx with rfl | hx
    · exact Nat.le_trans (mov_len hB hw t h.1 c.1) (Nat.mul_le_mul_left _ (Nat.pow_le_pow_right (by decide) (Nat.le_max_left _ _)))
    · exact Nat.le_trans (movL_len hB hw ts h.2 c.2 x hx) (Nat.mul_le_mul_left _ (Nat.pow_le_pow_right (by decide) (Nat.le_max_right _ _)))
end
theorem deeds_flat' (ms : List Mv) : flatTA (ms.map deedD) = true := flatTA_of fun d hd => by
  obtain ⟨m, _, rfl⟩ := List.mem_map.mp hd
  exact deed_flat m
theorem szx {n : Nat} (h : n ≤ 5000000) : n ≤ sizeLine := by rw [sizeLine_eq]; omega
end Kr
namespace Kr
open PySem PySem.Spec PyProof.Rows L2
section
variable {P : Program} {w : World} {K : PySem.W.Frag} {mg : Str → Option Value} {base : Heap} {α : Type}
/-- the class of a measure, as it stands -/
structure MeaT (P : Program) (w : World) (K : PySem.W.Frag) (mg : Str → Option Value) (base : Heap) (R : MeaR α) (C : Addr) (km : Nat) (fD fR fB fT : Addr) (dD dR dB dT : FuncData) (pD pR pB pT : List Str) : Prop where
  cl : Cls K C
  mD : Meth K C "of_deed" fD
  mR : Meth K C "of_row" fR
  mB : Meth K C "of_back" fB
  mT : Meth K C "of_times" fT
  gD : FnOk P w K mg base CX0 km fD dD pD (R.spD C)
  gR : FnOk P w K mg base CX0 km fR dR pR (R.spR C)
  gB : FnOk P w K mg base CX0 km fB dB pB (R.spB C)
  gT : FnOk P w K mg base CX0 km fT dT pT (R.spT C)
  bD : Binds K dD pD []
  bR : Binds K dR pR []
  bB : Binds K dB pB []
  bT : Binds K dT pT []
def spTW (R : MeaR α) (C : Addr) (n : Nat) : Sp := fun vs H Q _ => ∃ (v : V) (W : Addr) (m : V) (t : Tm) (ws : List V) (as : List α), vs = [v, .ref W, m] ∧ R.obj C m H ∧ Dq H v (tmD t) ∧ dep t ≤ n ∧ R.most ≤ 400 ∧ okTm R.okD R.most as.length t ∧ H W = some (.lst ws) ∧ ws.length = as.length ∧ (∀ (i : Nat) u x, ws[i]? = some u → as[i]? = some x → R.rep x u H) ∧ (∀ x ∈ as, R.ok x) ∧
  ∀ H' r, Same H H' → R.rep (worth R.toMea as t) r H' → Q r H'
theorem dep_pos : ∀ t : Tm, 1 ≤ dep t
  | .doo _ => by simp only [dep]; omega
  | .part _ => by simp only [dep]; omega
  | .row _ => by simp only [dep]; omega
  | .back _ => by simp only [dep]; omega
  | .times _ _ => by simp only [dep]; omega
abbrev nTw : List Str := ["term", "worths", "measure", "word", "inner", "worth"]
theorem scTw : FnScope nTw ["term", "worths", "measure"] (defScope sTermWorth) := ⟨rfl, rfl, rfl, by decide +kernel, rfl, by decide +kernel, by decide +kernel⟩
theorem o_termWorth {R : MeaR α} {C : Addr} {km : Nat} {fD fR fB fT : Addr} {dD dR dB dT : FuncData} {pD pR pB pT : List Str} (D0 : Df K mg "term_worth" sTermWorth ["term", "worths", "measure"]) (B : Bi mg) (T : MeaT P w K mg base R C km fD fR fB fT dD dR dB dT pD pR pB pT) :
    ∀ n, Ok P w K mg base (km + n) "term_worth" ["term", "worths", "measure"] (spTW R C n)
  | 0 => D0.ok fun f fd F => by
    have no : ∀ vs H Q E, ¬ spTW R C 0 vs H Q E := fun vs H Q E h => by
      obtain ⟨_, _, _, t, _, _, _, _, _, hd, _⟩ := h
      have := dep_pos t
      omega
    exact ⟨fun vs H Q E h => absurd h (no vs H Q E), fun A outer s H args us vs Q E _ _ _ _ h => absurd h (no vs H Q E)⟩
  | n + 1 => by
    have ih := o_termWorth (R := R) D0 B T n
    refine D0.ok fun f fd F => F.ok scTw (fun vs H Q E h => ?_) (fun cdv A outer s H vs Q E hr h => ?_)
    · obtain ⟨_, _, _, _, _, _, rfl, _⟩ := h
      rfl
    · obtain ⟨v, W, m, t, ws, as, rfl, hob, hv, hdp, hmo, hok, hW, hwl, hrep, hoa, q⟩ := h
      have hm := hr.mono (show km ≤ km + n by omega)
      refine ⟨_, pss_cons (ps_set (i := 3) scTw.nd rfl (.inl rfl) (pe_ix ix_tup (pv 0) pe_int (fun _ _ => rfl)))
      (pss_cons (ps_if (pt_cmpR op_eq (pv 3) pe_str (nomark _)) (pss_one (ps_ret (pe_meth (pv 2) T.cl T.mD T.gD hm T.bD .nil pass0 (pa_cons (pe_ix ix_tup (pv 0) pe_int (fun _ _ => rfl)) pa_nil)))) pss_nil)
      (pss_cons (ps_if (pt_cmpR op_eq (pv 3) pe_str (nomark _)) (pss_one (ps_ret (pe_ix ix_list (pv 1) (pe_ix ix_tup (pv 0) pe_int (fun _ _ => rfl)) (fun _ _ => rfl)))) pss_nil)
      (pss_cons (ps_if (pt_cmpR op_eq (pv 3) pe_str (nomark _)) (pss_one (ps_ret (pe_meth (pv 2) T.cl T.mR T.gR hm T.bR .nil pass0 (pa_cons (pe_lc (own := [("inner", 4)]) (g := gName 4) (tt := tYes) rfl scTw.nd (pi_tup (pe_ix ix_tup (pv 0) pe_int (fun _ _ => rfl))) (blkOk_by (own := [("inner", 4)]) (N := nTw) (sc := defScope sTermWorth) (by decide +kernel)) (fun _ _ _ _ _ => pg_name (i := 4) scTw.nd rfl (.inl rfl)) (fun _ _ _ _ _ => pts_nil) (fun _ _ _ _ _ => (pe_fn ih hr (by rfl) (pa_cons (pv 4) (pa_cons (pv 1) (pa_cons (pv 2) pa_nil)))))) pa_nil)))) pss_nil)
      (pss_cons (ps_set (i := 5) scTw.nd rfl (.inl rfl) (pe_fn ih hr (by rfl) (pa_cons (pe_ix ix_tup (pv 0) pe_int (fun _ _ => rfl)) (pa_cons (pv 1) (pa_cons (pv 2) pa_nil)))))
      (pss_cons (ps_if (pt_cmpR op_eq (pv 3) pe_str (nomark _)) (pss_one (ps_ret (pe_meth (pv 2) T.cl T.mB T.gB hm T.bB .nil pass0 (pa_cons (pv 5) pa_nil)))) pss_nil)
      (pss_one (ps_ret (pe_meth (pv 2) T.cl T.mT T.gT hm T.bT .nil pass0 (pa_cons (pv 5) (pa_cons (pe_ix ix_tup (pv 0) pe_int (fun _ _ => rfl)) pa_nil)))))))))), ?_⟩
      cases t with
      | doo d =>
        simp only [tmD] at hv
        simp only [okTm] at hok
        obtain ⟨a, xs, rfl, ha, qx⟩ := Dq.tup_inv hv
        cases qx with
        | cons q1 qx =>
        cases qx with
        | cons q2 qx =>
        cases qx
        cases q1
        refine ⟨.ref a, rfl, a, _, ((0 : Nat) : Int), _, rfl, rfl, SqT.of ha, atI_nat (j := 0) rfl, ?_⟩
        dsimp only [tNext]
        refine ⟨_, rfl, rfl, _, rfl, ?_⟩
        rw [decide_eq_true rfl]
        refine iteT ?_
        obtain ⟨ma, dx, fs, rfl, hm1, hfs⟩ := hob
        refine ⟨.ref ma, rfl, ma, dx, fs, rfl, hm1, R.nD hfs, .ref a, rfl, a, _, ((1 : Nat) : Int), _, rfl, rfl, SqT.of ha, atI_nat (j := 1) rfl, ?_⟩
        refine ⟨.ref ma, _, d, rfl, ⟨ma, dx, fs, rfl, hm1, hfs⟩, q2, hok, fun H' r s1 h1 => q H' r s1 ?_⟩
        simp only [worth]
        exact h1
      | part j =>
        simp only [tmD] at hv
        simp only [okTm] at hok
        obtain ⟨a, xs, rfl, ha, qx⟩ := Dq.tup_inv hv
        cases qx with
        | cons q1 qx =>
        cases qx with
        | cons q2 qx =>
        cases qx
        cases q1
        cases q2
        refine ⟨.ref a, rfl, a, _, ((0 : Nat) : Int), _, rfl, rfl, SqT.of ha, atI_nat (j := 0) rfl, ?_⟩
        dsimp only [tNext]
        refine ⟨_, rfl, rfl, _, rfl, ?_⟩
        rw [decide_eq_false (by decide)]
        refine iteF ?_
        dsimp only [tNext]
        refine ⟨_, rfl, rfl, _, rfl, ?_⟩
        rw [decide_eq_true rfl]
        obtain ⟨u, hu⟩ : ∃ u, ws[j]? = some u := ⟨_, List.getElem?_eq_getElem (by omega)⟩
        refine iteT ⟨.ref W, rfl, .ref a, rfl, a, _, ((1 : Nat) : Int), _, rfl, rfl, SqT.of ha, atI_nat (j := 1) rfl, W, ws, j, u, rfl, rfl, SqL.of hW, atI_nat hu, q H u (Same.refl _) ?_⟩
        simp only [worth]
        rw [List.getD_eq_getElem?_getD, List.getElem?_eq_getElem hok]
        exact hrep j u _ hu (List.getElem?_eq_getElem hok)
      | row ts =>
        simp only [tmD] at hv
        simp only [okTm] at hok
        simp only [dep] at hdp
        obtain ⟨a, xs, rfl, ha, qx⟩ := Dq.tup_inv hv
        cases qx with
        | cons q1 qx =>
        cases qx with
        | cons q2 qx =>
        cases qx
        cases q1
        obtain ⟨b, ys, rfl, hb, qy⟩ := Dq.tup_inv q2
        rw [tmDs_map] at qy
        refine ⟨.ref a, rfl, a, _, ((0 : Nat) : Int), _, rfl, rfl, SqT.of ha, atI_nat (j := 0) rfl, ?_⟩
        dsimp only [tNext]
        refine ⟨_, rfl, rfl, _, rfl, ?_⟩
        rw [decide_eq_false (by decide)]
        refine iteF ?_
        dsimp only [tNext]
        refine ⟨_, rfl, rfl, _, rfl, ?_⟩
        rw [decide_eq_false (by decide)]
        refine iteF ?_
        dsimp only [tNext]
        refine ⟨_, rfl, rfl, _, rfl, ?_⟩
        rw [decide_eq_true rfl]
        refine iteT ?_
        obtain ⟨ma, dx, fs, rfl, hm1, hfs⟩ := hob
        have hyl : ys.length = ts.length := by rw [qy.len, List.length_map]
        refine ⟨.ref ma, rfl, ma, dx, fs, rfl, hm1, R.nR hfs, .ref a, rfl, a, _, ((1 : Nat) : Int), _, rfl, rfl, SqT.of ha, atI_nat (j := 1) rfl, b, rfl, ⟨_, SqT.of hb⟩, fun D nD => ?_⟩
        refine lc_it (walk_tup (K := K) (a := b) (xs := ys)) (fun i G => ∃ us : List V, G D = some (.lst us) ∧ Same H G ∧ us.length = i ∧ ∀ (k : Nat) u t, us[k]? = some u → ts[k]? = some t → R.rep (worth R.toMea as t) u G) ⟨[], upd_same, same_new nD, rfl, fun k u t h _ => by simp at h⟩ (fun _ _ _ ⟨_, _, sm, _, _⟩ => SqT.of (sm _ _ hb)) ?_ ?_
        · rintro i x _ G hi ⟨us, hD, sm, hul, hus⟩ ⟨rfl, hx⟩
          obtain ⟨d0, hd0, qd⟩ := qy.get hx
          rw [List.getElem?_map] at hd0
          obtain ⟨t, ht, rfl⟩ := Option.map_eq_some_iff.mp hd0
          have htm := List.mem_of_getElem? ht
          have htd : dep t ≤ n := by have := depL_le htm; omega
          refine ⟨rfl, ?_⟩
          dsimp only [tYes]
          rw [if_pos rfl]
          refine ⟨x, rfl, .ref W, rfl, .ref ma, rfl, x, W, .ref ma, t, ws, as, rfl, ⟨ma, dx, fs, rfl, sm _ _ hm1, hfs⟩, qd.up sm, htd, hmo, okTms_mem hok.2 t htm, sm _ _ hW, hwl, (fun k u y h1 h2 => R.up (TS.of sm) (hrep k u y h1 h2)), hoa, fun H' r s1 h1 => ?_⟩
          have hD' := s1 _ _ hD
          refine ⟨us, hD', szm (by omega), us ++ [r], upd_same, fun c o hc => ?_, by rw [List.length_append, hul]; rfl, fun k u t' hk ht' => ?_⟩
          · rw [upd_ne (ne_of_none hc nD)]
            exact s1 _ _ (sm _ _ hc)
          · have ts' : TS H' (upd H' D (.lst (us ++ [r]))) := TS.lst hD'
            rcases Nat.lt_trichotomy k us.length with c | c | c
            · rw [List.getElem?_append_left c] at hk
              exact R.up ts' (R.up (TS.of s1) (hus k u t' hk ht'))
            · subst c
              rw [List.getElem?_append_right (Nat.le_refl _), Nat.sub_self] at hk
              cases Option.some.inj hk
              rw [hul, ht] at ht'
              cases Option.some.inj ht'
              exact R.up ts' h1
            · rw [List.getElem?_eq_none (by rw [List.length_append]; show _ + 1 ≤ _; omega)] at hk
              cases hk
        · rintro G ⟨us, hD, sm, hul, hus⟩
          refine ⟨.ref ma, D, us, ts.map (worth R.toMea as), rfl, ⟨ma, dx, fs, rfl, sm _ _ hm1, hfs⟩, hD, by rw [List.length_map, hul, hyl], by rw [List.length_map]; exact hok.1, (fun k u x h1 h2 => ?_), (fun x hx => ?_), fun H' r s1 h1 => q H' r (sm.trans s1) ?_⟩
          · rw [List.getElem?_map] at h2
            obtain ⟨t, ht, rfl⟩ := Option.map_eq_some_iff.mp h2
            exact hus k u t h1 ht
          · obtain ⟨t, ht, rfl⟩ := List.mem_map.mp hx
            exact worth_ok R hoa t (okTms_mem hok.2 t ht)
          · simp only [worth]
            rw [worthL_map]
            exact h1
      | back t =>
        simp only [tmD] at hv
        simp only [okTm] at hok
        simp only [dep] at hdp
        obtain ⟨a, xs, rfl, ha, qx⟩ := Dq.tup_inv hv
        cases qx with
        | cons q1 qx =>
        cases qx with
        | @cons y _ _ _ q2 qx =>
        cases qx
        cases q1
        refine ⟨.ref a, rfl, a, _, ((0 : Nat) : Int), _, rfl, rfl, SqT.of ha, atI_nat (j := 0) rfl, ?_⟩
        dsimp only [tNext]
        refine ⟨_, rfl, rfl, _, rfl, ?_⟩
        rw [decide_eq_false (by decide)]
        refine iteF ?_
        dsimp only [tNext]
        refine ⟨_, rfl, rfl, _, rfl, ?_⟩
        rw [decide_eq_false (by decide)]
        refine iteF ?_
        dsimp only [tNext]
        refine ⟨_, rfl, rfl, _, rfl, ?_⟩
        rw [decide_eq_false (by decide)]
        refine iteF ?_
        dsimp only [tNext]
        refine ⟨.ref a, rfl, a, _, ((1 : Nat) : Int), _, rfl, rfl, SqT.of ha, atI_nat (j := 1) rfl, .ref W, rfl, m, rfl, _, W, m, t, ws, as, rfl, hob, q2, by omega, hmo, hok, hW, hwl, hrep, hoa, fun H1 r s1 h1 => ?_⟩
        dsimp only [tNext]
        refine ⟨_, rfl, rfl, _, rfl, ?_⟩
        rw [decide_eq_true rfl]
        obtain ⟨ma, dx, fs, rfl, hm1, hfs⟩ := hob
        refine iteT ⟨.ref ma, rfl, ma, dx, fs, rfl, s1 _ _ hm1, R.nB hfs, r, rfl, .ref ma, r, _, rfl, ⟨ma, dx, fs, rfl, s1 _ _ hm1, hfs⟩, h1, worth_ok R hoa t hok, fun H' r' s2 h2 => q H' r' (s1.trans s2) ?_⟩
        simp only [worth]
        exact h2
      | times t k =>
        simp only [tmD] at hv
        simp only [okTm] at hok
        simp only [dep] at hdp
        obtain ⟨a, xs, rfl, ha, qx⟩ := Dq.tup_inv hv
        cases qx with
        | cons q1 qx =>
        cases qx with
        | @cons y _ _ _ q2 qx =>
        cases qx with
        | cons q3 qx =>
        cases qx
        cases q1
        cases q3
        refine ⟨.ref a, rfl, a, _, ((0 : Nat) : Int), _, rfl, rfl, SqT.of ha, atI_nat (j := 0) rfl, ?_⟩
        dsimp only [tNext]
        refine ⟨_, rfl, rfl, _, rfl, ?_⟩
        rw [decide_eq_false (by decide)]
        refine iteF ?_
        dsimp only [tNext]
        refine ⟨_, rfl, rfl, _, rfl, ?_⟩
        rw [decide_eq_false (by decide)]
        refine iteF ?_
        dsimp only [tNext]
        refine ⟨_, rfl, rfl, _, rfl, ?_⟩
        rw [decide_eq_false (by decide)]
        refine iteF ?_
        dsimp only [tNext]
        refine ⟨.ref a, rfl, a, _, ((1 : Nat) : Int), _, rfl, rfl, SqT.of ha, atI_nat (j := 1) rfl, .ref W, rfl, m, rfl, _, W, m, t, ws, as, rfl, hob, q2, by omega, hmo, hok.2, hW, hwl, hrep, hoa, fun H1 r s1 h1 => ?_⟩
        dsimp only [tNext]
        refine ⟨_, rfl, rfl, _, rfl, ?_⟩
        rw [decide_eq_false (by decide)]
        obtain ⟨ma, dx, fs, rfl, hm1, hfs⟩ := hob
        refine iteF ?_
        dsimp only [tNext]
        refine ⟨.ref ma, rfl, ma, dx, fs, rfl, s1 _ _ hm1, R.nT hfs, r, rfl, .ref a, rfl, a, _, ((2 : Nat) : Int), _, rfl, rfl, SqT.of (s1 _ _ ha), atI_nat (j := 2) rfl, .ref ma, r, _, k, rfl, ⟨ma, dx, fs, rfl, s1 _ _ hm1, hfs⟩, h1, worth_ok R hoa t hok.2, hok.1, fun H' r' s2 h2 => q H' r' (s1.trans s2) ?_⟩
        simp only [worth]
        exact h2
end
end Kr
namespace Kr
open PySem PySem.Spec PyProof.Rows L2
/-! ### worths of programs -/
section
variable {α : Type}
def wsAll (M : Mea α) : List Tm → List α → List α
  | [], ws => ws
  | t :: ts, ws => wsAll M ts (ws ++ [worth M ws t])
theorem wsAll_app (M : Mea α) : ∀ (a b : List Tm) (ws : List α), wsAll M (a ++ b) ws = wsAll M b (wsAll M a ws)
  | [], _, _ => rfl
  | t :: a, b, ws => wsAll_app M a b _
theorem wsAll_len (M : Mea α) : ∀ (a : List Tm) (ws : List α), (wsAll M a ws).length = ws.length + a.length
  | [], _ => rfl
  | t :: a, ws => by
    show (wsAll M a _).length = _
    rw [wsAll_len M a]
    simp only [List.length_append, List.length_cons, List.length_nil]
    omega
/-- the worth of a program -/
def progW (M : Mea α) (p : List Tm) : α := (wsAll M p []).getLastD (M.oR [])
/-- a program whose terms are at most so deep -/
structure PrOk (D : Mv → Prop) (r n : Nat) (p : List Tm) : Prop where
  ne : 0 < p.length
  len : p.length ≤ 400
  tm : ∀ (i : Nat) t, p[i]? = some t → okTm D r i t ∧ dep t ≤ n
theorem wsAll_take (M : Mea α) {p : List Tm} {i : Nat} {t : Tm} (h : p[i]? = some t) : wsAll M (p.take (i + 1)) [] = wsAll M (p.take i) [] ++ [worth M (wsAll M (p.take i) []) t] := by
  rw [List.take_add_one, h, wsAll_app]
  rfl
theorem wsAll_ok (R : MeaR α) {n : Nat} {p : List Tm} (h : PrOk R.okD R.most n p) : ∀ i, i ≤ p.length → ∀ a ∈ wsAll R.toMea (p.take i) [], R.ok a
  | 0, _, a, ha => nomatch ha
  | i + 1, hi, a, ha => by
    obtain ⟨t, ht⟩ : ∃ t, p[i]? = some t := ⟨_, List.getElem?_eq_getElem (by omega)⟩
    rw [wsAll_take _ ht] at ha
    have ih := wsAll_ok R h i (by omega)
    rcases List.mem_append.mp ha with c | c
    · exact ih a c
    · rw [List.mem_singleton.mp c]
      refine worth_ok R ih t ?_
      rw [wsAll_len, List.length_take]
      have := (h.tm i t ht).1
      rwa [show [].length + min i p.length = i by show 0 + _ = _; omega]
end
section
variable {P : Program} {w : World} {K : PySem.W.Frag} {mg : Str → Option Value} {base : Heap} {α : Type}
def spPW (R : MeaR α) (C : Addr) (n : Nat) : Sp := fun vs H Q _ => ∃ (v m : V) (p : List Tm), vs = [v, m] ∧ R.obj C m H ∧ Dq H v (.tuple (p.map tmD)) ∧ R.most ≤ 400 ∧ PrOk R.okD R.most n p ∧ ∀ H' r, Same H H' → R.rep (progW R.toMea p) r H' → Q r H'
abbrev nPw : List Str := ["program", "measure", "worths", "term"]
theorem o_progWorth {R : MeaR α} {C : Addr} {km n : Nat} (D0 : Df K mg "program_worth" sProgramWorth ["program", "measure"]) (B : Bi mg) (tw : Ok P w K mg base (km + n) "term_worth" ["term", "worths", "measure"] (spTW R C n)) : Ok P w K mg base (km + n + 1) "program_worth" ["program", "measure"] (spPW R C n) := by
  have scPw : FnScope nPw ["program", "measure"] (defScope sProgramWorth) := ⟨rfl, rfl, rfl, by decide +kernel, rfl, by decide +kernel, by decide +kernel⟩
  refine D0.ok fun f fd F => F.ok scPw (fun vs H Q E h => ?_) (fun cdv A outer s H vs Q E hr h => ?_)
  · obtain ⟨_, _, _, rfl, _⟩ := h
    rfl
  · obtain ⟨v, m, p, rfl, hob, hv, hmo, hp, q⟩ := h
    refine ⟨_, pss_cons (ps_set (i := 2) scPw.nd rfl (.inl rfl) (pe_lst pa_nil))
      (pss_cons (ps_for PassesOwn.never rfl (pi_tup (pv 0)) (pg_name (i := 3) scPw.nd rfl (.inl rfl))
        (pss_one (ps_expr (pe_bm PySem.F.plainAttrs_list PySem.F.slot_list_append PySem.F.type_list_append mt_append (pv 2) (pa_cons (pe_fn tw hr (by rfl) (pa_cons (pv 3) (pa_cons (pv 2) (pa_cons (pv 1) pa_nil)))) pa_nil)))))
      (pss_one (ps_ret (pe_ix ix_list (pv 2) (pe_un un_neg pe_int) (fun _ _ => rfl))))), ?_⟩
    obtain ⟨pa, xs, rfl, hpa, qx⟩ := Dq.tup_inv hv
    have hxl : xs.length = p.length := by rw [qx.len, List.length_map]
    refine ⟨by show 0 ≤ sizeLine; decide, fun W nW => ?_⟩
    have s1 := same_new (o := .lst []) nW
    have hW : upd H W (.lst []) W = some (.lst []) := upd_same
    have nf : ∀ b o, H b = some o → b ≠ W := fun b o hb => ne_of_none hb nW
    generalize upd H W (.lst []) = H1 at s1 hW
    dsimp only [tNext]
    refine ⟨.ref pa, rfl, pa, rfl, ⟨_, SqT.of (s1 _ _ hpa)⟩, for_it (walk_tup (K := K) (a := pa) (xs := xs)) (fun i σ G => ∃ (v3 : Option V) (us : List V), σ = [some (.ref pa), some m, some (.ref W), v3] ∧ Same H G ∧ G W = some (.lst us) ∧ us.length = i ∧ ∀ (k : Nat) u a, us[k]? = some u → (wsAll R.toMea (p.take i) [])[k]? = some a → R.rep a u G)
      ⟨_, [], rfl, s1, hW, rfl, fun k u a h _ => by simp at h⟩ (fun _ _ _ _ ⟨_, _, _, sm, _⟩ => SqT.of (sm _ _ hpa)) ?_ ?_⟩
    · rintro i x σ _ G hi ⟨v3, us, rfl, sm, hG, hul, hus⟩ ⟨rfl, hx⟩
      obtain ⟨d0, hd0, qd⟩ := qx.get hx
      rw [List.getElem?_map] at hd0
      obtain ⟨t, ht, rfl⟩ := Option.map_eq_some_iff.mp hd0
      obtain ⟨h1, h2⟩ := hp.tm i t ht
      have hwl : (wsAll R.toMea (p.take i) []).length = i := by
        rw [wsAll_len, List.length_take]
        show 0 + _ = _
        omega
      have hpl := hp.len
      refine ⟨.ref W, rfl, .inl ⟨rfl, _, SqL.of hG⟩, x, rfl, .ref W, rfl, m, rfl, x, W, m, t, us, wsAll R.toMea (p.take i) [], rfl, MeaR.objUp hob sm, qd.up sm, h2, hmo, by rw [hwl]; exact h1, hG, by rw [hul, hwl], hus, wsAll_ok R hp i (by omega), fun H' r s2 hr' => ?_⟩
      have hG' := s2 _ _ hG
      refine ⟨W, us, r, rfl, rfl, hG', szl (by omega), _, us ++ [r], rfl, fun b o hb => ?_, upd_same, by rw [List.length_append, hul]; rfl, fun k u a hk ha => ?_⟩
      · rw [upd_ne (nf b o hb)]
        exact s2 _ _ (sm _ _ hb)
      · have ts : TS H' (upd H' W (.lst (us ++ [r]))) := TS.lst hG'
        rw [wsAll_take _ ht] at ha
        rcases Nat.lt_trichotomy k us.length with c | c | c
        · rw [List.getElem?_append_left c] at hk
          rw [List.getElem?_append_left (by rw [hwl]; omega)] at ha
          exact R.up ts (R.up (TS.of s2) (hus k u a hk ha))
        · subst c
          rw [List.getElem?_append_right (Nat.le_refl _), Nat.sub_self] at hk
          cases Option.some.inj hk
          rw [List.getElem?_append_right (by rw [hwl]; omega), hwl, hul, Nat.sub_self] at ha
          cases Option.some.inj ha
          exact R.up ts hr'
        · rw [List.getElem?_eq_none (by rw [List.length_append]; show _ + 1 ≤ _; omega)] at hk
          cases hk
    · rintro σ G ⟨v3, us, rfl, sm, hG, hul, hus⟩
      rw [hxl, List.take_length] at hus
      rw [hxl] at hul
      have hne := hp.ne
      obtain ⟨u, hu⟩ : ∃ u, us[p.length - 1]? = some u := ⟨_, List.getElem?_eq_getElem (by omega)⟩
      have hal : (wsAll R.toMea p []).length = p.length := by rw [wsAll_len]; show 0 + _ = _; omega
      obtain ⟨a, ha⟩ : ∃ a, (wsAll R.toMea p [])[p.length - 1]? = some a := ⟨_, List.getElem?_eq_getElem (by omega)⟩
      have el : progW R.toMea p = a := by
        unfold progW
        rw [List.getLastD_eq_getLast?, List.getLast?_eq_getElem?, hal, ha]
        rfl
      have hul2 : p.length - 1 < us.length := by omega
      have eu : us = us.take (p.length - 1) ++ [u] := by
        have h1 := List.take_append_drop (p.length - 1) us
        rw [List.drop_eq_getElem_cons hul2, List.drop_eq_nil_of_le (by omega)] at h1
        rw [List.getElem?_eq_getElem hul2] at hu
        rw [Option.some.inj hu] at h1
        exact h1.symm
      refine ⟨.ref W, rfl, _, rfl, W, us, -1, u, rfl, rfl, SqL.of hG, by rw [eu]; exact atI_last _ _, q G u sm ?_⟩
      rw [el]
      exact hus _ u a hu ha
end
end Kr
namespace Kr
open PySem PySem.Spec PyProof.Rows L2
/-! ### two measures that keep a relation -/
/-- place by place -/
def RelL {α β : Type} (R : α → β → Prop) : List α → List β → Prop
  | [], [] => True
  | a :: as, b :: bs => R a b ∧ RelL R as bs
  | _, _ => False
section
variable {α β : Type} {R : α → β → Prop} {M : Mea α} {N : Mea β}
structure RelM (R : α → β → Prop) (D : Mv → Prop) (M : Mea α) (N : Mea β) : Prop where
  oD : ∀ d, D d → R (M.oD d) (N.oD d)
  oR : ∀ as bs, RelL R as bs → R (M.oR as) (N.oR bs)
  oB : ∀ a b, R a b → R (M.oB a) (N.oB b)
  oT : ∀ a b k, R a b → R (M.oT a k) (N.oT b k)
theorem RelL.snoc : ∀ {as : List α} {bs : List β} {a : α} {b : β}, RelL R as bs → R a b → RelL R (as ++ [a]) (bs ++ [b])
  | [], [], _, _, _, h => ⟨h, trivial⟩
  | x :: as, y :: bs, _, _, h, g => ⟨h.1, RelL.snoc (as := as) (bs := bs) h.2 g⟩
  | [], _ :: _, _, _, h, _ => h.elim
  | _ :: _, [], _, _, h, _ => h.elim
theorem RelL.getD : ∀ {as : List α} {bs : List β} {a : α} {b : β} (j : Nat), RelL R as bs → R a b → R (as.getD j a) (bs.getD j b)
  | [], [], _, _, _, _, h => h
  | x :: as, y :: bs, _, _, 0, h, _ => h.1
  | x :: as, y :: bs, _, _, j + 1, h, g => by
    simpa using RelL.getD (as := as) (bs := bs) j h.2 g
  | [], _ :: _, _, _, _, h, _ => h.elim
  | _ :: _, [], _, _, _, h, _ => h.elim
theorem RelL.lastD : ∀ {as : List α} {bs : List β} {a : α} {b : β}, RelL R as bs → R a b → R (as.getLastD a) (bs.getLastD b)
  | [], [], _, _, _, h => h
  | x :: as, y :: bs, a, b, h, _ => by
    rw [List.getLastD_cons, List.getLastD_cons]
    exact RelL.lastD (as := as) (bs := bs) h.2 h.1
  | [], _ :: _, _, _, h, _ => h.elim
  | _ :: _, [], _, _, h, _ => h.elim
mutual
theorem RelM.worth {D : Mv → Prop} {r k : Nat} (h : RelM R D M N) {ws : List α} {vs : List β} (hw : RelL R ws vs) : ∀ t : Tm, okTm D r k t → R (worth M ws t) (worth N vs t)
  | .doo d, o => by
    simp only [okTm] at o
    simp only [Kr.worth]
    exact h.oD d o
  | .part j, _ => by
    simp only [Kr.worth]
    exact hw.getD j (h.oR [] [] trivial)
  | .row ts, o => by
    simp only [okTm] at o
    simp only [Kr.worth]
    exact h.oR _ _ (RelM.worthL h hw ts o.2)
  | .back t, o => by
    simp only [okTm] at o
    simp only [Kr.worth]
    exact h.oB _ _ (RelM.worth h hw t o)
  | .times t n, o => by
    simp only [okTm] at o
    simp only [Kr.worth]
    exact h.oT _ _ n (RelM.worth h hw t o.2)
theorem RelM.worthL {D : Mv → Prop} {r k : Nat} (h : RelM R D M N) {ws : List α} {vs : List β} (hw : RelL R ws vs) : ∀ ts : List Tm, okTms D r k ts → RelL R (worthL M ws ts) (worthL N vs ts)
  | [], _ => by
    simp only [Kr.worthL]
    trivial
  | t :: ts, o => by
    simp only [okTms] at o
    simp only [Kr.worthL]
    exact ⟨RelM.worth h hw t o.1, RelM.worthL h hw ts o.2⟩
end
theorem RelM.wsAll {D : Mv → Prop} {r n : Nat} (h : RelM R D M N) {p : List Tm} (hp : PrOk D r n p) : ∀ i, i ≤ p.length → RelL R (wsAll M (p.take i) []) (wsAll N (p.take i) [])
  | 0, _ => trivial
  | i + 1, hi => by
    obtain ⟨t, ht⟩ : ∃ t, p[i]? = some t := ⟨_, List.getElem?_eq_getElem (by omega)⟩
    rw [wsAll_take _ ht, wsAll_take _ ht]
    have ih := RelM.wsAll h hp i (by omega)
    exact ih.snoc (h.worth ih t (hp.tm i t ht).1)
theorem RelM.progW {D : Mv → Prop} {r n : Nat} (h : RelM R D M N) {p : List Tm} (hp : PrOk D r n p) : R (progW M p) (progW N p) := by
  have e := RelM.wsAll h hp p.length (Nat.le_refl _)
  rw [List.take_length] at e
  exact e.lastD (h.oR [] [] trivial)
end
end Kr
namespace Kr
open PySem PySem.Spec PyProof.Rows L2
/-- two ways of an expression that meet again -/
theorem ifE_join {c : Prop} [Decidable c] {a b : TE} {σ τ : L2.St} {Ha Hb : Hp} {Q : VK} (R : V → Hp → Prop) (h : ∀ v G, R v G → Q v G) (hA : c → ∀ Q' : VK, (∀ v G, R v G → Q' v G) → a σ Ha Q') (hB : ¬ c → ∀ Q' : VK, (∀ v G, R v G → Q' v G) → b τ Hb Q') : if c then a σ Ha Q else b τ Hb Q :=
  ite2 (fun k => hA k Q h) fun k => hB k Q h
/-- two ways of a statement that meet again, none of which ends the def -/
theorem ifS_join {c : Prop} [Decidable c] {a b : L2.TS} {D : Ends} {σ τ : L2.St} {Ha Hb : Hp} (R : L2.St → Hp → Prop) (h : ∀ σ G, R σ G → D.nx σ G) (hA : c → ∀ D' : Ends, (∀ σ G, R σ G → D'.nx σ G) → a D' σ Ha) (hB : ¬ c → ∀ D' : Ends, (∀ σ G, R σ G → D'.nx σ G) → b D' τ Hb) : if c then a D σ Ha else b D τ Hb :=
  ite2 (fun k => hA k D h) fun k => hB k D h
end Kr
namespace Kr
open PySem PySem.Spec PyProof.Rows L2
local macro_rules | `(tactic| walk_at "bq") => `(tactic| repeat' (first | with_reducible refine bqa_nil ?_ | with_reducible refine bqa_cons ?_ | with_reducible refine bq_tup1 ?_ | with_reducible refine bq_tup2 ?_ | with_reducible refine bq_tup3 ?_ | with_reducible refine bq_str ?_ | with_reducible refine bq_c ?_ | with_reducible refine bn_c ?_ | with_reducible refine bn_op ?_))
def spProgP : Sp := fun vs H Q _ => ∃ (p l : Addr) (n most : Nat), vs = [.ref p, .int (n : Int), .int (most : Int)] ∧ Deck H p l ∧ 3 ≤ n ∧ n ≤ 6 ∧ 1 ≤ most ∧ most ≤ 120 ∧ ∀ H' v ts, Deck H' p l → Ext p l H H' → Dq H' v (.tuple (ts.map tmD)) → PrOk (Deed n) 10 4 ts → (∀ t ∈ ts, timK 3 t) → (∀ a ∈ wsAll cntM ts [], a ≤ most) → ts.length ≤ 6 → Q v H'
structure LPr (n : Nat) (p l : Addr) (H : Hp) (F S : Addr) (us : List V) (ts : List Tm) (G : Hp) : Prop where
  D : Deck G p l
  E : Ext p l H G
  hF : G F = some (.lst us)
  hS : G S = some (.lst ((wsAll cntM ts []).map fun a : Nat => V.int (a : Int)))
  qu : DqA G us (ts.map tmD)
theorem LPr.deck {n : Nat} {p l F S : Addr} {H G G' : Hp} {us : List V} {ts : List Tm} (h : LPr n p l H F S us ts G) (nF : F ≠ p ∧ F ≠ l) (nS : S ≠ p ∧ S ≠ l) (D : Deck G' p l) (E : Ext p l G G') : LPr n p l H F S us ts G' := ⟨D, Same.trans h.E E, E.at_ nF.1 nF.2 h.hF, E.at_ nS.1 nS.2 h.hS, by
  have fl := tms_flat ts
  rw [tmDs_map] at fl
  exact DqA.upT (TS.deck h.D E) fl h.qu⟩
theorem LPr.up {n : Nat} {p l F S : Addr} {H G G' : Hp} {us : List V} {ts : List Tm} (h : LPr n p l H F S us ts G) (s : Same G G') : LPr n p l H F S us ts G' := ⟨h.D.up s, Same.trans h.E (Ext.of s), s _ _ h.hF, s _ _ h.hS, h.qu.up s⟩
section
variable {P : Program} {w : World} {K : PySem.W.Frag} {mg : Str → Option Value} {base : Heap}
abbrev n_lProgP : List Str := ["box", "n", "most", "found", "sizes", "many", "at", "term", "some", "turn"]
theorem sc_lProgP : FnScope n_lProgP ["box", "n", "most"] (defScope sLProgram) := ⟨rfl, rfl, rfl, by decide +kernel, rfl, by decide +kernel, by decide +kernel⟩
theorem o_lProgP (D0 : Df K mg "_law_program" sLProgram ["box", "n", "most"]) (B : Bi mg) (dr : Ok P w K mg base 1 "_law_draw" ["box", "many"] spDraw) (dd : Ok P w K mg base 3 "_law_deed" ["box", "n"] spDeed) (tm : Ok P w K mg base 7 "_law_term" ["box", "n", "at", "deep"] (spTermP 4)) (le : Ok P w K mg base 4 "_law_length" ["sizes", "term"] (spCount 4)) : Ok P w K mg base 8 "_law_program" ["box", "n", "most"] spProgP := by
  refine D0.ok fun f fd F => F.ok sc_lProgP (fun vs H Q E h => ?_) (fun cdv A outer s H vs Q E hr h => ?_)
  · obtain ⟨_, _, _, _, rfl, _⟩ := h
    rfl
  · obtain ⟨p, l, n, most, rfl, Dk, n0, n1, o0, o1, q⟩ := h
    have hr_dr := hr.mono (show 1 ≤ 7 by omega)
    have hr_dd := hr.mono (show 3 ≤ 7 by omega)
    have hr_tm := hr.mono (show 7 ≤ 7 by omega)
    have hr_le := hr.mono (show 4 ≤ 7 by omega)
    have hu : (cxOf CX0 P w K mg base n_lProgP "_law_program" (defScope sLProgram) f cdv A outer s H E).A.units + 64 < cLine := hr.units
    have hu1 := hu_of hr
    refine ⟨_, pss_cons (ps_par3 (i := 3) (j := 4) (l := 5) rfl sc_lProgP.nd rfl rfl rfl (by decide) (by decide) (by decide) rfl rfl rfl (pa_cons (pe_lst pa_nil) (pa_cons (pe_lst pa_nil) (pa_cons (pe_op op_add pe_int (pe_fn dr hr_dr (by rfl) (pa_cons (pv 0) (pa_cons pe_int pa_nil)))) pa_nil))) (by rfl))
      (pss_cons (ps_for PassesOwn.never rfl (pi_range1 (by rfl) B.range (pa_cons (pe_op op_add (pv 5) pe_int) pa_nil)) (pg_name (i := 6) sc_lProgP.nd rfl (.inr rfl))
        (pss_cons (ps_set (i := 7) sc_lProgP.nd rfl (.inl rfl) (pe_fn tm hr_tm (by rfl) (pa_cons (pv 0) (pa_cons (pv 1) (pa_cons (pv 6) (pa_cons pe_int pa_nil))))))
        (pss_cons (ps_if (pt_cmpR op_eq (pv 6) (pv 5) (nomark _)) (pss_cons (ps_setLc (i := 8) (own := [("turn", 9)]) (g := gName 9) (tt := tYes) rfl sc_lProgP.nd rfl rfl (sw_true rfl rfl rfl (by decide +kernel)) (pi_range1 (by rfl) B.range (pa_cons (pe_op op_add pe_int (pe_fn dr hr_dr (by rfl) (pa_cons (pv 0) (pa_cons pe_int pa_nil)))) pa_nil)) (blkOk_by (own := [("turn", 9)]) (N := n_lProgP) (sc := defScope sLProgram) (by decide +kernel)) (fun _ _ _ _ _ => pg_name (i := 9) sc_lProgP.nd rfl (.inl rfl)) (fun _ _ _ _ _ => pts_nil) (fun _ _ _ _ _ => (pe_fn tm hr_tm (by rfl) (pa_cons (pv 0) (pa_cons (pv 1) (pa_cons (pv 6) (pa_cons pe_int pa_nil)))))))
          (pss_one (ps_set (i := 7) sc_lProgP.nd rfl (.inl rfl) (pe_tup (pa_cons pe_str (pa_cons (pe_callTy call_tuple_of (by rfl) B.tuple (by decide +kernel) (pa_cons (pe_op op_cat (pv 8) (pe_lst (pa_cons (pe_tup (pa_cons pe_str (pa_cons (pe_fn dr hr_dr (by rfl) (pa_cons (pv 0) (pa_cons (pv 6) pa_nil))) pa_nil))) pa_nil))) pa_nil)) pa_nil)))))) pss_nil)
        (pss_cons (ps_if (pt_cmpR op_gt (pe_fn le hr_le (by rfl) (pa_cons (pv 4) (pa_cons (pv 7) pa_nil))) (pv 2) (nomark _)) (pss_one (ps_set (i := 7) sc_lProgP.nd rfl (.inl rfl) (pe_tup (pa_cons pe_str (pa_cons (pe_callTy call_tuple_of (by rfl) B.tuple (by decide +kernel) (pa_cons (pe_lc (own := [("turn", 9)]) (g := gName 9) (tt := tYes) rfl sc_lProgP.nd (pi_range1 (by rfl) B.range (pa_cons (pe_callB (call_min2 rfl) (by rfl) B.min (by decide +kernel) (pa_cons (pv 2) (pa_cons (pe_op op_add pe_int (pe_fn dr hr_dr (by rfl) (pa_cons (pv 0) (pa_cons pe_int pa_nil)))) pa_nil))) pa_nil)) (blkOk_by (own := [("turn", 9)]) (N := n_lProgP) (sc := defScope sLProgram) (by decide +kernel)) (fun _ _ _ _ _ => pg_name (i := 9) sc_lProgP.nd rfl (.inl rfl)) (fun _ _ _ _ _ => pts_nil) (fun _ _ _ _ _ => (pe_tup (pa_cons pe_str (pa_cons (pe_fn dd hr_dd (by rfl) (pa_cons (pv 0) (pa_cons (pv 1) pa_nil))) pa_nil))))) pa_nil)) pa_nil))))) pss_nil)
        (pss_cons (ps_expr (pe_bm PySem.F.plainAttrs_list PySem.F.slot_list_append PySem.F.type_list_append mt_append (pv 3) (pa_cons (pv 7) pa_nil)))
        (pss_one (ps_expr (pe_bm PySem.F.plainAttrs_list PySem.F.slot_list_append PySem.F.type_list_append mt_append (pv 4) (pa_cons (pe_fn le hr_le (by rfl) (pa_cons (pv 4) (pa_cons (pv 7) pa_nil))) pa_nil)))))))))
      (pss_one (ps_ret (pe_callTy call_tuple_of (by rfl) B.tuple (by decide +kernel) (pa_cons (pv 3) pa_nil))))), ?_⟩
    refine ⟨by show 0 ≤ sizeLine; decide, fun F nF => ⟨by show 0 ≤ sizeLine; decide, fun S nS => ?_⟩⟩
    obtain ⟨e1, D1, _⟩ := new_dq (o := .lst []) Dk nF
    obtain ⟨nFp, nFl⟩ := Dk.new nF
    obtain ⟨e2, D2, _⟩ := new_dq (o := .lst []) D1 nS
    obtain ⟨nSp, nSl⟩ := D1.new nS
    have nSF : S ≠ F := fun z => by rw [z, upd_same] at nS; cases nS
    have nS0 : H S = none := by rw [upd_ne nSF] at nS; exact nS
    have hF0 : upd (upd H F (.lst [])) S (.lst []) F = some (.lst []) := by rw [upd_ne nSF.symm, upd_same]
    have hS0 : upd (upd H F (.lst [])) S (.lst []) S = some (.lst []) := upd_same
    have L0 : LPr n p l H F S [] [] _ := ⟨D2, e1.trans e2, hF0, hS0, .nil⟩
    generalize upd (upd H F (.lst [])) S (.lst []) = H0 at L0
    refine bn_at (F := frD p l) (H := H0) (N := fun m => ∃ k : Nat, m = (k : Int) ∧ 1 ≤ k ∧ k ≤ 4) (bn_op (bn_c (bn_draw rfl (bn_c ⟨by decide, by decide, fun r h0 h1 => ⟨(1 + r).toNat, by omega, by omega, by omega⟩⟩)))) L0.D fun G1 m D3 E3 hm => ⟨_, _, _, rfl, ?_⟩
    obtain ⟨many, rfl, k1, k4⟩ := hm
    have L1 := L0.deck ⟨nFp, nFl⟩ ⟨nSp, nSl⟩ D3 E3
    clear L0 D3 E3 hF0 hS0 D1 D2 e1 e2 nS
    dsimp only [tNext]
    refine ⟨.int (many : Int), rfl, _, _, rfl, rfl, (many : Int) + 1, rfl, by omega, by omega, for_it (walk_rg (n := ((many : Int) + 1).toNat)) (fun i σ G => ∃ (v6 v7 v8 : Option V) (us : List V) (ts : List Tm), σ = [some (.ref p), some (.int (n : Int)), some (.int (most : Int)), some (.ref F), some (.ref S), some (.int (many : Int)), v6, v7, v8, none] ∧ LPr n p l H F S us ts G ∧ ts.length = i ∧ (∀ (j : Nat) t, ts[j]? = some t → okTm (Deed n) 10 j t ∧ dep t ≤ 4) ∧ (∀ t ∈ ts, timK 3 t) ∧ ∀ a ∈ wsAll cntM ts [], a ≤ most) ⟨_, _, _, [], [], rfl, L1, rfl, fun j t h => by simp at h, fun _ h => (nomatch h), fun _ h => (nomatch h)⟩ (fun _ _ _ _ _ => trivial) ?_ ?_⟩
    · rintro i x σ _ G hi ⟨v6, v7, v8, us, ts, rfl, L, htl, hts, htk, hcn⟩ ⟨rfl, rfl⟩
      have hi5 : i ≤ 4 := by omega
      refine sq_asg ?_
      refine ⟨.ref p, rfl, .int (n : Int), rfl, .int (i : Int), rfl, p, l, n, i, 4, rfl, L.D, n0, n1, by omega, by decide, by decide, fun G1 v d D1 E1 qd fd hd => ?_⟩
      have L1 := L.deck ⟨nFp, nFl⟩ ⟨nSp, nSl⟩ D1 E1
      clear D1 E1 L
      refine sq_if ?_
      refine ⟨.int (i : Int), rfl, .int (many : Int), rfl, rfl, _, rfl, ?_⟩
      refine ifS_join (R := fun σ G => ∃ (v7 : V) (v8 : Option V) (d : PyData), σ = [some (.ref p), some (.int (n : Int)), some (.int (most : Int)), some (.ref F), some (.ref S), some (.int (many : Int)), some (.int (i : Int)), some v7, v8, none] ∧ LPr n p l H F S us ts G ∧ Dq G v7 d ∧ flatT d = true ∧ IsTp n i 4 d) ?_ (fun c D' kD => ?_) (fun _ D' kD => kD _ _ ⟨v, v8, d, rfl, L1, qd, fd, hd⟩)
      rotate_left
      · have him : i = many := by
          have := V.int.inj (of_decide_eq_true c)
          omega
        refine ⟨.ref p, rfl, p, l, 5, rfl, L1.D, by decide, by decide, fun G2 r D2 E2 r0 r1 => ⟨_, _, rfl, rfl, 2 + r, rfl, by omega, by omega, fun D nD => bq_lcR nD (p := p) (l := l) (σ := [some (.ref p), some (.int (n : Int)), some (.int (most : Int)), some (.ref F), some (.ref S), some (.int (many : Int)), some (.int (i : Int)), some v, v8, none]) (vs := [9]) (g := 9) (m := (2 + r).toNat) (R := IsTp n i 3) (by omega) D2 (fun _ => rfl) (fun k hk => ?_) fun G3 us3 ds3 D3 E3 nDp nDl hD qu3 hl3 fu3 hds3 => ?_⟩⟩
        · exact fun G4 D4 E4 Q' k => ⟨_, rfl, _, rfl, _, rfl, p, l, n, i, 3, rfl, D4, n0, n1, by omega, by decide, by decide, fun G5 v5 d5 D5 E5 q5 f5 h5 => k G5 v5 d5 D5 E5 q5 f5 h5⟩
        · have L3 := (L1.deck ⟨nFp, nFl⟩ ⟨nSp, nSl⟩ D2 E2).deck ⟨nFp, nFl⟩ ⟨nSp, nSl⟩ D3 E3
          dsimp only [gName]
          refine one_asg ?_
          refine bq_at (F := frD p l) (H := G3) (R := fun d => ∃ ds, d = .tuple [.str "row", .tuple (ds3 ++ ds)] ∧ ds.length = 1 ∧ ∀ d ∈ ds, IsTp n i 3 d) ?_ D3 fun G4 v4 d4 D4 E4 q4 f4 h4 => ?_
          · refine bq_tup2 (bqa_cons (bq_str (bqa_cons (fun G4 D4 E4 Q' k => ?_))))
            have D4 : Deck G4 p l := D4
            have E4 : Ext p l G3 G4 := E4
            refine ⟨.ref D, rfl, bq_lst (F := frD p l) (S := fun ds => ∀ d ∈ ds, IsTp n i 3 d) (n := 1) (H := G4) ?_ D4 Ext.rfl (by decide) fun G5 b5 vs5 ds5 D5 E5 q5 l5 f5 h5 n5 => ?_⟩
            · walk_at "bq"
              refine bq_int (bn_draw (N := fun r => 0 ≤ r ∧ r < (i : Int)) rfl (bn_var rfl ⟨by omega, by omega, fun r h0 h1 => ⟨h0, h1⟩⟩)) fun r hr => ?_
              walk_at "bq"
              intro d hd
              rw [List.mem_singleton.mp hd]
              exact (tp_part (n := n) (m := 0) hr.1 hr.2).mono
            · have D5 : Deck G5 p l := D5
              have E5 : Ext p l G4 G5 := E5
              have s5 := same_new (o := .lst vs5) n5
              refine ⟨D, b5, us3, vs5, rfl, rfl, s5 _ _ (E5.at_ nDp nDl (E4.at_ nDp nDl hD)), upd_same, sz (by rw [qu3.len, q5.len]; omega), fun b6 n6 => ⟨b6, _, rfl, .inl ⟨SqL.of upd_same, fun t nt => ?_⟩⟩⟩
              have s6 := same_new (o := .lst (us3 ++ vs5)) n6
              have st := same_new (o := .tup (us3 ++ vs5)) nt
              have s56 := s5.trans (s6.trans st)
              have fl5 : flatTA (ds3 ++ ds5) = true := by
                have : ∀ a b : List PyData, flatTA a = true → flatTA b = true → flatTA (a ++ b) = true := by
                  intro a b
                  induction a with
                  | nil => intro _ h; exact h
                  | cons x a ih =>
                    intro h1 h2
                    have h3 : flatT x = true ∧ flatTA a = true := by simpa [flatTA] using h1
                    simp [flatTA, h3.1, ih h3.2 h2]
                exact this _ _ fu3 f5
              exact k _ _ (.tuple (ds3 ++ ds5)) (D5.up s56) (Same.trans E5 (Ext.of s56)) (.tup upd_same (DqA.app ((DqA.upT (TS.deck D4 E5) fu3 (DqA.upT (TS.deck D3 E4) fu3 qu3)).up s56) (q5.up s56))) (by simpa [flatT] using fl5) (bqa_nil ⟨ds5, rfl, l5, h5⟩)
          · have D4 : Deck G4 p l := D4
            have E4 : Ext p l G3 G4 := E4
            obtain ⟨ds4, rfl, hl4, hd4⟩ := h4
            refine kD _ _ ⟨v4, some (.ref D), _, rfl, L3.deck ⟨nFp, nFl⟩ ⟨nSp, nSl⟩ D4 E4, q4, f4, tp_row (fun x hx => (List.mem_append.mp hx).elim (hds3 x) (hd4 x)) ?_⟩
            rw [List.length_append, hl3, hl4]
            omega
      clear L1 qd fd hd v d
      rintro σ G1 ⟨v7, v8, d, rfl, L1, qd, fd, ⟨t, rfl, ot, pt, kt⟩⟩
      have hcl : (wsAll cntM ts []).length = i := by
        rw [wsAll_len]
        show 0 + _ = _
        omega
      have hc7 : ∀ a ∈ wsAll cntM ts [], a < 2 ^ 7 := fun a ha => Nat.lt_of_le_of_lt (hcn a ha) (Nat.lt_of_le_of_lt o1 (by decide))
      have cntOk : ∀ (σ : L2.St) (t : Tm) (v : V) (G : Hp) (Q' : VK), σ[4]? = some (some (.ref S)) → σ[7]? = some (some v) → LPr n p l H F S us ts G → Dq G v (tmD t) → okTm (Deed n) 10 i t → dep t ≤ 4 → (∀ H', Same G H' → Q' (.int ((worth cntM (wsAll cntM ts []) t : Nat) : Int)) H') → tCall (spCount 4) [] E0 (tCons (tVar 4) (tCons (tVar 7) tNil)) σ G Q' := fun σ t v G Q' e4 e7 LG qv ot pt k =>
        ⟨_, e4, _, e7, S, v, t, _, 7, rfl, LG.hS, qv, pt, by rw [hcl]; exact okTm_mono (fun _ _ => trivial) (by decide) (Nat.le_refl _) t ot, hc7, by decide, k⟩
      dsimp only [tNext]
      refine sq_if ?_
      refine cntOk _ t v7 G1 _ rfl rfl L1 qd ot pt fun G2 s2 => ⟨.int (most : Int), rfl, _, _, rfl, rfl, _, rfl, ?_⟩
      have L2' := L1.up s2
      refine ifS_join (R := fun σ G => ∃ (v7 : V) (t : Tm), σ = [some (.ref p), some (.int (n : Int)), some (.int (most : Int)), some (.ref F), some (.ref S), some (.int (many : Int)), some (.int (i : Int)), some v7, v8, none] ∧ LPr n p l H F S us ts G ∧ Dq G v7 (tmD t) ∧ okTm (Deed n) 10 i t ∧ dep t ≤ 4 ∧ timK 3 t ∧ worth cntM (wsAll cntM ts []) t ≤ most) ?_ (fun c D' kD => ?_) (fun c D' kD => kD _ _ ⟨v7, t, rfl, L2', qd.up s2, ot, pt, kt, by
        have : ¬ (most : Int) < ((worth cntM (wsAll cntM ts []) t : Nat) : Int) := fun z => c (decide_eq_true z)
        omega⟩)
      rotate_left
      · refine ⟨.int (most : Int), rfl, .ref p, rfl, p, l, 9, rfl, L2'.D, by decide, by decide, fun G3 r D3 E3 r0 r1 => ⟨_, _, rfl, rfl, _, _, rfl, ?_⟩⟩
        obtain ⟨m, hm, m1, m10⟩ : ∃ m : Nat, (if (2 + r : Int) < (most : Int) then (2 + r : Int) else (most : Int)) = (m : Int) ∧ m ≤ most ∧ m ≤ 10 := by
          by_cases c : (2 + r : Int) < (most : Int)
          · exact ⟨(2 + r).toNat, by rw [if_pos c]; omega, by omega, by omega⟩
          · exact ⟨most, by rw [if_neg c], Nat.le_refl _, by omega⟩
        rw [hm]
        have L3 := L2'.deck ⟨nFp, nFl⟩ ⟨nSp, nSl⟩ D3 E3
        refine ⟨(m : Int), rfl, by omega, by omega, fun D nD => ?_⟩
        rw [Int.toNat_natCast]
        refine bq_lcR nD (p := p) (l := l) (σ := [some (.ref p), some (.int (n : Int)), some (.int (most : Int)), some (.ref F), some (.ref S), some (.int (many : Int)), some (.int (i : Int)), some v7, v8, none]) (vs := [9]) (g := 9) (m := m) (R := fun d => ∃ md, d = tmD (.doo md) ∧ Deed n md) (by omega) D3 (fun _ => rfl) (fun k hk => ?_) fun G4 us4 ds4 D4 E4 nDp nDl hD qu4 hl4 fu4 hds4 => ?_
        · walk_at "bq"
          refine (bq_deed rfl rfl n0 n1).mono fun d ⟨md, e, hd⟩ => ?_
          walk_at "bq"
          exact ⟨md, by rw [e]; simp only [tmD], hd⟩
        · have L4 := L3.deck ⟨nFp, nFl⟩ ⟨nSp, nSl⟩ D4 E4
          have get : ∀ ds : List PyData, (∀ d ∈ ds, ∃ md, d = tmD (.doo md) ∧ Deed n md) → ∃ ms : List Mv, ds = tmDs (ms.map Tm.doo) ∧ ms.length = ds.length ∧ ∀ m ∈ ms, Deed n m := by
            intro ds
            induction ds with
            | nil => intro _; exact ⟨[], rfl, rfl, fun _ h => nomatch h⟩
            | cons d ds ih =>
              intro h
              obtain ⟨md, rfl, hd⟩ := h d List.mem_cons_self
              obtain ⟨ms, rfl, h2, h3⟩ := ih fun x hx => h x (List.mem_cons_of_mem _ hx)
              exact ⟨md :: ms, by simp only [List.map_cons, tmDs], by simp [h2], fun m hm => (List.mem_cons.mp hm).elim (fun e => e ▸ hd) (h3 m)⟩
          obtain ⟨ms, rfl, hml, hmd⟩ := get ds4 hds4
          refine ⟨D, us4, rfl, .inl ⟨SqL.of hD, fun t nt => ⟨by show 2 ≤ sizeLine; decide, fun t2 nt2 => ?_⟩⟩⟩
          have s1 := same_new (o := .tup us4) nt
          have s3 := same_new (o := .tup [.str "row", .ref t]) nt2
          refine kD _ _ ⟨.ref t2, .row (ms.map Tm.doo), rfl, L4.up (s1.trans s3), ?_, ?_, ?_, ?_, ?_⟩
          · simp only [tmD]
            exact .tup upd_same (.cons (.str _) (.cons (.tup (s3 _ _ upd_same) (qu4.up (s1.trans s3))) .nil))
          · simp only [okTm]
            refine ⟨by rw [List.length_map]; omega, okTms_of fun x hx => ?_⟩
            obtain ⟨md, h1, rfl⟩ := List.mem_map.mp hx
            simp only [okTm]
            exact hmd md h1
          · simp only [dep]
            have := depL_of (m := 1) (ts := ms.map Tm.doo) fun x hx => by
              obtain ⟨md, h1, rfl⟩ := List.mem_map.mp hx
              simp only [dep]
              omega
            omega
          · simp only [timK]
            refine timKs_of fun x hx => ?_
            obtain ⟨md, h1, rfl⟩ := List.mem_map.mp hx
            simp only [timK]
          · simp only [worth]
            rw [worthL_map, List.map_map]
            have e : (worth cntM (wsAll cntM ts [])) ∘ Tm.doo = fun _ => 1 := by
              funext x
              simp only [Function.comp, worth]
              rfl
            rw [e]
            show (List.map _ ms).sum ≤ most
            have : ∀ ms : List Mv, (ms.map fun _ => 1).sum = ms.length := by
              intro ms
              induction ms with
              | nil => rfl
              | cons _ _ ih => rw [List.map_cons, List.sum_cons, ih, List.length_cons]; omega
            rw [this]
            omega
      clear L1 L2' qd ot pt kt fd s2 t v7
      rintro σ G2 ⟨v7, t, rfl, LG, qd, ot, pt, kt, hct⟩
      dsimp only [tNext]
      have nF0 : H F = none := nF
      have hul := LG.qu.len
      rw [List.length_map] at hul
      refine sq_drop ?_
      refine ⟨.ref F, rfl, .inl ⟨rfl, us, SqL.of LG.hF⟩, v7, rfl, F, us, v7, rfl, rfl, LG.hF, szl (by omega), ?_⟩
      have tF : TS G2 (upd G2 F (.lst (us ++ [v7]))) := TS.lst LG.hF
      have fl := tms_flat ts
      rw [tmDs_map] at fl
      have DG := LG.D.mut (o := .lst (us ++ [v7])) nFp nFl
      have EG : Ext p l H (upd G2 F (.lst (us ++ [v7]))) := Ext.mut LG.E nF0
      have hS3 : upd G2 F (.lst (us ++ [v7])) S = _ := (upd_ne nSF).trans LG.hS
      have hF3 := upd_same (H := G2) (a := F) (o := .lst (us ++ [v7]))
      have q3 : DqA (upd G2 F (.lst (us ++ [v7]))) (us ++ [v7]) ((ts ++ [t]).map tmD) := by
        rw [List.map_append]
        exact dqa_snoc (DqA.upT tF fl LG.qu) (Dq.upT tF (tm_flat t) qd)
      have qd3 := Dq.upT tF (tm_flat t) qd
      generalize upd G2 F (.lst (us ++ [v7])) = G3 at DG EG hS3 hF3 q3 qd3
      refine one_drop ?_
      refine ⟨.ref S, rfl, .inl ⟨rfl, _, SqL.of hS3⟩, .ref S, rfl, v7, rfl, S, v7, t, _, 7, rfl, hS3, qd3, pt, by rw [hcl]; exact okTm_mono (fun _ _ => trivial) (by decide) (Nat.le_refl _) t ot, hc7, by decide, fun G4 s4 => ⟨S, _, _, rfl, rfl, s4 _ _ hS3, szl (by rw [List.length_map, hcl]; omega), ?_⟩⟩
      have tS : TS G4 (upd G4 S (.lst ((wsAll cntM ts []).map (fun a : Nat => V.int (a : Int)) ++ [.int ((worth cntM (wsAll cntM ts []) t : Nat) : Int)]))) := TS.lst (s4 _ _ hS3)
      have fl2 := tms_flat (ts ++ [t])
      rw [tmDs_map] at fl2
      refine ⟨_, _, _, us ++ [v7], ts ++ [t], rfl, ⟨(DG.up s4).mut nSp nSl, Ext.mut (Same.trans EG (Ext.of s4)) nS0, by rw [upd_ne nSF.symm]; exact s4 _ _ hF3, ?_, DqA.upT tS fl2 (q3.up s4)⟩, by rw [List.length_append, htl]; rfl, fun j y hy => ?_, fun y hy => ?_, fun a ha => ?_⟩
      · rw [upd_same, wsAll_app]
        show _ = some (HO.lst (List.map _ (_ ++ [_])))
        rw [List.map_append]
        rfl
      · rcases Nat.lt_trichotomy j ts.length with c | c | c
        · rw [List.getElem?_append_left c] at hy
          exact hts j y hy
        · subst c
          rw [List.getElem?_append_right (Nat.le_refl _), Nat.sub_self] at hy
          cases Option.some.inj hy
          rw [htl]
          exact ⟨ot, pt⟩
        · rw [List.getElem?_eq_none (by rw [List.length_append]; show _ + 1 ≤ _; omega)] at hy
          cases hy
      · rcases List.mem_append.mp hy with c | c
        · exact htk y c
        · rw [List.mem_singleton.mp c]
          exact kt
      · rw [wsAll_app] at ha
        rcases List.mem_append.mp ha with c | c
        · exact hcn a c
        · rw [List.mem_singleton.mp c]
          exact hct
    · rintro σ G ⟨v6, v7, v8, us, ts, rfl, L, htl, hts, htk, hcn⟩
      dsimp only [tNext]
      refine one_ret ?_
      refine ⟨.ref F, rfl, F, us, rfl, .inl ⟨SqL.of L.hF, fun t nt => ?_⟩⟩
      have st := same_new (o := .tup us) nt
      exact q _ _ ts (L.D.up st) (Same.trans L.E (Ext.of st)) (.tup upd_same (L.qu.up st)) ⟨by omega, by omega, hts⟩ htk hcn (by omega)
end
end Kr
namespace Kr
open PySem PySem.Spec PyProof.Rows L2
/-! ### few deeds in all that is told -/
mutual
def fewM (ws : List (List Mv)) : Tm → Prop
  | .doo _ => True
  | .part _ => True
  | .row ts => (worth movM ws (.row ts)).length ≤ 1200000 ∧ fewMs ws ts
  | .back t => fewM ws t
  | .times t k => (worth movM ws (.times t k)).length ≤ 1200000 ∧ fewM ws t
def fewMs (ws : List (List Mv)) : List Tm → Prop
  | [] => True
  | t :: ts => fewM ws t ∧ fewMs ws ts
end
theorem fewMs_mem {ws : List (List Mv)} : ∀ {ts : List Tm}, fewMs ws ts → ∀ t ∈ ts, fewM ws t
  | t :: ts, h, x, hx => by
    simp only [fewMs] at h
    rcases List.mem_cons.mp hx with rfl | hx
    · exact h.1
    · exact fewMs_mem h.2 x hx
theorem fewMs_of {ws : List (List Mv)} : ∀ {ts : List Tm}, (∀ t ∈ ts, fewM ws t) → fewMs ws ts
  | [], _ => by simp only [fewMs]
  | t :: ts, h => by
    simp only [fewMs]
    exact ⟨h t List.mem_cons_self, fewMs_of fun x hx => h x (List.mem_cons_of_mem _ hx)⟩
theorem mov_big {D : Mv → Prop} {k : Nat} {ws : List (List Mv)} (hw : ∀ a ∈ ws, a.length ≤ 120) (t : Tm) (h : okTm D 10 k t) (c : timK 3 t) (d : dep t ≤ 4) : (worth movM ws t).length ≤ 1200000 := by
  have h1 := mov_len (B := 120) (by decide) hw t h c
  have h2 : 10 ^ dep t ≤ 10 ^ 4 := Nat.pow_le_pow_right (by decide) d
  have h3 : 120 * 10 ^ dep t ≤ 120 * 10 ^ 4 := Nat.mul_le_mul_left _ h2
  omega
mutual
theorem few_of {D : Mv → Prop} {k : Nat} {ws : List (List Mv)} (hw : ∀ a ∈ ws, a.length ≤ 120) : ∀ t : Tm, okTm D 10 k t → timK 3 t → dep t ≤ 4 → fewM ws t
  | .doo _, _, _, _ => by simp only [fewM]
  | .part _, _, _, _ => by simp only [fewM]
  | .row ts, h, c, d => by
    have hb := mov_big hw _ h c d
    simp only [okTm] at h
    simp only [timK] at c
    simp only [dep] at d
    simp only [fewM]
    exact ⟨hb, fews_of hw ts h.2 c (by omega)⟩
  | .back t, h, c, d => by
    simp only [okTm] at h
    simp only [timK] at c
    simp only [dep] at d
    simp only [fewM]
    exact few_of hw t h c (by omega)
  | .times t k, h, c, d => by
    have hb := mov_big hw _ h c d
    simp only [okTm] at h
    simp only [timK] at c
    simp only [dep] at d
    simp only [fewM]
    exact ⟨hb, few_of hw t h.2 c.2 (by omega)⟩
theorem fews_of {D : Mv → Prop} {k : Nat} {ws : List (List Mv)} (hw : ∀ a ∈ ws, a.length ≤ 120) : ∀ ts : List Tm, okTms D 10 k ts → timKs 3 ts → depL ts ≤ 4 → fewMs ws ts
  | [], _, _, _ => by simp only [fewMs]
  | t :: ts, h, c, d => by
    simp only [okTms] at h
    simp only [timKs] at c
    simp only [depL] at d
    simp only [fewMs]
    exact ⟨few_of hw t h.1 c.1 (by omega), fews_of hw ts h.2 c.2 (by omega)⟩
end
section
variable {P : Program} {w : World} {K : PySem.W.Frag} {mg : Str → Option Value} {base : Heap}
def spMoves (n : Nat) : Sp := fun vs H Q _ => ∃ (L : Addr) (v : V) (t : Tm) (rs : List V) (ws : List (List Mv)), vs = [.ref L, v] ∧ H L = some (.lst rs) ∧ rs.length = ws.length ∧ (∀ (i : Nat) a, ws[i]? = some a → ∃ b xs, rs[i]? = some (.ref b) ∧ H b = some (.lst xs) ∧ DqA H xs (a.map deedD)) ∧
  Dq H v (tmD t) ∧ dep t ≤ n ∧ okTm (fun _ => True) 400 ws.length t ∧ fewM ws t ∧ ∀ H' r xs, Same H H' → H' r = some (.lst xs) → DqA H' xs ((worth movM ws t).map deedD) → (H r = none ∨ ∃ i : Nat, rs[i]? = some (.ref r)) → Q (.ref r) H'
abbrev nMo : List Str := ["parts", "term", "found", "once", "own"]
theorem scMo : FnScope nMo ["parts", "term"] (defScope sLMoves) := ⟨rfl, rfl, rfl, by decide +kernel, rfl, by decide +kernel, by decide +kernel⟩
theorem o_lMoves (D0 : Df K mg "_law_moves" sLMoves ["parts", "term"]) (B : Bi mg) : ∀ n, Ok P w K mg base n "_law_moves" ["parts", "term"] (spMoves n)
  | 0 => D0.ok fun f fd F => by
    have no : ∀ vs H Q E, ¬ spMoves 0 vs H Q E := fun vs H Q E h => by
      obtain ⟨_, _, t, _, _, _, _, _, _, _, hd, _⟩ := h
      have := dep_pos' t
      omega
    exact ⟨fun vs H Q E h => absurd h (no vs H Q E), fun A outer s H args us vs Q E _ _ _ _ h => absurd h (no vs H Q E)⟩
  | n + 1 => by
    have ih := o_lMoves D0 B n
    refine D0.ok fun f fd F => F.ok scMo (fun vs H Q E h => ?_) (fun cdv A outer s H vs Q E hr h => ?_)
    · obtain ⟨_, _, _, _, _, rfl, _⟩ := h
      rfl
    · obtain ⟨L, v, t, rs, ws, rfl, hL, hrl, hrs, hv, hdp, hok, htk, q⟩ := h
      have hu : (cxOf CX0 P w K mg base nMo "_law_moves" (defScope sLMoves) f cdv A outer s H E).A.units + 64 < cLine := hr.units
      refine ⟨_, pss_cons (ps_if (pt_cmpR op_eq (pe_ix ix_tup (pv 1) pe_int (fun _ _ => rfl)) pe_str (nomark _)) (pss_one (ps_ret (pe_lst (pa_cons (pe_ix ix_tup (pv 1) pe_int (fun _ _ => rfl)) pa_nil)))) pss_nil)
      (pss_cons (ps_if (pt_cmpR op_eq (pe_ix ix_tup (pv 1) pe_int (fun _ _ => rfl)) pe_str (nomark _)) (pss_one (ps_ret (pe_ix ix_list (pv 0) (pe_ix ix_tup (pv 1) pe_int (fun _ _ => rfl)) (fun _ _ => rfl)))) pss_nil)
      (pss_cons (ps_if (pt_cmpR op_eq (pe_ix ix_tup (pv 1) pe_int (fun _ _ => rfl)) pe_str (nomark _)) (pss_one (ps_ret (pe_revL (pe_fn ih hr (by rfl) (pa_cons (pv 0) (pa_cons (pe_ix ix_tup (pv 1) pe_int (fun _ _ => rfl)) pa_nil)))))) pss_nil)
      (pss_cons (ps_set (i := 2) scMo.nd rfl (.inl rfl) (pe_lst pa_nil))
      (pss_cons (ps_if (pt_cmpR op_eq (pe_ix ix_tup (pv 1) pe_int (fun _ _ => rfl)) pe_str (nomark _)) (pss_cons (ps_set (i := 3) scMo.nd rfl (.inl rfl) (pe_fn ih hr (by rfl) (pa_cons (pv 0) (pa_cons (pe_ix ix_tup (pv 1) pe_int (fun _ _ => rfl)) pa_nil))))
        (pss_one (ps_ret (pe_ifExp (pt_cmpR (op_neN hu) (pv 3) (pe_lst pa_nil) (nomark _)) (pe_op op_rep (pv 3) (pe_ix ix_tup (pv 1) pe_int (fun _ _ => rfl))) (pe_lst pa_nil))))) pss_nil)
      (pss_cons (ps_for PassesOwn.never rfl (pi_tup (pe_ix ix_tup (pv 1) pe_int (fun _ _ => rfl))) (pg_name (i := 4) scMo.nd rfl (.inl rfl))
        (pss_one (ps_set (i := 2) scMo.nd rfl (.inl rfl) (pe_op op_cat (pv 2) (pe_fn ih hr (by rfl) (pa_cons (pv 0) (pa_cons (pv 4) pa_nil)))))))
      (pss_one (ps_ret (pv 2)))))))), ?_⟩
      have rec_ : ∀ (te : TE) (σ : L2.St) (t : Tm) (x : V) (G : Hp) (Q' : VK), σ[0]? = some (some (.ref L)) → (∀ Q2 : VK, Q2 x G → te σ G Q2) → Same H G → Dq G x (tmD t) → dep t ≤ n → okTm (fun _ => True) 400 ws.length t → fewM ws t → (∀ H' r xs, Same G H' → H' r = some (.lst xs) → DqA H' xs ((worth movM ws t).map deedD) → (G r = none ∨ ∃ i : Nat, rs[i]? = some (.ref r)) → Q' (.ref r) H') → tCall (spMoves n) [] E0 (tCons (tVar 0) (tCons te tNil)) σ G Q' := fun te σ t x G Q' e0 e1 s q1 d1 o1 k1 h =>
        ⟨_, e0, e1 _ ⟨L, x, t, rs, ws, rfl, s _ _ hL, hrl, fun i a ha => by
          obtain ⟨b, xs, e1, e2, e3⟩ := hrs i a ha
          exact ⟨b, xs, e1, s _ _ e2, e3.up s⟩, q1, d1, o1, k1, h⟩⟩
      cases t with
      | doo d =>
        obtain ⟨a, x, rfl, ha, qd⟩ := tm_doo hv
        refine sq_wyes rfl ha (one_ret ?_)
        refine rix rfl ha rfl (j := 1) rfl ⟨by show 1 ≤ sizeLine; decide, fun r nr => ?_⟩
        have s1 := same_new (o := .lst [x]) nr
        exact q _ r [x] s1 upd_same (.cons (qd.up s1) .nil) (.inl nr)
      | part j =>
        simp only [okTm] at hok
        obtain ⟨a, rfl, ha⟩ := tm_prt hv
        obtain ⟨b, xs, e1, e2, e3⟩ := hrs j ws[j] (List.getElem?_eq_getElem hok)
        refine sq_wno rfl ha (by decide) (sq_wyes rfl ha (one_ret ?_))
        refine ⟨.ref L, rfl, rix rfl ha rfl (j := 1) rfl ⟨L, rs, j, _, rfl, rfl, SqL.of hL, atI_nat e1, q H b xs (Same.refl _) e2 ?_ (.inr ⟨j, e1⟩)⟩⟩
        simp only [worth]
        rw [List.getD_eq_getElem?_getD, List.getElem?_eq_getElem hok]
        exact e3
      | back t =>
        simp only [okTm] at hok
        simp only [fewM] at htk
        simp only [dep] at hdp
        obtain ⟨a, x, rfl, ha, q2⟩ := tm_bk hv
        refine sq_wno rfl ha (by decide) (sq_wno rfl ha (by decide) (sq_wyes rfl ha (one_ret ?_)))
        refine rec_ _ _ t x H _ rfl (fun Q2 k => rix rfl ha rfl (j := 1) rfl k) (Same.refl _) q2 (by omega) hok htk fun G r xs s1 h1 h2 _ => ⟨r, xs, rfl, SqL.of h1, fun p np => ?_⟩
        have s2 := same_new (o := .lst xs.reverse) np
        refine q _ p _ (s1.trans s2) upd_same ?_ (.inl (s1.free np))
        simp only [worth]
        show DqA _ _ ((List.reverse _).map deedD)
        rw [List.map_reverse]
        exact (h2.up s2).rev
      | times t k =>
        simp only [okTm] at hok
        simp only [fewM] at htk
        simp only [dep] at hdp
        obtain ⟨a, x, rfl, ha, q2⟩ := tm_tms hv
        refine sq_wno rfl ha (by decide) (sq_wno rfl ha (by decide) (sq_wno rfl ha (by decide) ?_))
        refine sq_asg ⟨by show 0 ≤ sizeLine; decide, fun fo nfo => ?_⟩
        have s0 := same_new (o := .lst []) nfo
        have ha0 := s0 _ _ ha
        have q20 := q2.up s0
        generalize upd H fo (.lst []) = H0 at s0 ha0 q20
        refine sq_wyes rfl ha0 ?_
        refine sq_asg ?_
        refine rec_ _ _ t x H0 _ rfl (fun Q2 k => rix rfl ha0 rfl (j := 1) rfl k) s0 q20 (by omega) hok.2 htk.2 fun G r xs s1 h1 h2 _ => ?_
        have hbig := htk.1
        simp only [worth] at hbig
        replace hbig : ((List.replicate k (worth movM ws t)).flatten).length ≤ 1200000 := hbig
        rw [rep_flat_len] at hbig
        have hxl := h2.len
        rw [List.length_map] at hxl
        have s01 := s0.trans s1
        refine one_ret ?_
        refine ⟨.ref r, rfl, by show 0 ≤ sizeLine; decide, fun c nc => ?_⟩
        have sc := same_new (o := .lst []) nc
        refine ⟨r, c, xs, rfl, rfl, sc _ _ h1, upd_same, _, rfl, ?_⟩
        cases hx : xs with
        | nil =>
          subst hx
          refine iteF ⟨by show 0 ≤ sizeLine; decide, fun z nz => ?_⟩
          have sz2 := same_new (o := .lst []) nz
          refine q _ z [] (s01.trans (sc.trans sz2)) upd_same ?_ (.inl (s01.free (sc.free nz)))
          have e : worth movM ws t = [] := List.eq_nil_of_length_eq_zero hxl.symm
          simp only [worth, e]
          show DqA _ [] ((List.flatten _).map deedD)
          have : ∀ m : Nat, (List.replicate m ([] : List Mv)).flatten = [] := by
            intro m
            induction m with
            | zero => rfl
            | succ m ih => rw [List.replicate_succ, List.flatten_cons, ih]; rfl
          rw [this]
          exact .nil
        | cons x0 xr =>
          have hx1 : 1 ≤ xs.length := by rw [hx]; simp
          rw [← hxl] at hbig
          have hk1 : k ≤ xs.length * k := Nat.le_mul_of_pos_left _ hx1
          refine iteT ⟨.ref r, rfl, rix rfl (sc _ _ (s1 _ _ ha0)) rfl (j := 2) rfl ⟨r, (k : Int), xs, rfl, rfl, sc _ _ h1, by omega, by omega, szx (by rw [Int.toNat_natCast]; omega), fun p np => ?_⟩⟩
          have sp := same_new (o := .lst (List.replicate (k : Int).toNat xs).flatten) np
          refine q _ p _ (s01.trans (sc.trans sp)) upd_same ?_ (.inl (s01.free (sc.free np)))
          simp only [worth]
          rw [Int.toNat_natCast]
          have rp : ∀ m : Nat, DqA (upd (upd G c (.lst [])) p (.lst (List.replicate (k : Int).toNat xs).flatten)) (List.replicate m xs).flatten (((List.replicate m (worth movM ws t)).flatten).map deedD) := by
            intro m
            induction m with
            | zero => exact .nil
            | succ m ih =>
              rw [List.replicate_succ, List.replicate_succ, List.flatten_cons, List.flatten_cons, List.map_append]
              exact (h2.up (sc.trans sp)).app ih
          rw [Int.toNat_natCast] at rp
          exact rp k
      | row ts =>
        simp only [okTm] at hok
        simp only [fewM] at htk
        have hall := htk.1
        simp only [dep] at hdp
        obtain ⟨a, b, ys, rfl, ha, hb, qy, hyl⟩ := tm_rw hv
        refine sq_wno rfl ha (by decide) (sq_wno rfl ha (by decide) (sq_wno rfl ha (by decide) ?_))
        refine sq_asg ⟨by show 0 ≤ sizeLine; decide, fun fo nfo => ?_⟩
        have s0 := same_new (o := .lst []) nfo
        have h0 : upd H fo (.lst []) fo = some (.lst []) := upd_same
        refine sq_wno rfl (s0 _ _ ha) (by decide) ?_
        generalize upd H fo (.lst []) = H0 at s0 h0
        dsimp only [tNext]
        have hsum : ∀ i, ((ts.take i).map (worth movM ws)).flatten.length ≤ 1200000 := fun i => by
          refine Nat.le_trans ?_ hall
          simp only [worth]
          rw [worthL_map]
          show _ ≤ ((ts.map (worth movM ws)).flatten).length
          rw [← List.take_append_drop i ts, List.map_append, List.flatten_append, List.length_append, List.take_append_drop]
          exact Nat.le_add_right _ _
        refine rix rfl (s0 _ _ ha) rfl (j := 1) rfl ⟨b, rfl, ⟨ys, SqT.of (s0 _ _ hb)⟩, for_it (walk_tup (K := K) (a := b) (xs := ys)) (fun i σ G => ∃ (fo : Addr) (v4 : Option V) (xs : List V), σ = [some (.ref L), some (.ref a), some (.ref fo), none, v4] ∧ Same H G ∧ H fo = none ∧ G fo = some (.lst xs) ∧ DqA G xs ((((ts.take i).map (worth movM ws)).flatten).map deedD)) ⟨fo, none, [], rfl, s0, nfo, h0, .nil⟩ (fun _ _ _ _ ⟨_, _, _, _, sm, _⟩ => SqT.of (sm _ _ hb)) ?_ ?_⟩
        · rintro i x σ _ G hi ⟨fo, v4, xs, rfl, sm, nf, hf, qf⟩ ⟨rfl, hx⟩
          obtain ⟨d0, hd0, qd⟩ := qy.get hx
          rw [List.getElem?_map] at hd0
          obtain ⟨t, ht, rfl⟩ := Option.map_eq_some_iff.mp hd0
          have htm := List.mem_of_getElem? ht
          have htd : dep t ≤ n := by have := depL_le htm; omega
          have ho1 := okTms_mem hok.2 t htm
          have hk1 := fewMs_mem htk.2 t htm
          refine ⟨.ref fo, rfl, rec_ _ _ t x G _ rfl (fun Q2 k => ⟨x, rfl, k⟩) sm (qd.up sm) htd ho1 hk1 fun G1 r us s1 h1 h2 _ => ?_⟩
          have hul := h2.len
          rw [List.length_map] at hul
          have hxl := qf.len
          rw [List.length_map] at hxl
          have b2 := hsum (i + 1)
          have e2 : ((ts.take (i + 1)).map (worth movM ws)).flatten.length = ((ts.take i).map (worth movM ws)).flatten.length + (worth movM ws t).length := by
            rw [List.take_add_one, ht]
            show (((ts.take i ++ [t]).map (worth movM ws)).flatten).length = _
            rw [List.map_append, List.flatten_append, List.length_append]
            simp
          rw [e2] at b2
          refine ⟨fo, r, xs, us, rfl, rfl, s1 _ _ hf, h1, szx (by omega), fun p np => ?_⟩
          have s2 := same_new (o := .lst (xs ++ us)) np
          refine ⟨p, _, xs ++ us, rfl, sm.trans (s1.trans s2), sm.free (s1.free np), upd_same, ?_⟩
          rw [List.take_add_one, ht]
          show DqA _ _ (((((ts.take i) ++ [t]).map (worth movM ws)).flatten).map deedD)
          rw [List.map_append, List.flatten_append, List.map_append]
          refine DqA.app (qf.up (s1.trans s2)) ?_
          simpa using h2.up s2
        · rintro σ G ⟨fo, v4, xs, rfl, sm, nf, hf, qf⟩
          rw [hyl, List.take_length] at qf
          refine ⟨.ref fo, rfl, q G fo xs sm hf ?_ (.inl nf)⟩
          simp only [worth]
          rw [worthL_map]
          exact qf
end
end Kr
namespace Kr
open PySem PySem.Spec PyProof.Rows L2
section
variable {P : Program} {w : World} {K : PySem.W.Frag} {mg : Str → Option Value} {base : Heap}
def spAllMoves : Sp := fun vs H Q _ => ∃ (v : V) (p : List Tm), vs = [v] ∧ Dq H v (.tuple (p.map tmD)) ∧ PrOk (fun _ => True) 400 5 p ∧ (∀ (i : Nat) t, p[i]? = some t → fewM (wsAll movM (p.take i) []) t) ∧ ∀ H' r xs, Same H H' → H r = none → H' r = some (.lst xs) → DqA H' xs ((progW movM p).map deedD) → Q (.ref r) H'
abbrev n_lAllMoves : List Str := ["program", "parts", "term"]
theorem sc_lAllMoves : FnScope n_lAllMoves ["program"] (defScope sLAllMoves) := ⟨rfl, rfl, rfl, by decide +kernel, rfl, by decide +kernel, by decide +kernel⟩
theorem o_lAllMoves (D0 : Df K mg "_law_all_moves" sLAllMoves ["program"]) (B : Bi mg) (mo : Ok P w K mg base 5 "_law_moves" ["parts", "term"] (spMoves 5)) : Ok P w K mg base 6 "_law_all_moves" ["program"] spAllMoves := by
  refine D0.ok fun f fd F => F.ok sc_lAllMoves (fun vs H Q E h => ?_) (fun cdv A outer s H vs Q E hr h => ?_)
  · obtain ⟨_, _, rfl, _⟩ := h
    rfl
  · obtain ⟨v, p, rfl, hv, hp, hfw, q⟩ := h
    have hr_mo := hr.mono (show 5 ≤ 5 by omega)
    have hu : (cxOf CX0 P w K mg base n_lAllMoves "_law_all_moves" (defScope sLAllMoves) f cdv A outer s H E).A.units + 64 < cLine := hr.units
    have hu1 := hu_of hr
    refine ⟨_, pss_cons (ps_set (i := 1) sc_lAllMoves.nd rfl (.inl rfl) (pe_lst pa_nil))
      (pss_cons (ps_for PassesOwn.never rfl (pi_tup (pv 0)) (pg_name (i := 2) sc_lAllMoves.nd rfl (.inl rfl))
        (pss_one (ps_expr (pe_bm PySem.F.plainAttrs_list PySem.F.slot_list_append PySem.F.type_list_append mt_append (pv 1) (pa_cons (pe_fn mo hr_mo (by rfl) (pa_cons (pv 1) (pa_cons (pv 2) pa_nil))) pa_nil)))))
      (pss_one (ps_ret (pe_ix ix_list (pv 1) (pe_un un_neg pe_int) (fun _ _ => rfl))))), ?_⟩
    obtain ⟨pa, ys, rfl, hpa, qy⟩ := hv.tup_inv
    have hyl : ys.length = p.length := by rw [qy.len, List.length_map]
    have hpl := hp.len
    refine sq_asg ⟨by show 0 ≤ sizeLine; decide, fun R nR => ?_⟩
    have s0 := same_new (o := .lst []) nR
    have hR0 : upd H R (.lst []) R = some (.lst []) := upd_same
    generalize upd H R (.lst []) = H0 at s0 hR0
    refine ⟨.ref pa, rfl, pa, rfl, ⟨ys, SqT.of (s0 _ _ hpa)⟩, for_it (walk_tup (K := K) (a := pa) (xs := ys)) (fun i σ G => ∃ (v2 : Option V) (rs : List V), σ = [some (.ref pa), some (.ref R), v2] ∧ Same H G ∧ G R = some (.lst rs) ∧ rs.length = i ∧ (∀ b, V.ref b ∈ rs → H b = none ∧ b ≠ R) ∧ ∀ (k : Nat) a, (wsAll movM (p.take i) [])[k]? = some a → ∃ b xs, rs[k]? = some (.ref b) ∧ G b = some (.lst xs) ∧ DqA G xs (a.map deedD)) ⟨none, [], rfl, s0, hR0, rfl, fun _ h => (nomatch h), fun k a h => by simp [wsAll] at h⟩ (fun _ _ _ _ ⟨_, _, _, sm, _⟩ => SqT.of (sm _ _ hpa)) ?_ ?_⟩
    · rintro i x σ _ G hi ⟨v2, rs, rfl, sm, hR, hrl, hnew, hrs⟩ ⟨rfl, hx⟩
      obtain ⟨d0, hd0, qd⟩ := qy.get hx
      rw [List.getElem?_map] at hd0
      obtain ⟨t, ht, rfl⟩ := Option.map_eq_some_iff.mp hd0
      obtain ⟨o1, o2⟩ := hp.tm i t ht
      have hwl : (wsAll movM (p.take i) []).length = i := by
        rw [wsAll_len, List.length_take]
        show 0 + _ = _
        omega
      refine one_drop ?_
      refine ⟨.ref R, rfl, .inl ⟨rfl, rs, SqL.of hR⟩, .ref R, rfl, x, rfl, R, x, t, rs, _, rfl, hR, by rw [hrl, hwl], hrs, qd.up sm, o2, by rw [hwl]; exact o1, hfw i t ht, fun G1 r xs s1 h1 h2 hn => ?_⟩
      have hrn : H r = none ∧ r ≠ R := by
        rcases hn with c | ⟨k, c⟩
        · exact ⟨sm.free c, Ne.symm (ne_of_none hR c)⟩
        · exact hnew r (List.mem_of_getElem? c)
      have hR1 := s1 _ _ hR
      have tR : TS G1 (upd G1 R (.lst (rs ++ [.ref r]))) := TS.lst hR1
      refine ⟨R, rs, .ref r, rfl, rfl, hR1, szl (by omega), some x, rs ++ [.ref r], rfl, fun c o hc => ?_, upd_same, by rw [List.length_append, hrl]; rfl, fun b hb => ?_, fun k a ha => ?_⟩
      · rw [upd_ne (ne_of_none hc nR)]
        exact s1 _ _ (sm _ _ hc)
      · rcases List.mem_append.mp hb with c | c
        · exact hnew b c
        · cases List.mem_singleton.mp c
          exact hrn
      · rw [wsAll_take _ ht] at ha
        rcases Nat.lt_trichotomy k rs.length with c | c | c
        · rw [List.getElem?_append_left (by rw [hwl]; omega)] at ha
          obtain ⟨b, us, e1, e2, e3⟩ := hrs k a ha
          have nb := hnew b (List.mem_of_getElem? e1)
          exact ⟨b, us, by rw [List.getElem?_append_left c]; exact e1, by rw [upd_ne nb.2]; exact s1 _ _ e2, DqA.upT tR (deeds_flat' a) (e3.up s1)⟩
        · subst c
          rw [List.getElem?_append_right (by rw [hwl]; omega), hwl, hrl, Nat.sub_self] at ha
          cases Option.some.inj ha
          exact ⟨r, xs, by rw [List.getElem?_append_right (Nat.le_refl _), Nat.sub_self]; rfl, by rw [upd_ne hrn.2]; exact h1, DqA.upT tR (deeds_flat' _) h2⟩
        · rw [List.getElem?_eq_none (by rw [List.length_append]; show _ + 1 ≤ _; omega)] at ha
          cases ha
    · rintro σ G ⟨v2, rs, rfl, sm, hR, hrl, hnew, hrs⟩
      rw [hyl, List.take_length] at hrs
      rw [hyl] at hrl
      have hne := hp.ne
      have hkl : (wsAll movM p []).length = p.length := by rw [wsAll_len]; show 0 + _ = _; omega
      have hlast : (wsAll movM p [])[p.length - 1]? = some (progW movM p) := by
        unfold progW
        rw [List.getLastD_eq_getLast?, List.getLast?_eq_getElem?, hkl]
        rw [List.getElem?_eq_getElem (by omega)]
        rfl
      obtain ⟨b, xs, e1, e2, e3⟩ := hrs _ _ hlast
      have eu : rs = rs.take (p.length - 1) ++ [.ref b] := by
        have hul2 : p.length - 1 < rs.length := by omega
        have h1 := List.take_append_drop (p.length - 1) rs
        rw [List.drop_eq_getElem_cons hul2, List.drop_eq_nil_of_le (by omega)] at h1
        rw [List.getElem?_eq_getElem hul2] at e1
        rw [Option.some.inj e1] at h1
        exact h1.symm
      rw [eu] at hR
      dsimp only [tNext]
      refine one_ret ?_
      exact ⟨.ref R, rfl, _, rfl, R, _, -1, .ref b, rfl, rfl, SqL.of hR, atI_last _ _, q G b xs sm (hnew b (List.mem_of_getElem? e1)).1 e2 e3⟩
end
end Kr
namespace Kr
open PySem PySem.Spec PyProof.Rows L2
section
variable {P : Program} {w : World} {K : PySem.W.Frag} {mg : Str → Option Value} {base : Heap}
abbrev nEv : List Str := ["n", "found", "some", "size", "longer", "own", "x"]
theorem o_every (D0 : Df K mg "_law_every" sEvery ["n"]) (B : Bi mg) : Ok P w K mg base 1 "_law_every" ["n"] spEvery := by
  have scEv : FnScope nEv ["n"] (defScope sEvery) := ⟨rfl, rfl, rfl, by decide +kernel, rfl, by decide +kernel, by decide +kernel⟩
  refine D0.ok fun f fd F => F.ok scEv (fun vs H Q E h => ?_) (fun cdv A outer s H vs Q E hr h => ?_)
  · obtain ⟨n, rfl, _⟩ := h
    rfl
  · obtain ⟨n, rfl, hn, q⟩ := h
    have hu : (cxOf CX0 P w K mg base nEv "_law_every" (defScope sEvery) f cdv A outer s H E).A.units + 64 < cLine := hr.units
    refine ⟨_, pss_cons (ps_par (i := 1) (j := 2) rfl scEv.nd rfl rfl (by decide) rfl rfl (pa_cons (pe_lst (pa_cons (pe_tup pa_nil) pa_nil)) (pa_cons (pe_lst (pa_cons (pe_tup pa_nil) pa_nil)) pa_nil)) (by rfl))
      (pss_cons (ps_for PassesOwn.never rfl (pi_range1 (by rfl) B.range (pa_cons (pv 0) pa_nil)) (pg_name (i := 3) scEv.nd rfl (.inl rfl))
        (pss_cons (ps_set (i := 4) scEv.nd rfl (.inl rfl) (pe_lst pa_nil))
        (pss_cons (ps_for PassesOwn.never rfl (pi_list (pv 2)) (pg_name (i := 5) scEv.nd rfl (.inr rfl))
          (pss_one (ps_set (i := 4) scEv.nd rfl (.inl rfl) (pe_op op_cat (pv 4)
            (pe_lc (own := [("x", 6)]) (g := gName 6) (tt := tYes) rfl scEv.nd (pi_range2 (by rfl) B.range (pa_cons (pe_ifExp (pt_cmpR (op_neD hu) (pv 5) (pe_tup pa_nil) (nomark _)) (pe_op op_add (pe_ix (r := rIxT K) ix_tup (pv 5) (pe_un un_neg pe_int) (fun _ _ => rfl)) pe_int) pe_int) (pa_cons (pv 0) pa_nil))) (blkOk_by (own := [("x", 6)]) (N := nEv) (sc := defScope sEvery) (by decide +kernel))
              (fun _ _ _ _ _ => pg_name (i := 6) scEv.nd rfl (.inl rfl)) (fun _ _ _ _ _ => pts_nil)
              (fun _ _ _ _ _ => pe_op (r := rCatA K) op_catA (pv 5) (pe_tup (pa_cons (pv 6) pa_nil))))))))
        (pss_one (ps_par (i := 1) (j := 2) rfl scEv.nd rfl rfl (by decide) rfl rfl (pa_cons (pe_op op_cat (pv 1) (pv 4)) (pa_cons (pv 4) pa_nil)) (by rfl))))))
      (pss_one (ps_ret (pv 1)))), ?_⟩
    refine ⟨by show 0 ≤ sizeLine; decide, fun t0 nt0 => ⟨by show 1 ≤ sizeLine; decide, fun l0 nl0 => ⟨by show 0 ≤ sizeLine; decide, fun t1 nt1 => ⟨by show 1 ≤ sizeLine; decide, fun l1 nl1 => ⟨_, _, rfl, ?_⟩⟩⟩⟩⟩
    have s1 := same_new (o := .tup []) nt0
    have s2 := same_new (o := .lst [.ref t0]) nl0
    have s3 := same_new (o := .tup []) nt1
    have s4 := same_new (o := .lst [.ref t1]) nl1
    have h0 : Dq (upd (upd (upd (upd H t0 (.tup [])) l0 (.lst [.ref t0])) t1 (.tup [])) l1 (.lst [.ref t1])) (.ref l0) (.list (([[]] : List (List Nat)).map lotD)) := Dq.up s4 (Dq.up s3 (.lst upd_same (.cons (lot_at (l := []) (s2 _ _ upd_same)) .nil)))
    have h1 : Dq (upd (upd (upd (upd H t0 (.tup [])) l0 (.lst [.ref t0])) t1 (.tup [])) l1 (.lst [.ref t1])) (.ref l1) (.list (([[]] : List (List Nat)).map lotD)) := .lst upd_same (.cons (lot_at (l := []) (s4 _ _ upd_same)) .nil)
    have s14 := s1.trans (s2.trans (s3.trans s4))
    generalize upd (upd (upd (upd H t0 (.tup [])) l0 (.lst [.ref t0])) t1 (.tup [])) l1 (.lst [.ref t1]) = Ha at s14 h0 h1
    clear s1 s2 s3 s4 nt0 nl0 nt1 nl1
    refine ⟨.int n, rfl, (n : Int), rfl, by omega, by omega, for_it (walk_rg (n := n)) (fun i σ G => ∃ (fo so : V) (v3 v4 v5 : Option V), σ = [some (.int n), some fo, some so, v3, v4, v5, none] ∧ Same H G ∧ Dq G fo (.list (((List.range (i + 1)).flatMap (lotsL n)).map lotD)) ∧ Dq G so (.list ((lotsL n i).map lotD)))
      ⟨_, _, none, none, none, rfl, s14, h0, h1⟩ (fun _ _ _ _ _ => trivial) ?_ ?_⟩
    · rintro i x σ G0 G1 hi ⟨fo, so, v3, v4, v5, rfl, sm, hfo, hso⟩ ⟨rfl, rfl⟩
      refine ⟨by show 0 ≤ sizeLine; decide, fun f0 nf0 => ?_⟩
      have s5 := same_new (o := .lst []) nf0
      have hso1 := hso.up s5
      have hfo1 := hfo.up s5
      have hf1 : upd G1 f0 (.lst []) f0 = some (.lst []) := upd_same
      have sm1 := sm.trans s5
      generalize upd G1 f0 (.lst []) = G3 at hso1 hfo1 hf1 sm1
      have hful : ((lotsL n i).flatMap (exts n)).length < 1000 := by
        have h2 := lots_len n (by omega) (i + 1) (by omega)
        have h3 := ch_small n (by omega) (i + 1) (by omega)
        show (lotsL n (i + 1)).length < 1000
        omega
      cases hso1 with
      | @lst L us _ hL qus =>
      have hul : us.length = (lotsL n i).length := by rw [qus.len, List.length_map]
      refine ⟨.ref L, rfl, L, rfl, ⟨us, SqL.of hL⟩, for_list (K := K) (xs := us) (fun j σ G => ∃ (lo : V) (v5 : Option V), σ = [some (.int n), some fo, some (.ref L), some (.int i), some lo, v5, none] ∧ Same G3 G ∧ Dq G lo (.list ((((lotsL n i).take j).flatMap (exts n)).map lotD)))
        ⟨_, _, rfl, Same.refl _, .lst hf1 .nil⟩ (fun j σ G _ ⟨_, _, _, s2, _⟩ => SqL.of (s2 _ _ hL)) ?_ ?_⟩
      · rintro j x σ G hx ⟨lo, v5, rfl, s2, hlo⟩
        obtain ⟨l, hl, a, rfl, ha0⟩ := lots_get qus hx
        have ha := s2 _ _ ha0
        obtain ⟨hll, hlm⟩ := lots_in n i l (List.mem_of_getElem? hl)
        have hpre := flat_le (lotsL n i) (exts n) (j + 1)
        rw [flat_take hl, List.length_append] at hpre
        have hel : (exts n l).length = n - nx l := by unfold exts; rw [List.length_map, List.length_range']
        have hnx : nx l ≤ n := by
          by_cases hl0 : l = []
          · subst hl0
            rw [nx_nil]
            omega
          · have e : l = l.dropLast ++ [l.getLast hl0] := (List.dropLast_concat_getLast hl0).symm
            have := hlm _ (List.getLast_mem hl0)
            rw [e, nx_snoc]
            omega
        refine ⟨lo, rfl, ?_⟩
        refine next_ne (l := l) rfl ha fun G2 s3 => ?_
        refine ⟨.int n, rfl, _, _, rfl, ⟨by omega, by omega, by omega, by omega⟩, fun D nD => ?_⟩
        have hnn : ((n : Int) - (nx l : Nat)).toNat = n - nx l := by omega
        rw [hnn]
        refine lc_it (walk_range (lo := (nx l : Nat)) (n := n - nx l)) (fun k G4 => ∃ acc, G4 D = some (.lst acc) ∧ Same G2 G4 ∧ DqA G4 acc (((List.range' (nx l) k).map fun x => l ++ [x]).map lotD)) ⟨[], upd_same, same_new nD, .nil⟩ (fun _ _ _ _ => trivial) ?_ ?_
        · rintro k x G4 G4' hk ⟨acc, hD, s4, qa⟩ ⟨rfl, rfl⟩
          refine ⟨rfl, ?_⟩
          dsimp only [tYes]
          rw [if_pos rfl]
          have ha4 := s4 _ _ (s3 _ _ ha)
          refine ⟨.ref a, rfl, .int _, rfl, by show 1 ≤ sizeLine; decide, fun u nu => ?_⟩
          have su := same_new (o := .tup [.int ((nx l : Nat) + (k : Int))]) nu
          refine catA_k (su _ _ ha4) upd_same (by rw [lv_len, hll]; show _ + 1 ≤ _; omega) fun y H5 s5 hy => ?_
          have hD5 := s5 _ _ (su _ _ hD)
          have hl2 : acc.length = k := by rw [qa.len, List.length_map, List.length_map, List.length_range']
          refine ⟨acc, hD5, szm (by omega), acc ++ [.ref y], upd_same, fun b o hb => ?_, ?_⟩
          · rw [upd_ne (ne_of_none hb nD)]
            exact s5 _ _ (su _ _ (s4 _ _ hb))
          · have ts : TS H5 (upd H5 D (.lst (acc ++ [.ref y]))) := TS.lst hD5
            rw [range1_succ, List.map_append (f := fun x => l ++ [x]), List.map_append (f := lotD)]
            refine dqa_snoc (DqA.upT ts (lots_flat _) ((qa.up su).up s5)) (Dq.upT ts (lot_flat _) ?_)
            refine lot_at ?_
            rw [hy, lv_snoc]
            simp
        · rintro G4 ⟨acc, hD, s4, qa⟩
          have hf4 := (hlo.up s3).up s4
          cases hf4 with
          | @lst fa fs _ hfa qfs =>
          refine ⟨fa, D, fs, acc, rfl, rfl, hfa, hD, ?_, fun p np => ?_⟩
          · have e1 : fs.length = (((lotsL n i).take j).flatMap (exts n)).length := by rw [qfs.len, List.length_map]
            have e2 : acc.length = (exts n l).length := by rw [qa.len, List.length_map]; rfl
            exact sz (by rw [e1, e2]; omega)
          · have sp := same_new (o := .lst (fs ++ acc)) np
            refine ⟨.ref p, _, rfl, s2.trans (s3.trans (s4.trans sp)), ?_⟩
            rw [flat_take hl, List.map_append (f := lotD)]
            exact .lst upd_same ((qfs.up sp).app (qa.up sp))
      · rintro σ G ⟨lo, v5, rfl, s2, hlo⟩
        rw [hul, List.take_length] at hlo
        have hlo : Dq G lo (.list ((lotsL n (i + 1)).map lotD)) := hlo
        have hfo2 := hfo1.up s2
        cases hfo2 with
        | @lst fa fs _ hfa qfs =>
        cases hlo with
        | @lst la ls _ hla qls =>
        have hb := every_few n (by omega) (i + 2) (by omega)
        have er : (List.range (i + 2)).flatMap (lotsL n) = (List.range (i + 1)).flatMap (lotsL n) ++ lotsL n (i + 1) := by
          rw [List.range_succ, List.flatMap_append]
          simp
        rw [er, List.length_append] at hb
        refine ⟨.ref fa, rfl, .ref la, rfl, fa, la, fs, ls, rfl, rfl, hfa, hla, ?_, fun p np => ?_⟩
        · rw [qfs.len, qls.len, List.length_map, List.length_map]
          exact sz (by omega)
        · have sp := same_new (o := .lst (fs ++ ls)) np
          refine ⟨.ref la, rfl, _, _, rfl, .ref p, .ref la, _, _, _, rfl, sm1.trans (s2.trans sp), ?_, .lst (sp _ _ hla) (qls.up sp)⟩
          rw [er, List.map_append (f := lotD)]
          exact .lst upd_same ((qfs.up sp).app (qls.up sp))
    · rintro σ G ⟨fo, so, v3, v4, v5, rfl, sm, hfo, hso⟩
      exact ⟨fo, rfl, q _ _ sm hfo⟩
end
end Kr
namespace Kr
open PySem PySem.Spec PyProof.Rows L2 PySem.SeqAt PySem.MeetsSeq
/-! ### x == i, x any data, i a number -/
theorem dict_eq_declines_int (l : Addr) (es : Array DictEntry) (ep : Nat) (dd : Option Addr) (sl : Array (Option Value)) (b : Int) (u : Tok) :
    Meets (Builtin.«dict.__eq__» ⟨[.ref l, .int b u], []⟩) (fun _ R s => s.heap.get? l = some { cls := .type "dict", dict := dd, data := .dict es ep, slots := sl } ∧ R (.ok (.ret .notImplemented)) s) :=
  .of_wp fun prog w A R s h => by obtain ⟨hp, g, d, tk, os⟩ := s; obtain ⟨hl, h⟩ := h; have f1 := F.sub_int_dict; wp_walk using wpAny_loadPart' hl; exact ⟨_, rfl, h⟩
theorem int_eq_declines_dict (b : Int) (u : Tok) (l : Addr) (c : Value) (es : Array DictEntry) (ep : Nat) (dd : Option Addr) (sl : Array (Option Value)) :
    Meets (Builtin.«int.__eq__» ⟨[.int b u, .ref l], []⟩) (fun _ R s => s.heap.get? l = some { cls := c, dict := dd, data := .dict es ep, slots := sl } ∧ R (.ok (.ret .notImplemented)) s) :=
  .of_wp fun prog w A R s h => by obtain ⟨hp, g, d, tk, os⟩ := s; obtain ⟨hl, h⟩ := h; wp_walk using wpAny_loadPart' hl, wpAny_load hl; exact ⟨_, rfl, h⟩
theorem rc_dict_int {A : Around} {s : Shared} {l : Addr} {es : Array DictEntry} {ep : Nat} {dd : Option Addr} {sl : Array (Option Value)} (b : Int) (u : Tok) (ho : s.heap.get? l = some { cls := .type "dict", dict := dd, data := .dict es ep, slots := sl }) (hu : A.units < cLine) : RcAt A s (.ref l) (.int b u) false := fun prog w E Q h => by
  exact rc_eq_decline_or (k := false) ⟨_, ho, rfl⟩ (typeIs_int s b u) (by decide) F.sub_int_dict F.slot_dict_eq F.slot_int_eq_refl
    (fun _ hq => call_meets F.slot_dict_eq ⟨_, ho, rfl⟩ F.entry_dict_eq (F.args_dict_eq_2 _ _) (dict_eq_declines_int l es ep dd sl b u) ⟨ho, hq⟩)
    (fun _ hq => call_meets F.slot_int_eq_refl (typeIs_int s b u) F.entry_int_eq (F.args_int_eq_2 _ _) (int_eq_declines_dict b u l (.type "dict") es ep dd sl) ⟨ho, hq⟩)
    (fun _ hq => wpAny_of_eq (rfl : isSame (.ref l) (.int b u) = pure false) hq) (.inr hu) h
def rEq1 : R2 := fun x y H Q => ∃ (d : PyData) (i : Int), Dq H x d ∧ y = .int i ∧ Q (.bl (PyData.eqv d (.int i))) H
theorem op_eq1 {X : Cx} (hu : X.A.units + 64 < cLine) : OpR X (compareOp .Eq) rEq1 := by
  intro pins s σ H x y v u Q I rx ry h
  obtain ⟨d, i, hd, rfl, q⟩ := h
  obtain ⟨t, rfl⟩ := ry
  have hu : X.A.units < cLine := by omega
  cases hd with
  | non =>
    cases rx
    exact RcAt.none_int i t X.prog X.w X.xe _ ⟨.bl _, H, I, rfl, q⟩
  | bl b =>
    cases rx
    exact RcAt.bool_int b i t X.prog X.w X.xe _ ⟨.bl _, H, I, rfl, q⟩
  | int j =>
    obtain ⟨t', rfl⟩ := rx
    exact RcAt.int_int j t' i t X.prog X.w X.xe _ ⟨.bl _, H, I, rfl, q⟩
  | str z =>
    obtain ⟨t', rfl⟩ := rx
    exact RcAt.str_int z t' i t X.prog X.w X.xe _ ⟨.bl _, H, I, rfl, q⟩
  | lst e _ =>
    cases rx
    obtain ⟨its, _, p1, _⟩ := I.list (SqL.of (K := X.K) e)
    exact RcAt.list_int i t p1.isList hu X.prog X.w X.xe _ ⟨.bl _, H, I, rfl, q⟩
  | tup e _ =>
    cases rx
    obtain ⟨its, _, p1, _⟩ := I.tuple (SqT.of (K := X.K) e)
    exact RcAt.tuple_int i t p1 hu X.prog X.w X.xe _ ⟨.bl _, H, I, rfl, q⟩
  | @dic a e =>
    cases rx
    obtain ⟨_, hsys, vs, rel, ⟨cls, dd, data, sl⟩, es, ep, ho, hx, hd, _⟩ := I.hok a _ e
    obtain rfl : cls = .type "dict" := hx.1
    simp only at hd
    subst hd
    exact rc_dict_int i t ho hu X.prog X.w X.xe _ ⟨.bl _, H, I, rfl, q⟩
/-- a tuple beside () -/
def rEqT0 (K : PySem.W.Frag) : R2 := fun x y H Q => ∃ l b xs, x = .ref l ∧ y = .ref b ∧ SqT K H l xs ∧ SqT K H b [] ∧ Q (.bl xs.isEmpty) H
theorem all0 (n : Nat) (e : Nat → Bool) : ((List.range (min n 0)).all e && n == 0) = decide (n = 0) := by
  rw [Nat.min_zero]
  cases n <;> rfl
theorem isE {xs : List V} {its : List Value} (r : Vals xs its) : decide (its.toArray.size = 0) = xs.isEmpty := by
  cases r with
  | nil => rfl
  | cons _ _ => rfl
theorem op_eqT0 {X : Cx} (hu : X.A.units + 64 < cLine) : OpR X (compareOp .Eq) (rEqT0 X.K) := by
  intro pins s σ H x y v u Q I rx ry h
  obtain ⟨l, b, xs, rfl, rfl, hl, hb, q⟩ := h
  obtain rfl : v = Value.ref l := rx
  obtain rfl : u = Value.ref b := ry
  obtain ⟨its, r1, p1, _⟩ := I.tuple hl
  obtain ⟨it2, r2, p2, _⟩ := I.tuple hb
  cases r2
  refine SeqAt.RcAt.tuples (e := fun _ => true) p1 p2 (by omega) (fun j _ h2 => absurd h2 (by simp)) X.prog X.w X.xe _ ⟨.bl xs.isEmpty, H, I, ?_, q⟩
  show Value.bool _ = Value.bool _
  rw [← isE r1]
  exact congrArg Value.bool (all0 _ _)
end Kr
namespace Kr
open PySem PySem.Spec PyProof.Rows L2
/-- None or a tuple, beside () -/
def rEqT0N (K : PySem.W.Frag) : R2 := fun x y H Q => ∃ b, y = .ref b ∧ SqT K H b [] ∧ ((x = .non ∧ Q (.bl false) H) ∨ ∃ l xs, x = .ref l ∧ SqT K H l xs ∧ Q (.bl xs.isEmpty) H)
theorem op_eqT0N {X : Cx} (hu : X.A.units + 64 < cLine) : OpR X (compareOp .Eq) (rEqT0N X.K) := by
  intro pins s σ H x y v u Q I rx ry h
  obtain ⟨b, rfl, hb, ⟨rfl, q⟩ | ⟨l, xs, rfl, hl, q⟩⟩ := h
  · exact op_eqD hu pins s σ H .non (.ref b) v u Q I rx ry ⟨.none, .tuple [], .non, .tup hb .nil, by decide, by decide, by
      have e : PyData.eqv .none (.tuple []) = false := by simp [PyData.eqv]
      rw [e]
      exact q⟩
  · exact op_eqT0 hu pins s σ H (.ref l) (.ref b) v u Q I rx ry ⟨l, b, xs, rfl, rfl, hl, hb, q⟩
end Kr
namespace Kr
open PySem PySem.Spec PyProof.Rows L2
/-! ### xs.extend(t), t a tuple -/
theorem list_extend_tup (l : Addr) (items : Array Value) (n : Nat) (b : Addr) (items2 : Array Value) (n2 : Nat) (dd : Option Addr) (sl : Array (Option Value)) (hs0 : ¬(!items.isEmpty && Builtin.List.listTooLong (items.size + items2.size)) = true) (hs1 : items.size ≤ sizeLine) (hs2 : items.size + items2.size ≤ sizeLine + 1) :
    Meets (Builtin.«list.extend» ⟨[.ref l, .ref b], []⟩) (fun _ R s => s.heap.get? l = some { cls := .type "list", dict := none, data := .seq items n, slots := #[] } ∧ s.heap.get? b = some { cls := .type "tuple", dict := dd, data := .seq items2 n2, slots := sl } ∧ R (.ok (.ret Value.none)) { s with heap := s.heap.update l (Obj.mapSeq fun x => x ++ items2), toks := s.toks }) :=
  .of_wp fun prog w A R s h => by
    obtain ⟨hp, g, d, tk, os⟩ := s; obtain ⟨hl, hb, h⟩ := h; have f1 := AutoSeq1.idx_int; have f2 := AutoSeq1.sub_tuple_tuple; have f3 := AutoSeq1.sub_list_list; have f4 := AutoSeq1.sub_tuple_list; have f5 := AutoSeq1.sub_list_tuple
    have hz' : (items ++ items2).size ≤ sizeLine + 1 := by rw [Array.size_append]; exact hs2
    wp_walk using (wpAny_updateSeq hl rfl (hz := hs1) (_hz' := hz')), wpAny_loadPart' hl, wpAny_loadPart' hb; exact ⟨_, rfl, h⟩
def rExtendT (K : PySem.W.Frag) : V → List V → Hp → VK → Prop := fun x vs H Q => ∃ l b xs zs, x = .ref l ∧ vs = [.ref b] ∧ H l = some (.lst xs) ∧ SqT K H b zs ∧ xs.length + zs.length ≤ sizeLine ∧ Q .non (upd H l (.lst (xs ++ zs)))
theorem mt_extendT {X : Cx} : MtM X "list.extend" (rExtendT X.K) := by
  intro pins s σ H x vs v us Q I rx rv h
  obtain ⟨l, b, xs, zs, rfl, rfl, hH, hB, hz, q⟩ := h
  cases rx
  obtain ⟨u, rfl, ru⟩ := rv.one
  cases ru
  obtain ⟨z, its, n, r, hl, e⟩ := I.lstM hH
  obtain ⟨its2, r2, ⟨⟨cls, dd, data, sl⟩, e2, hc, n2, hd⟩, hs⟩ := I.tuple hB
  simp only at hc hd
  subst hc hd
  have hl2 : its2.length = zs.length := r2.length.symm
  have hsz : its.toArray.size + its2.toArray.size ≤ sizeLine := by rw [List.size_toArray, List.size_toArray]; omega
  have hlong : ¬ (!its.toArray.isEmpty && Builtin.List.listTooLong (its.toArray.size + its2.toArray.size)) = true := by
    rw [notLongL hsz, Bool.and_false]
    exact Bool.false_ne_true
  refine call_meets F.slot_list_extend ⟨_, e, rfl⟩ F.entry_list_extend (F.args_list_extend_2 _ _)
    (list_extend_tup l its.toArray n b its2.toArray n2 dd sl hlong (by rw [List.size_toArray]; omega) (by omega)) ⟨e, e2, ?_⟩
  refine ⟨.non, _, I.lset (its' := its ++ its2) hH e (by simp) (r.append r2) ?_, rfl, q⟩
  rw [List.length_append]
  omega
end Kr
namespace Kr
open PySem PySem.Spec PyProof.Rows L2
/-! ### C(), C an own class without __init__ -/
structure MkP (K : PySem.W.Frag) (C : Addr) : Prop where
  makes : PySem.W.makesIn K C = true
  init : PySem.W.findIn K (.ref C) "__init__" = some (some (.builtin "object.__init__"))
  kp : PySem.W.keepIn K (.ref C) = true
def tMakeP (C : Addr) : TE := fun _ H Q => ∀ x dx, H x = none → H dx = none → dx ≠ x → Q (.ref x) (upd (upd H dx (.own x)) x (.ins C dx []))
section
variable {X : Cx} {C : Addr} {x : Str} {p pos : Pos}
theorem run_makeP {pins : List (Addr × Obj)} {σ : L2.St} {H : Hp} {s : Shared} {Q : VK} (M : MkP X.K C) (I : Inv X pins σ H s)
    (h : ∀ x dx, H x = none → H dx = none → dx ≠ x → Q (.ref x) (upd (upd H dx (.own x)) x (.ins C dx []))) :
    wpAny (model X.prog X.w) X.A (call (.ref C) []) (EP X pins σ Q) X.xe s := by
  have hq := h (s.heap.objs.size + 1) s.heap.objs.size (I.hok.fresh (Nat.le_succ _)) (I.hok.fresh (Nat.le_refl _)) (Nat.ne_of_lt (Nat.lt_succ_self _))
  have I2 := Inv.made (C := C) I
  have Y := PySem.W.makes_of (M := model X.prog X.w) I.kIn M.makes
  refine wpAny_call (make_map0 I.kIn M.makes M.init (fun self => PySem.W.Looks.of_pure (PySem.W.oi_bind self)) ?_)
  have e2 : ((s.heap.push PySem.W.emptyDict).push (PySem.W.instObj C s.heap.objs.size)).get? (s.heap.objs.size + 1) = some (PySem.W.instObj C s.heap.objs.size) := by
    have := Heap.get?_push_size (s.heap.push PySem.W.emptyDict) (o := PySem.W.instObj C s.heap.objs.size) rfl
    rwa [Heap.size_push] at this
  have t1 : PySem.W.Looks (model X.prog X.w) ((s.heap.push PySem.W.emptyDict).push (PySem.W.instObj C s.heap.objs.size)) (typeOf (.ref (s.heap.objs.size + 1))) (.ref C) := (PySem.W.Looks.ld e2).andThen .now
  have t2 : PySem.W.Looks (model X.prog X.w) ((s.heap.push PySem.W.emptyDict).push (PySem.W.instObj C s.heap.objs.size)) (isInstance (.ref (s.heap.objs.size + 1)) (.type "object")) true := t1.andThen (Y.top.keeps fun b o e => Heap.get?_push_of_some _ (Heap.get?_push_of_some _ e))
  refine codeAny_call_builtin PySem.W.oi_plain PySem.W.entry_oi (@PySem.W.check_slot (model X.prog X.w) _ _ _ "object.__init__" "object" "__init__" (.ref (s.heap.objs.size + 1)) [] [] _ PySem.W.oi_kind PySem.W.oi_split t2 (PySem.W.oi_args (.ref (s.heap.objs.size + 1))) ?_)
  rw [PySem.W.oi_run]
  exact wpAny_pure (And.intro rfl ⟨V.ref (s.heap.objs.size + 1), _, I2, rfl, hq⟩)
theorem pe_makeP (M : MkP X.K C) (hg : Gl X x) (hm : X.mg x = some (.ref C)) (hdb : (x == ("__debug__" : Str)) = false := by decide) : PE X (.Call (.Name x p) [] [] pos) (tMakeP C) := by
  refine ⟨fun pins s σ H Q I h => ?_⟩
  refine wpAny_Call_Name_kw (ld_glob I hg hm ?_ hdb)
  exact PySem.W.callWith_K0 I.kIn M.kp (run_makeP M I h)
end
end Kr
namespace PySem
namespace TooX
open PySem.W PySem.Calls PyProof.Rows PySem.HandSPX
/-! ### the text of __init__ -/
def iA (p1 p2 : Pos) : Arguments := { posonlyargs := [], args := [{ arg := "self", annotation := none, pos := p1 }, { arg := "limit", annotation := none, pos := p2 }], vararg := none, kwonlyargs := [], kw_defaults := [], kwarg := none, defaults := [] }
def iB (q1 q2 q3 q4 : Pos) : List Stmt := [.Assign [.Attribute (.Name "self" q1) "limit" q2] (.Name "limit" q3) q4]
def iS : Scope := { kind := .function, names := [(PySem.Str.ofString "self", .local), (PySem.Str.ofString "limit", .local)], isGenerator := false, isCoroutine := false, more := [] }
/-- what the written part says of Low, at C, and of its __init__, at fI -/
structure TooTxt (K : Frag) (mg : Str → Option Value) (C fI : Addr) : Prop where
  gC : mg "TooMany" = some (.ref C)
  cls : ∃ nm q N bs bm sn sub ab col dd k0 k1 k2 k3 k5, K.lookup C = some (excClassObj nm q C N bs bm true sn sub ab col dd k0 k1 k2 k3 k5 "ValueError.__new__") ∧ refsVE bm = true
  sa : findIn K (.ref C) "__setattr__" = some (some (.builtin "object.__setattr__"))
  ga : findIn K (.ref C) "__getattribute__" = some (some (.builtin "BaseException.__getattribute__"))
  gg : findIn K (.ref C) "__getattr__" = some none
  noN : findIn K (.ref C) "limit" = some none
  iC : findIn K (.ref C) "__init__" = some (some (.ref fI))
  tC : typeIn K (.ref fI) = some (.type "function")
  kC : keepIn K (.ref C) = true
  exC : subIn K (.ref C) (.type "BaseException") = some true
  tyC : typeIn K (.ref C) = some (.type "type")
  hdC : hasDictIn K C = true
  te : exmOne K (.ref C) (.ref C) = some true
  fn : ∃ (oc : Value) (od : Option Addr) (doc pm : Value) (an : Option Addr) (cdv ct : Value) (osl : Array (Option Value)) (p1 p2 q1 q2 q3 q4 : Pos),
    K.lookup fI = some ⟨oc, od, .func (fnOf "__init__" "TooMany.__init__" (iA p1 p2) (iB q1 q2 q3 q4) iS .none .none doc pm an cdv ct), osl⟩ ∧ codeIn K cdv "TooMany.__init__" = true
theorem one_size (v : Value) : [v].length ≤ sizeLine := by
  rw [sizeLine_eq]
  exact (by decide : 1 ≤ 16777216)
theorem kept_but {K : Frag} {h h' : Heap} {x : Addr} (X : K.In h) (hx : K.lookup x = none) (k : ∀ b o, b ≠ x → h.get? b = some o → h'.get? b = some o) : K.In h' := fun a o e =>
  k a o (fun z => by rw [z, hx] at e; cases e) (X a o e)
theorem ldC {M : Model} {s : Shared} {name : Str} {scope : Scope} {L a : Addr} {cd : Value} {m : Str → Option Value} {x : Str} {pos : Pos} {v : Value} {Q : Value → Shared → Prop} {A : Around} {E : Value → Shared → Prop} (hn : s.heap.Ns L m) (hv : m x = some v) (h : Q v s)
    (hk : scope.kind = .function := by rfl) (hl : (envOfC name scope L a cd).kindOf x = some .local := by rfl) (hd : (x == ("__debug__" : Str)) = false := by decide) :
    wpAny M A (eval (.Name x pos) (envOfC name scope L a cd)) Q E s := wpAny_Name (wpAny_loadName_local hk hl hn hv h) hd
/-- what __init__ leaves of a fresh exception at x -/
structure InitEnd (h h' : Heap) (x C dx t1 : Addr) (v : Value) : Prop where
  keep : ∀ b o, b ≠ x → h.get? b = some o → h'.get? b = some o
  obj : h'.get? x = some { cls := .ref C, dict := some dx, data := .fields #[.ref t1, .none, .none, .none, .bool false, .none] }
  dbig : h.objs.size ≤ dx
  dne : dx ≠ x
  ns : h'.Ns1 dx (fun y => if y = "limit" then some v else none)
/-- a made Low -/
structure OwnMade (h h' : Heap) (e C d : Addr) (v : Value) : Prop where
  keep : ∀ b o, h.get? b = some o → h'.get? b = some o
  new : h.objs.size ≤ e
  obj : ∃ oe vs, h'.get? e = some oe ∧ oe.cls = .ref C ∧ oe.dict = some d ∧ oe.data = .fields vs ∧ vs[1]? = some .none
  dbig : h.objs.size ≤ d
  dne : d ≠ e
  ns : h'.Ns1 d (fun y => if y = "limit" then some v else none)
section
variable {prog : Program} {w : World} {A : Around} {E : Value → Shared → Prop} {R : Result → Shared → Prop} {s : Shared} {K : Frag} {mg : Str → Option Value} {C fI : Addr}
theorem too_init (T : TooTxt K mg C fI) {x t0 : Addr} {v : Value} (X : K.In s.heap) (hlim : s.heap.NoLimit) (hx : s.heap.get? x = some (excO C t0)) (hnx : K.lookup x = none) (hroom : A.depth < recursionLimit)
    (hq : ∀ h' tk dx, InitEnd s.heap h' x C dx t0 v → R (.ok (.ret .none)) { s with heap := h', toks := tk }) :
    codeAny (model prog w) A (.call (.ref fI) ⟨[.ref x, v], []⟩) R s := by
  obtain ⟨oc, od, doc, pm, an, cdv, ct, osl, p1, p2, q1, q2, q3, q4, ho, hcd⟩ := T.fn
  obtain ⟨nm, q, N, bs, bm, sn, sub, ab, col, dd, k0, k1, k2, k3, k5, hC, hbm⟩ := T.cls
  have hcl : clsIn K C = some { name := nm, bases := bs, mro := .ref C :: bm, ns := N, qualname := q, hasDict := true, slotNames := sn, subclasses := sub, abstract := ab, collection := col, hasDel := false } := by unfold clsIn; rw [hC] <;> rfl
  refine Att.call_fn (binds := [("self", .ref x), ("limit", v)]) X hlim ho hcd hroom (BindsTo.of_eq (by first | rfl | with_unfolding_all rfl)) (by first | rfl | decide | with_unfolding_all rfl) (fun s₁ IC => ?_) rfl rfl rfl
  obtain ⟨h₁, tk₁, rfl⟩ := IC.toInCall.same
  have k : ∀ b o, s.heap.get? b = some o → h₁.get? b = some o := IC.toInCall.keep
  have hn := IC.toInCall.ns
  have hxL : s.heap.objs.size ≠ x := Nat.ne_of_gt (Heap.lt_size hx)
  have X₁ : K.In h₁ := X.keeps k
  have hx₁ := k _ _ hx
  -- self.by = by
  show wpAny _ _ (execs _ _) _ _ _
  refine wpAny_execs_cons (plainObj_wpAny_Assign_Attribute ?_)
  refine ldC (v := v) hn (by first | rfl | with_unfolding_all rfl | kernel_rfl) (ldC (v := .ref x) hn (by first | rfl | with_unfolding_all rfl | kernel_rfl) ?_)
  refine set_plain X₁ (ox := excO C t0) (od := none) ⟨hx₁, rfl, rfl, trivial⟩ T.sa ?_
  refine exc_osa X₁ hx₁ hcl (show refsVE (.ref C :: bm) = true from hbm) rfl T.noN (fun h₃ tk₃ dx k₃ dn dne hx₃ hn₃ => ?_)
  show wpAny _ _ (execs _ _) _ _ _
  have z : s.heap.objs.size < h₁.objs.size := hn.lt
  exact wpAny_execs_nil (hq h₃ tk₃ dx ⟨fun b o hb e => k₃ b o hb (k b o e), hx₃, Nat.le_of_lt (Nat.lt_of_lt_of_le z dn), dne, hn₃⟩)
theorem too_made (T : TooTxt K mg C fI) {v : Value} (X : K.In s.heap) (hlim : s.heap.NoLimit) (hroom : A.depth + 1 < recursionLimit)
    (hq : ∀ h' tk e d, OwnMade s.heap h' e C d v → R (.ok (.ret (.ref e))) { s with heap := h', toks := tk }) :
    codeAny (model prog w) A (.call (.ref C) ⟨[v], []⟩) R s := by
  obtain ⟨nm, q, N, bs, bm, sn, sub, ab, col, dd, k0, k1, k2, k3, k5, hC, hbm⟩ := T.cls
  obtain ⟨hp, g, dr, tk, os⟩ := s
  have k : ∀ b o, hp.get? b = some o → ((hp.push (kdv_tup [v])).push (excO C hp.objs.size)).get? b = some o := fun b o e => Heap.get?_push_of_some _ (Heap.get?_push_of_some _ e)
  have hget : ((hp.push (kdv_tup [v])).push (excO C hp.objs.size)).get? (hp.objs.size + 1) = some (excO C hp.objs.size) := by heap_get
  have hnx : K.lookup (hp.objs.size + 1) = none := by
    cases e : K.lookup (hp.objs.size + 1) with
    | none => rfl
    | some o =>
      have z : hp.get? (hp.objs.size + 1) = some o := X _ _ e
      exact absurd (Nat.lt_of_succ_lt (Heap.lt_size z)) (Nat.lt_irrefl _)
  refine call_own F.excBase_ValueError (fun X => refsVE_contains X bm hbm) (X _ _ hC) (looks_findIn X T.iC) (fun self => bind_fn X self T.tC) (one_size v) ?_
  refine too_init (s := ⟨(hp.push (kdv_tup [v])).push (excO C hp.objs.size), g, dr, tk, os⟩) T (X.keeps k) (hlim.keeps k) hget hnx ?_ fun h' tk' dx ⟨k', hx, dn, dne, hns⟩ => ?_
  · show A.depth + 1 < recursionLimit
    exact hroom
  · have old : ∀ b o, hp.get? b = some o → h'.get? b = some o := fun b o e => k' b o (Nat.ne_of_lt (Nat.lt_succ_of_lt (Heap.lt_size e))) (k b o e)
    have z : hp.objs.size + 1 + 1 ≤ dx := by
      first
        | (simpa only [Heap.size_push] using dn)
        | exact dn
        | (have q := dn; rw [Heap.size_push, Heap.size_push] at q; exact q)
    exact ⟨rfl, hq h' tk' (hp.objs.size + 1) dx ⟨old, Nat.le_succ _, ⟨_, _, hx, rfl, rfl, rfl, rfl⟩, Nat.le_trans (Nat.le_trans (Nat.le_succ _) (Nat.le_succ _)) z, dne, hns⟩⟩
end
end TooX
end PySem
namespace L2
open PySem PySem.Spec PyProof.Rows
theorem relO_too {v : V} {v' : Value} (r : RelV v v') (f : Str) : RelO (List.lookup f [(("limit" : Str), v)]) (if f = "limit" then some v' else none) := by
  by_cases hw : f = "limit"
  · subst hw
    rw [if_pos rfl]
    have q : List.lookup ("limit" : Str) [(("limit" : Str), v)] = some v := by simp [List.lookup]
    rw [q]
    exact r
  · rw [if_neg hw]
    have qw : (f == ("limit" : Str)) = false := by simpa using hw
    have q2 : List.lookup f [(("limit" : Str), v)] = none := by simp [List.lookup, qw]
    rw [q2]
    trivial
section
variable {X : Cx} {C fI : Addr}
/-- Low(e) -/
def tMkToo (C : Addr) (ta : TA) : St → Hp → XK → Prop := fun σ H Q => ta σ H fun vs H1 => ∃ v, vs = [v] ∧ ∀ d, H1 d = none → Q (.ref C) (some d) (upd H1 d (.xd [(("limit" : Str), v)]))
theorem pmk_too {a : Expr} {ta : TA} {p pos : Pos} {k : Nat} (T : PySem.TooX.TooTxt X.K X.mg C fI) (hr : Room k X.A) (ha : PA X [a] ta) (hg : Gl X "TooMany" := by rfl)
    (he : starEach (a :: []) X.env = (false, eval a X.env) :: starEach [] X.env := by rfl) (hpl : (backTo pos (starEach [] X.env)).any (·.1) = false := by rfl) :
    PMk X (.Call (.Name "TooMany" p) [a] [] pos) (tMkToo C ta) := by
  intro pins s σ H Q I h
  refine wpAny_Call_Name_kw (ld_glob I hg T.gC ?_)
  refine PySem.W.callWith_K (h₀ := X.base) I.ok.mod.kin T.kC (thn (ha.run pos pins s σ H _ I h) fun us s1 hh => ?_) he hpl
  obtain ⟨vs, H1, I1, r1, v, ev, q1⟩ := hh
  subst ev
  refine ⟨I1.kIn, ?_⟩
  cases r1 with
  | cons rv rn =>
    rename_i v' us'
    cases rn
    show wpAny _ _ (call (.ref C) [v']) _ _ _
    have hlim := I1.nolimit
    obtain ⟨hp, g, dr, tk, os⟩ := s1
    refine wpAny_call (PySem.TooX.too_made T I1.kIn hlim (by have := hr.dp; omega) fun h' tk' e d M => ?_)
    show MkP X pins σ Q (.ref e) ⟨h', g, dr, tk', os⟩
    obtain ⟨oe, fv, hoe, hc, hd, hdat, h1⟩ := M.obj
    have hns := M.ns
    obtain ⟨G', g1, g2⟩ := restrict h' fun b => decide (b ≠ e)
    have gk : ∀ b, b ≠ e → G'.get? b = h'.get? b := fun b hb => g1 b (decide_eq_true hb)
    have ge : G'.get? e = none := g2 e (by simp)
    have old : ∀ b o, hp.get? b = some o → G'.get? b = some o := fun b o q => (gk b (Nat.ne_of_lt (Nat.lt_of_lt_of_le (Heap.lt_size q) M.new))).trans (M.keep b o q)
    have ob : ObjOk X.prog X.w (upd H1 d (.xd [(("limit" : Str), v)])) G' d (.xd [(("limit" : Str), v)]) :=
      ⟨_, hns.at (fun o q => (gk d M.dne).trans q), fun f => relO_too rv f⟩
    have J : Inv X pins σ (upd H1 d (.xd [(("limit" : Str), v)])) ⟨G', g, dr, tk', os⟩ := I1.laid (t' := tk') old M.dbig ob
    refine ⟨e, oe, fv, ⟨G', g, dr, tk', os⟩, _, .ref C, some d, rfl, J, fun b o q => ?_, ge, hoe, ⟨hc, hd⟩, hdat, h1, ?_, rfl, I1.bare, raises_own T.exC T.tyC, q1 d (I1.hok.fresh M.dbig)⟩
    · by_cases hb : b = e
      · have q' : G'.get? b = some o := q
        rw [hb, ge] at q'; cases q'
      · exact (gk b hb).symm.trans q
    · rw [upd_ne (Ne.symm M.dne)]
      exact I1.hok.fresh M.new
/-- raise Low(e) -/
def tRaiseToo (C : Addr) (W : WX) (ta : TA) : TS := fun _ σ H => tMkToo C ta σ H fun cls d H' => W cls d σ H'
theorem ps_raiseToo {a : Expr} {ta : TA} {W : WX} {p pos pos2 : Pos} {k : Nat} (hc : X.calm = true) (T : PySem.TooX.TooTxt X.K X.mg C fI) (hr : Room k X.A) (tk : Takes X W) (ha : PA X [a] ta) (hg : Gl X "TooMany" := by rfl)
    (he : starEach (a :: []) X.env = (false, eval a X.env) :: starEach [] X.env := by rfl) (hpl : (backTo pos (starEach [] X.env)).any (·.1) = false := by rfl) :
    PS X (.Raise (some (.Call (.Name "TooMany" p) [a] [] pos)) none pos2) (tRaiseToo C W ta) := ps_raise hc tk (pmk_too T hr ha hg he hpl)
/-- low.by, low the exception that the suite holds (at a; its class cls, its dict d) -/
def tByToo (C : Addr) (a : Addr) (cls : Value) (d : Option Addr) (te : TE) : TE := fun σ H Q => te σ H fun x H1 => x = .ref a ∧ cls = .ref C ∧ ∃ (dd : Addr) (v : V), d = some dd ∧ H1 dd = some (.xd [(("limit" : Str), v)]) ∧ Q v H1
theorem pe_byToo {a : Addr} {oe : Obj} {cls : Value} {d : Option Addr} {pn : List (Addr × Obj)} {e : Expr} {te : TE} {pos : Pos} (T : PySem.TooX.TooTxt X.K X.mg C fI) (hz : Zc cls d oe) (hf : ∃ vs, oe.data = .fields vs) (he : PE (X.suite a ((a, oe) :: pn)) e te)
    (hb : attributeBase e "limit" X.env (eval e X.env) = eval e X.env := by rfl) :
    PE (X.suite a ((a, oe) :: pn)) (.Attribute e "limit" pos) (tByToo C a cls d te) := by
  refine ⟨fun pins s σ H Q I h => ?_⟩
  refine attr_of hb (thn (he.run pins s σ H _ I h) fun u s1 hh => ?_)
  obtain ⟨x, H1, I1, rx, ex, ec, dd, v, ed, ea, q⟩ := hh
  subst ex
  obtain rfl : u = Value.ref a := rx
  subst ec
  subst ed
  obtain ⟨ha, _⟩ := I1.pin (a, oe) (List.mem_append_left _ List.mem_cons_self)
  obtain ⟨vs, hd⟩ := hf
  have hx : ObjOk X.prog X.w H1 s1.heap dd (.xd [(("limit" : Str), v)]) := I1.hok dd _ ea
  obtain ⟨mA, hns, hr⟩ := hx
  obtain ⟨od, ho, hl⟩ := lookIn_ns hns
  have l : List.lookup ("limit" : Str) [(("limit" : Str), v)] = some v := by simp [List.lookup]
  obtain ⟨u, hu, ru⟩ := RelO.some_of (v := v) (o := mA "limit") (by rw [← l]; exact hr "limit")
  have J : PySem.W.InstAt s1.heap a oe C (some od) := ⟨ha, hz.1, by unfold PySem.W.notCls; rw [hd] <;> rfl, by rw [hz.2]; exact ho⟩
  exact HandSPX.exc_get I1.kIn J T.ga T.gg T.exC (PySem.W.findObj_own T.hdC T.noN rfl (by rw [hl, hu])) (handed_of ru) ⟨v, H1, I1.tok _, ru, q⟩
end
end L2
namespace Kr
open PySem PySem.Spec PyProof.Rows L2
abbrev nDo : List Str := ["standing", "deed", "lot", "a", "b", "place", "items"]
section
variable {P : Program} {w : World} {K : PySem.W.Frag} {mg : Str → Option Value} {base : Heap}
theorem scDo : FnScope nDo ["standing", "deed"] (defScope sDone) := ⟨rfl, rfl, rfl, by decide +kernel, rfl, by decide +kernel, by decide +kernel⟩
theorem f_done {f : Addr} {fd : FuncData} (F : Fun K "done" "done" sDone f fd) (B : Bi mg) : FnOk P w K mg base CX0 1 f fd ["standing", "deed"] spDone := by
  refine F.ok scDo (fun vs H Q E h => ?_) (fun cdv A outer s H vs Q E hr h => ?_)
  · obtain ⟨st, dd, la, ss, lot, a, b, rfl, _⟩ := h
    rfl
  · obtain ⟨st, dd, la, ss, lot, a, b, rfl, hst, hdd, hla, R, hsl, q⟩ := h
    refine ⟨_, pss_cons (ps_asg (pv 1) (pg_tup rfl (pgs_cons (pg_name (i := 2) scDo.nd rfl (.inl rfl)) (pgs_cons (pg_name (i := 3) scDo.nd rfl (.inl rfl)) (pgs_cons (pg_name (i := 4) scDo.nd rfl (.inl rfl)) pgs_nil)))))
      (pss_cons (ps_if (pt_val (pe_callB (cr_any rfl) (by rfl) B.any (by decide +kernel) (pa_cons
          (pe_lc (own := [("place", 5)]) (g := gName 5) rfl scDo.nd (pi_tup (pv 2)) (blkOk_by (own := [("place", 5)]) (N := nDo) (sc := defScope sDone) (by decide +kernel)) (fun _ _ _ _ _ => pg_name (i := 5) scDo.nd rfl (.inl rfl)) (fun _ _ _ _ _ => pts_nil)
            (fun _ _ _ _ _ => pe_cmpR op_ne (pe_ix (r := rIxT K) ix_tup (pv 0) (pv 5) (fun _ _ => rfl)) pe_int (nomark _))) pa_nil))) (pss_one (ps_ret (pv 0))) pss_nil)
      (pss_cons (ps_set (i := 6) scDo.nd rfl (.inl rfl) (pe_callTy call_list_of (by rfl) B.list (by decide +kernel) (pa_cons (pv 0) pa_nil)))
      (pss_cons (ps_asg (pe_ix ix_tup (pv 0) (pv 4) (fun _ _ => rfl)) (pg_sub (pv 6) (pv 3) set_list))
      (pss_cons (ps_asg (pe_ix ix_tup (pv 0) (pv 3) (fun _ _ => rfl)) (pg_sub (pv 6) (pv 4) set_list))
      (pss_one (ps_ret (pe_callTy call_tuple_of (by rfl) B.tuple (by decide +kernel) (pa_cons (pv 6) pa_nil)))))))), ?_⟩
    refine ⟨.ref dd, rfl, dd, _, rfl, SqT.of hdd, rfl, .ref la, _, rfl, .int a, _, rfl, .int b, _, rfl, rfl, ?_⟩
    refine ⟨.ref la, rfl, la, rfl, ⟨_, SqT.of hla⟩, fun Da nDa => lc_tup (K := K) (xs := lot.map V.int) (fun i G2 => ∃ bs : List Bool, G2 Da = some (.lst (bs.map V.bl)) ∧ Same H G2 ∧ bs = (lot.take i).map (fun j => !decide (gz ss j = 0)))
      ⟨[], upd_same, same_new nDa, rfl⟩ (fun i G2 _ ⟨_, _, sm, _⟩ => SqT.of (sm _ _ hla)) ?_ ?_⟩
    · rintro j _ G2 hx ⟨bs, hDa, sm, rfl⟩
      obtain ⟨z, hz, hzm, rfl⟩ := mem_map_int hx
      obtain ⟨z0, z1⟩ := R.rng z hzm
      have hjl := (List.getElem?_eq_some_iff.mp hz).1
      have hll := R.len
      refine ⟨rfl, ?_⟩
      dsimp only [tYes]
      rw [if_pos rfl]
      refine ⟨.ref st, rfl, .int z, rfl, st, _, z, _, rfl, rfl, SqT.of (sm _ _ hst), at_gz z0 z1, rfl, ?_⟩
      refine ⟨_, hDa, szl (by rw [List.length_map, List.length_map, List.length_take]; omega), (lot.take (j + 1)).map (fun j => !decide (gz ss j = 0)), ?_, fun b o hb' => ?_, rfl⟩
      · rw [upd_same, List.take_add_one, hz, List.map_append, List.map_append, ne0]
        rfl
      · rw [upd_ne (ne_of_none hb' nDa)]
        exact sm _ _ hb'
    · rintro G2 ⟨bs, hDa, sm, rfl⟩
      rw [List.length_map, List.take_length] at hDa
      refine ⟨Da, _, rfl, SqL.of hDa, _, rfl, ?_⟩
      have eany : (lot.map (fun j => !decide (gz ss j = 0))).any id = lot.any (fun j => !decide (gz ss j = 0)) := by
        rw [List.any_map]
        rfl
      rw [eany]
      unfold exch at q
      by_cases hb : lot.any (fun j => !decide (gz ss j = 0)) = true
      · rw [if_pos hb] at q
        rw [hb]
        exact iteT ⟨.ref st, rfl, q _ _ sm (sm _ _ hst)⟩
      · rw [if_neg hb] at q
        rw [Bool.eq_false_iff.mpr hb]
        refine iteF ⟨.ref st, rfl, st, _, rfl, .inr (SqT.of (sm _ _ hst)), fun it nit => ?_⟩
        have s2 := sm.trans (same_new (o := .lst (ss.map V.int)) nit)
        have nit0 : H it = none := sm.free nit
        have up : ∀ {G : Hp} {o : HO}, Same H G → Same H (upd G it o) := fun s c o h => by
          rw [upd_ne (ne_of_none h nit0)]
          exact s _ _ h
        refine ⟨.ref st, rfl, .int b, rfl, st, _, b, _, rfl, rfl, SqT.of (s2 _ _ hst), at_gz R.b0 R.b1, .ref it, rfl, .int a, rfl, it, _, a, a.toNat, rfl, rfl, upd_same, ixn R.a0 (by rw [List.length_map]; exact R.a1), ?_⟩
        have s3 := up (o := .lst ((ss.map V.int).set a.toNat (.int (gz ss b)))) s2
        refine ⟨.ref st, rfl, .int a, rfl, st, _, a, _, rfl, rfl, SqT.of (s3 _ _ hst), at_gz R.a0 R.a1, .ref it, rfl, .int b, rfl, it, _, b, b.toNat, rfl, rfl, upd_same, ixn R.b0 (by rw [List.length_set, List.length_map]; exact R.b1), ?_⟩
        have s4 := up (o := .lst (((ss.map V.int).set a.toNat (.int (gz ss b))).set b.toNat (.int (gz ss a)))) s3
        refine ⟨.ref it, rfl, it, _, rfl, .inl ⟨SqL.of upd_same, fun t nt => ?_⟩⟩
        refine q _ t (s4.trans (same_new nt)) ?_
        rw [upd_same, List.map_set, List.map_set]
end
end Kr
namespace Kr
open PySem PySem.Spec PyProof.Rows L2
/-! ### the deeds that programs do, one by one -/
abbrev Stw := Option (List Mv)
def stepAdd (acc w : Stw) : Stw := match acc, w with
  | some a, some b => if a.length + b.length > 5000 then none else some (a ++ b)
  | _, _ => none
def stepM : Mea Stw := ⟨fun d => some [d], fun as => as.foldl stepAdd (some []), fun w => w.map List.reverse, fun w k => if k = 0 ∨ w = some [] then some [] else match w with
  | some b => if b.length * k > 5000 then none else some (List.replicate k b).flatten
  | none => none⟩
def stepD : Stw → PyData
  | none => .none
  | some ms => .tuple (ms.map deedD)
theorem deeds_flat (ms : List Mv) : flatTA (ms.map deedD) = true := flatTA_of fun d hd => by
  obtain ⟨m, _, rfl⟩ := List.mem_map.mp hd
  exact deed_flat m
theorem step_flat : ∀ w : Stw, flatT (stepD w) = true
  | none => rfl
  | some ms => by simpa [stepD, flatT] using deeds_flat ms
/-- deeds of n places, not too many -/
def StOk (n : Nat) (w : Stw) : Prop := ∀ ms, w = some ms → ms.length ≤ 5000 ∧ ∀ m ∈ ms, Deed n m
theorem step_none : ∀ as : List Stw, as.foldl stepAdd none = none
  | [] => rfl
  | a :: as => by
    rw [List.foldl_cons]
    exact step_none as
theorem stepAdd_ok {n : Nat} {a b : Stw} (ha : StOk n a) (hb : StOk n b) : StOk n (stepAdd a b) := by
  intro ms h
  cases a with
  | none => cases h
  | some a =>
    cases b with
    | none => cases h
    | some b =>
      simp only [stepAdd] at h
      split at h
      · cases h
      · cases h
        refine ⟨by rw [List.length_append]; omega, fun m hm => ?_⟩
        rcases List.mem_append.mp hm with c | c
        · exact (ha a rfl).2 m c
        · exact (hb b rfl).2 m c
theorem step_fold {n : Nat} : ∀ {as : List Stw} {a : Stw}, StOk n a → (∀ x ∈ as, StOk n x) → StOk n (as.foldl stepAdd a)
  | [], _, h, _ => h
  | x :: as, a, h, g => by
    rw [List.foldl_cons]
    exact step_fold (stepAdd_ok h (g x List.mem_cons_self)) fun y hy => g y (List.mem_cons_of_mem _ hy)
theorem rep_len {α : Type} (k : Nat) (l : List α) : (List.replicate k l).flatten.length = l.length * k := by
  induction k with
  | zero => simp
  | succ k ih => rw [List.replicate_succ, List.flatten_cons, List.length_append, ih, Nat.mul_succ]; omega
def stepR (n : Nat) : MeaR Stw where
  toMea := stepM
  rep := fun w v H => Dq H v (stepD w)
  flds := fun fs => fs = []
  ok := StOk n
  okD := Deed n
  most := 400
  up := fun s h => Dq.upT s (step_flat _) h
  cD := fun h ms e => by
    cases e
    exact ⟨by simp, fun m hm => by rw [List.mem_singleton.mp hm]; exact h⟩
  cR := fun h _ => step_fold (fun ms e => by cases e; exact ⟨by simp, fun m hm => nomatch hm⟩) h
  cB := fun {a} h ms e => by
    cases a with
    | none => cases e
    | some b =>
      cases e
      exact ⟨by rw [List.length_reverse]; exact (h b rfl).1, fun m hm => (h b rfl).2 m (List.mem_reverse.mp hm)⟩
  cT := fun {a k} h _ ms e => by
    simp only [stepM] at e
    split at e
    · cases e
      exact ⟨by simp, fun m hm => nomatch hm⟩
    · cases a with
      | none => cases e
      | some b =>
        simp only at e
        split at e
        · cases e
        · cases e
          refine ⟨by rw [rep_len]; omega, fun m hm => ?_⟩
          obtain ⟨l, hl, hm2⟩ := List.mem_flatten.mp hm
          rw [List.eq_of_mem_replicate hl] at hm2
          exact (h b rfl).2 m hm2
  nD := fun h => by rw [h]; rfl
  nR := fun h => by rw [h]; rfl
  nB := fun h => by rw [h]; rfl
  nT := fun h => by rw [h]; rfl
abbrev sSmDeed : Stmt := inClass sStepsMeasure 0
abbrev sSmRow : Stmt := inClass sStepsMeasure 1
abbrev sSmBack : Stmt := inClass sStepsMeasure 2
abbrev sSmTimes : Stmt := inClass sStepsMeasure 3
section
variable {P : Program} {w : World} {K : PySem.W.Frag} {mg : Str → Option Value} {base : Heap}
variable {C : Addr}
theorem f_smDeed {n : Nat} {f : Addr} {fd : FuncData} (F : Fun K "of_deed" "StepsMeasure.of_deed" sSmDeed f fd) : FnOk P w K mg base CX0 1 f fd ["self", "deed"] ((stepR n).spD C) := by
  have sc : FnScope ["self", "deed"] ["self", "deed"] (defScope sSmDeed) := ⟨rfl, rfl, rfl, by decide +kernel, rfl, by decide +kernel, by decide +kernel⟩
  refine F.ok sc (fun vs H Q E h => ?_) (fun cdv A outer s H vs Q E hr h => ?_)
  · obtain ⟨_, _, _, rfl, _⟩ := h
    rfl
  · obtain ⟨m, v, d, rfl, hob, hv, hd, q⟩ := h
    refine ⟨_, pss_one (ps_ret (pe_tup (pa_cons (pv 1) pa_nil))), v, rfl, by show 1 ≤ sizeLine; decide, fun t nt => ?_⟩
    have s1 := same_new (o := .tup [v]) nt
    exact q _ _ s1 (.tup upd_same (.cons (hv.up s1) .nil))
theorem f_smBack {n : Nat} {f : Addr} {fd : FuncData} (F : Fun K "of_back" "StepsMeasure.of_back" sSmBack f fd) : FnOk P w K mg base CX0 1 f fd ["self", "worth"] ((stepR n).spB C) := by
  have sc : FnScope ["self", "worth"] ["self", "worth"] (defScope sSmBack) := ⟨rfl, rfl, rfl, by decide +kernel, rfl, by decide +kernel, by decide +kernel⟩
  refine F.ok sc (fun vs H Q E h => ?_) (fun cdv A outer s H vs Q E hr h => ?_)
  · obtain ⟨_, _, _, rfl, _⟩ := h
    rfl
  · obtain ⟨m, v, x, rfl, hob, hv, hx, q⟩ := h
    have hv : Dq H v (stepD x) := hv
    refine ⟨_, pss_one (ps_ret (pe_ifExp (pt_cmpR op_isN (pv 1) pe_non (nomark _)) pe_non (pe_revT (pv 1)))), v, rfl, rfl, _, rfl, ?_⟩
    cases x with
    | none =>
      cases hv
      exact iteT (q _ _ (Same.refl _) .non)
    | some ms =>
      obtain ⟨a, xs, rfl, ha, qx⟩ := Dq.tup_inv hv
      refine iteF ⟨.ref a, rfl, a, xs, rfl, SqT.of ha, fun p np => ?_⟩
      have s1 := same_new (o := .tup xs.reverse) np
      refine q _ _ s1 (.tup upd_same ?_)
      rw [List.map_reverse]
      exact (qx.up s1).rev
theorem f_smRow {n : Nat} {f : Addr} {fd : FuncData} (F : Fun K "of_row" "StepsMeasure.of_row" sSmRow f fd) (B : Bi mg) (hM : ∃ t, mg "MAX_STEPS" = some (.int 5000 t)) : FnOk P w K mg base CX0 1 f fd ["self", "worths"] ((stepR n).spR C) := by
  have sc : FnScope ["self", "worths", "deeds", "worth"] ["self", "worths"] (defScope sSmRow) := ⟨rfl, rfl, rfl, by decide +kernel, rfl, by decide +kernel, by decide +kernel⟩
  obtain ⟨tM, gM⟩ := hM
  refine F.ok sc (fun vs H Q E h => ?_) (fun cdv A outer s H vs Q E hr h => ?_)
  · obtain ⟨_, _, _, _, rfl, _⟩ := h
    rfl
  · obtain ⟨m, a, us, as, rfl, hob, ha, hul, has, hus, hok, q⟩ := h
    refine ⟨_, pss_cons (ps_set (i := 2) sc.nd rfl (.inl rfl) (pe_lst pa_nil))
      (pss_cons (ps_for PassesOwn.never rfl (pi_list (pv 1)) (pg_name (i := 3) sc.nd rfl (.inl rfl))
        (pss_cons (ps_if (PW.pt (pw_or (pt_cmpR op_isN (pv 3) pe_non (nomark _)) (pw_or1 (pt_cmpR op_gt (pe_op op_add (pe_callB call_len_seq (by rfl) B.len boot_len (pa_cons (pv 2) pa_nil)) (pe_callB call_len_seq (by rfl) B.len boot_len (pa_cons (pv 3) pa_nil))) (pe_glob (v := .int 5000) (by rfl) gM ⟨_, rfl⟩) (nomark _))))) (pss_one (ps_ret pe_non)) pss_nil)
        (pss_one (ps_expr (pe_bm PySem.F.plainAttrs_list PySem.F.slot_list_extend PySem.F.type_list_extend mt_extendT (pv 2) (pa_cons (pv 3) pa_nil))))))
      (pss_one (ps_ret (pe_callTy call_tuple_of (by rfl) B.tuple (by decide +kernel) (pa_cons (pv 2) pa_nil))))), ?_⟩
    refine ⟨by show 0 ≤ sizeLine; decide, fun D nD => ?_⟩
    dsimp only [tNext]
    have hDa : D ≠ a := (ne_of_none ha nD).symm
    refine ⟨.ref a, rfl, a, rfl, ⟨us, SqL.of (same_new nD _ _ ha)⟩, for_it (walk_list (K := K) (a := a) (xs := us)) (fun i σ G => ∃ (v3 : Option V) (ms : List Mv) (vs : List V), σ = [some m, some (.ref a), some (.ref D), v3] ∧ Same H G ∧ G D = some (.lst vs) ∧ DqA G vs (ms.map deedD) ∧ (as.take i).foldl stepAdd (some []) = some ms ∧ ms.length ≤ 5000) ⟨none, [], [], rfl, same_new nD, upd_same, .nil, rfl, by simp⟩ (fun _ _ _ _ ⟨_, _, _, _, sm, _⟩ => SqL.of (sm _ _ ha)) ?_ ?_⟩
    · rintro i x σ _ G hi ⟨v3, ms, vs, rfl, sm, hD, qv, hf, hml⟩ ⟨rfl, hx⟩
      obtain ⟨w, hw⟩ : ∃ w, as[i]? = some w := ⟨_, List.getElem?_eq_getElem (by rw [← hul]; exact hi)⟩
      have hv : Dq G x (stepD w) := Dq.up sm (hus i x w hx hw)
      have hok' := hok w (List.mem_of_getElem? hw)
      have hstep : (as.take (i + 1)).foldl stepAdd (some []) = stepAdd (some ms) w := by rw [List.take_add_one, hw, List.foldl_append, hf]; rfl
      have bad : stepAdd (some ms) w = none → Q .non G := fun e => by
        refine q _ _ sm ?_
        show Dq G .non (stepD (as.foldl stepAdd (some [])))
        have e2 : as.foldl stepAdd (some []) = none := by
          rw [← List.take_append_drop (i + 1) as, List.foldl_append, hstep, e]
          exact step_none _
        rw [e2]
        exact .non
      cases w with
      | none =>
        cases hv
        exact ⟨.non, rfl, rfl, _, rfl, iteT (iteT (bad rfl))⟩
      | some b =>
        obtain ⟨t, ys, rfl, ht, qy⟩ := Dq.tup_inv hv
        have hyl := qy.len
        have hvl := qv.len
        rw [List.length_map] at hyl hvl
        have hbl := (hok' b rfl).1
        refine ⟨.ref t, rfl, rfl, _, rfl, iteF ⟨.ref D, rfl, D, vs, rfl, .inl (SqL.of hD), .ref t, rfl, t, ys, rfl, .inr (SqT.of ht), _, _, rfl, rfl, _, _, rfl, rfl, _, rfl, ?_⟩⟩
        refine ite2 (fun c => ?_) (fun c => ?_)
        · refine bad ?_
          have := of_decide_eq_true c
          simp only [stepAdd]
          rw [if_pos (by omega)]
        · have c1 : ¬ (5000 : Int) < ((vs.length : Nat) : Int) + ((ys.length : Nat) : Int) := fun z => c (decide_eq_true z)
          dsimp only [tNext]
          have tD : TS G (upd G D (.lst (vs ++ ys))) := TS.lst hD
          refine ⟨.ref D, rfl, .inl ⟨rfl, vs, SqL.of hD⟩, .ref t, rfl, D, t, vs, ys, rfl, rfl, hD, SqT.of ht, sz (by omega), some (.ref t), ms ++ b, vs ++ ys, rfl, fun c o hc => ?_, upd_same, ?_, ?_, by rw [List.length_append]; omega⟩
          · rw [upd_ne (ne_of_none hc nD)]
            exact sm _ _ hc
          · rw [List.map_append]
            exact (DqA.upT tD (deeds_flat ms) qv).app (DqA.upT tD (deeds_flat b) qy)
          · rw [hstep]
            simp only [stepAdd]
            rw [if_neg (by omega)]
    · rintro σ G ⟨v3, ms, vs, rfl, sm, hD, qv, hf, hml⟩
      rw [hul, List.take_length] at hf
      refine ⟨.ref D, rfl, D, vs, rfl, .inl ⟨SqL.of hD, fun t nt => ?_⟩⟩
      have s1 := same_new (o := .tup vs) nt
      refine q _ _ (sm.trans s1) ?_
      show Dq _ _ (stepD (as.foldl stepAdd (some [])))
      rw [hf]
      exact .tup upd_same (qv.up s1)
theorem f_smTimes {n : Nat} {f : Addr} {fd : FuncData} (F : Fun K "of_times" "StepsMeasure.of_times" sSmTimes f fd) (B : Bi mg) (hM : ∃ t, mg "MAX_STEPS" = some (.int 5000 t)) : FnOk P w K mg base CX0 1 f fd ["self", "worth", "k"] ((stepR n).spT C) := by
  have sc : FnScope ["self", "worth", "k"] ["self", "worth", "k"] (defScope sSmTimes) := ⟨rfl, rfl, rfl, by decide +kernel, rfl, by decide +kernel, by decide +kernel⟩
  obtain ⟨tM, gM⟩ := hM
  refine F.ok sc (fun vs H Q E h => ?_) (fun cdv A outer s H vs Q E hr h => ?_)
  · obtain ⟨_, _, _, _, rfl, _⟩ := h
    rfl
  · obtain ⟨m, v, x, k, rfl, hob, hv, hx, hk, q⟩ := h
    have hv : Dq H v (stepD x) := hv
    have hu : (cxOf CX0 P w K mg base ["self", "worth", "k"] "StepsMeasure.of_times" (defScope sSmTimes) f cdv A outer s H E).A.units + 64 < cLine := hr.units
    refine ⟨_, pss_cons (ps_if (PW.pt (pw_or (pt_cmpR op_eq (pv 2) pe_int (nomark _)) (pw_or1 (pt_cmpR (op_eqT0N hu) (pv 1) (pe_tup pa_nil) (nomark _))))) (pss_one (ps_ret (pe_tup pa_nil))) pss_nil)
      (pss_cons (ps_if (PW.pt (pw_or (pt_cmpR op_isN (pv 1) pe_non (nomark _)) (pw_or1 (pt_cmpR op_gt (pe_op op_mulW (pe_callB call_len_seq (by rfl) B.len boot_len (pa_cons (pv 1) pa_nil)) (pv 2)) (pe_glob (v := .int 5000) (by rfl) gM ⟨_, rfl⟩) (nomark _))))) (pss_one (ps_ret pe_non)) pss_nil)
      (pss_one (ps_ret (pe_op op_repA (pv 1) (pv 2))))), ?_⟩
    refine ⟨.int (k : Int), rfl, rfl, _, rfl, ?_⟩
    have zero : ∀ G, Same H G → (stepM.oT x k = some []) → (0 ≤ sizeLine ∧ ∀ t, G t = none → Q (.ref t) (upd G t (.tup []))) := fun G sG e => ⟨by decide, fun t nt => by
      refine q _ _ (sG.trans (same_new nt)) ?_
      show Dq _ _ (stepD (stepM.oT x k))
      rw [e]
      exact .tup upd_same .nil⟩
    by_cases hk0 : k = 0
    · subst hk0
      rw [decide_eq_true (show V.int ((0 : Nat) : Int) = V.int 0 from rfl)]
      refine iteT (iteT (zero H (Same.refl _) ?_))
      simp [stepM]
    · rw [decide_eq_false (show ¬ V.int (k : Int) = V.int 0 from fun z => hk0 (by have := V.int.inj z; omega))]
      refine iteF ?_
      refine ⟨v, rfl, by show 0 ≤ sizeLine; decide, fun z nz => ?_⟩
      have sz' := same_new (o := .tup []) nz
      have hvz := hv.up sz'
      cases x with
      | none =>
        cases hv
        refine ⟨z, rfl, SqT.of upd_same, .inl ⟨rfl, _, rfl, iteF ?_⟩⟩
        dsimp only [tNext]
        refine ⟨.non, rfl, rfl, _, rfl, iteT (iteT (q _ _ sz' ?_))⟩
        show Dq _ _ (stepD (stepM.oT none k))
        simp only [stepM]
        rw [if_neg (by intro c; rcases c with c | c; exact hk0 c; cases c)]
        exact .non
      | some b =>
        obtain ⟨t, ys, rfl, ht, qy⟩ := Dq.tup_inv hvz
        have hyl := qy.len
        rw [List.length_map] at hyl
        have hbl := (hx b rfl).1
        refine ⟨z, rfl, SqT.of upd_same, .inr ⟨t, ys, rfl, SqT.of ht, _, rfl, ?_⟩⟩
        generalize upd H z (.tup []) = G at ht qy sz' hvz
        cases hyb : ys.isEmpty with
        | true =>
          have hb0 : b = [] := by
            rw [List.isEmpty_iff] at hyb
            rw [hyb] at hyl
            exact List.eq_nil_of_length_eq_zero hyl.symm
          refine iteT (zero G sz' ?_)
          simp only [stepM]
          rw [if_pos (.inr (by rw [hb0]))]
        | false =>
          have hyne : ys ≠ [] := fun z => by rw [z] at hyb; cases hyb
          have hb0 : b ≠ [] := fun z => hyne (by rw [z] at hyl; exact List.eq_nil_of_length_eq_zero hyl)
          have eT : stepM.oT (some b) k = if b.length * k > 5000 then none else some (List.replicate k b).flatten := by
            simp only [stepM]
            rw [if_neg (by intro c; rcases c with c | c; exact hk0 c; exact hb0 (Option.some.inj c))]
          refine iteF ?_
          dsimp only [tNext]
          refine ⟨.ref t, rfl, rfl, _, rfl, iteF ⟨.ref t, rfl, t, ys, rfl, .inr (SqT.of ht), .int (k : Int), rfl, _, _, rfl, rfl, wide_mul (a := 13) (b := 100) (by rw [Int.natAbs_natCast]; exact Nat.lt_of_le_of_lt (by omega : ys.length ≤ 5000) (by decide)) (by rw [Int.natAbs_natCast]; exact Nat.lt_of_le_of_lt hk (by decide +kernel)) (by decide) (by decide) (by decide), _, _, rfl, rfl, _, rfl, ?_⟩⟩
          rw [← Int.natCast_mul]
          refine ite2 (fun c => ?_) (fun c => ?_)
          · have := of_decide_eq_true c
            refine q _ _ sz' ?_
            show Dq _ _ (stepD (stepM.oT (some b) k))
            rw [eT, if_pos (by rw [← hyl]; omega)]
            exact .non
          · have c1 : ¬ (5000 : Int) < ((ys.length * k : Nat) : Int) := fun z => c (decide_eq_true z)
            dsimp only [tNext]
            refine ⟨.ref t, rfl, .int (k : Int), rfl, repA_k ht hyne (by omega) (by rw [Int.toNat_natCast]; omega) fun y G2 s2 h2 => q _ _ (sz'.trans s2) ?_⟩
            show Dq _ _ (stepD (stepM.oT (some b) k))
            rw [eT, if_neg (by rw [← hyl]; omega)]
            rw [Int.toNat_natCast] at h2
            refine .tup h2 ?_
            have rp : ∀ j : Nat, DqA G2 (List.replicate j ys).flatten ((List.replicate j b).flatten.map deedD) := by
              intro j
              induction j with
              | zero => exact .nil
              | succ j ih =>
                rw [List.replicate_succ, List.replicate_succ, List.flatten_cons, List.flatten_cons, List.map_append]
                exact (qy.up s2).app ih
            exact rp k
end
end Kr
namespace Kr
open PySem PySem.Spec PyProof.Rows L2
/-! ### zip of a list and a tuple -/
section
variable {prog : Program} {w : World} {A : Around} {E : Value → Shared → Prop} {s : Shared}
abbrev Rest (h h' : Heap) (z TO i1 i2 : Addr) : Prop := ∀ c o, c ≠ z → c ≠ TO → c ≠ i1 → c ≠ i2 → h.get? c = some o → h'.get? c = some o
theorem zlt_item {z TI TO i1 i2 l1 l2 : Addr} {k : Nat} {xs ys : Array Value} {x y a b : Value} {W : Value → Shared → Prop} (D : ZipApart z TI TO i1 i2 l1 l2) (gz : IsZip s.heap z TI TO .none) (gI : IsPair s.heap TI (.ref i1) (.ref i2)) (gO : IsPair s.heap TO a b)
    (f1 : s.heap.IsListIter i1 l1 k) (f2 : s.heap.IsTupleIter i2 l2 k) (c1 : s.heap.IsList l1 xs) (c2 : s.heap.IsTuple l2 ys) (ex : xs[k]? = some x) (ey : ys[k]? = some y)
    (fin : ∀ h', IsZip h' z TI TO (rawInt s.heap.objs.size) → IsPair h' TO x y → h'.IsListIter i1 l1 (k + 1) → h'.IsTupleIter i2 l2 (k + 1) → IsPair h' s.heap.objs.size x y → h'.objs.size = s.heap.objs.size + 1 → Rest s.heap h' z TO i1 i2 → W (.ref s.heap.objs.size) { s with heap := h' }) :
    wpAny (model prog w) A (Builtin.«zip.__next__» ⟨[.ref z], []⟩) (fun f s' => ∃ v, f = .done (.ret v) ∧ W v s') E s := by
  show wpAny _ _ (field (.ref z) 2 >>= _) _ _ _; refine wpAny_bind (wpAny_field gz rfl (x := .bool false) rfl ?_)
  show wpAny _ _ (field (.ref z) 3 >>= _) _ _ _; refine wpAny_bind (wpAny_field gz rfl (x := .ref TI) rfl (wpAny_bind (wpAny_seqItems gI rfl ?_)))
  show wpAny _ _ (Builtin.SmallTypes.ownedTupleIsFree (.ref z) >>= _) _ _ _; refine wpAny_bind ?_; unfold Builtin.SmallTypes.ownedTupleIsFree
  refine wpAny_bind (wpAny_field gz rfl (x := .none) rfl (wpAny_pure ?_)); simp only [if_true]
  refine wpAny_bind (wpAny_rule (wpAny_bind (wpAny_field gz rfl (x := .ref TO) rfl (wpAny_bind (wpAny_setField_rec gz (by simp) fun ha ga ea => ?_)))))
  replace ga : IsZip ha z TI TO .ellipsis := ga
  refine wpAny_bind ?_; simp only [List.zipIdx_cons, List.zipIdx_nil, List.forIn_cons, List.forIn_nil]
  refine wpAny_bind (wpAny_bind (wpAny_onRaise ?_)); show wpAny _ _ (Builtin.SmallTypes.nextOf (.ref i1) >>= _) _ _ _
  refine wpAny_bind (wpAny_nextOf_list_item (f1.extBut ea.extBut D.i1z) (c1.extBut ea.extBut D.l1z) ex fun hb fb eb => wpAny_pure ?_)
  have gb : IsPair hb TO a b := eb.extBut _ _ D.TOi1 (ea.extBut _ _ D.TOz gO)
  refine wpAny_bind (wpAny_seqItems gb rfl (wpAny_bind (wpAny_updateSeq_pair gb fun hc gc ec => wpAny_bind (wpAny_letGo (wpAny_pure ?_)))))
  replace gc : IsPair hc TO x b := gc
  refine wpAny_bind (wpAny_bind (wpAny_onRaise ?_)); show wpAny _ _ (Builtin.SmallTypes.nextOf (.ref i2) >>= _) _ _ _
  refine wpAny_bind (RZ.nextOf_tuple_item (((f2.extBut ea.extBut D.i2z).extBut eb.extBut D.i12.symm).extBut ec.extBut D.TOi2.symm) (((c2.extBut ea.extBut D.l2z).extBut eb.extBut D.l2i1).extBut ec.extBut D.l2TO) ey fun hd fd ed => wpAny_pure ?_)
  have gd : IsPair hd TO x b := ed.extBut _ _ D.TOi2 gc
  refine wpAny_bind (wpAny_seqItems gd rfl (wpAny_bind (wpAny_updateSeq_pair gd fun he ge ee => wpAny_bind (wpAny_letGo (wpAny_pure (wpAny_pure ?_))))))
  replace ge : IsPair he TO x y := ge
  refine wpAny_bind (wpAny_seqItems ge rfl (wpAny_bind (wpAny_newTuple ?_)))
  have size0 : he.objs.size = s.heap.objs.size := by rw [ee.1, ed.1, ec.1, eb.1, ea.1]
  have gz5 : IsZip he z TI TO .ellipsis := ee.extBut _ _ D.TOz.symm (ed.extBut _ _ D.i2z.symm (ec.extBut _ _ D.TOz.symm (eb.extBut _ _ D.i1z.symm ga)))
  have rest5 : Rest s.heap he z TO i1 i2 := fun c o n1 n2 n3 n4 q => ee.extBut _ _ n2 (ed.extBut _ _ n4 (ec.extBut _ _ n2 (eb.extBut _ _ n3 (ea.extBut _ _ n1 q))))
  have fa5 : he.IsListIter i1 l1 (k + 1) := ((fb.extBut ec.extBut D.TOi1.symm).extBut ed.extBut D.i12).extBut ee.extBut D.TOi1.symm
  have fb5 : he.IsTupleIter i2 l2 (k + 1) := fd.extBut ee.extBut D.TOi2.symm
  have ltz : z < he.objs.size := Heap.lt_size gz5
  show wpAny _ _ (Builtin.SmallTypes.ownedTupleHandOut (.ref z) (.ref he.objs.size) >>= _) _ _ _; refine wpAny_bind ?_; unfold Builtin.SmallTypes.ownedTupleHandOut
  have gz6 : IsZip (he.push { cls := .type "tuple", data := .seq #[x, y] }) z TI TO .ellipsis := Heap.get?_push_of_some _ gz5
  refine wpAny_bind (wpAny_setField_rec gz6 (by simp) fun hf gf ef => ?_)
  replace gf : IsZip hf z TI TO (rawInt he.objs.size) := gf
  refine wpAny_setField_rec gf (by simp) fun hg gg eg => ?_
  replace gg : IsZip hg z TI TO (rawInt he.objs.size) := gg
  have lift : ∀ c o, c ≠ z → he.get? c = some o → hg.get? c = some o := fun c o n q => eg.extBut _ _ n (ef.extBut _ _ n (Heap.get?_push_of_some _ q))
  have gT : IsPair hg he.objs.size x y := eg.extBut _ _ (Nat.ne_of_gt ltz) (ef.extBut _ _ (Nat.ne_of_gt ltz) (Heap.get?_push_size _ rfl))
  have sz8 : hg.objs.size = he.objs.size + 1 := by rw [eg.1, ef.1, Heap.size_push]
  rw [size0] at gg gT sz8
  refine wpAny_pure ⟨_, rfl, ?_⟩; show W (.ref he.objs.size) _; rw [size0]
  exact fin hg gg (lift _ _ D.TOz ge) (fa5.at fun o q => lift _ o D.i1z q) (fb5.at fun o q => lift _ o D.i2z q) gT sz8 fun c o n1 n2 n3 n4 q => lift c o n1 (rest5 c o n1 n2 n3 n4 q)
theorem zlt_end {z TI TO i1 i2 l1 l2 : Addr} {k : Nat} {xs ys : Array Value} {a b : Value} {W : Fin → Shared → Prop} (hh : A.handled = none) (D : ZipApart z TI TO i1 i2 l1 l2) (gz : IsZip s.heap z TI TO .none) (gI : IsPair s.heap TI (.ref i1) (.ref i2)) (gO : IsPair s.heap TO a b)
    (f1 : s.heap.IsListIter i1 l1 k) (f2 : s.heap.IsTupleIter i2 l2 k) (c1 : s.heap.IsList l1 xs) (c2 : s.heap.IsTuple l2 ys) (stop : xs[k]? = none ∨ ys[k]? = none)
    (out : ∀ h' e, Rest s.heap h' z TO i1 i2 → (∃ o, h'.get? e = some o ∧ o.cls = .type "StopIteration") → E (.ref e) { s with heap := h' }) : wpAny (model prog w) A (Builtin.«zip.__next__» ⟨[.ref z], []⟩) W E s := by
  show wpAny _ _ (field (.ref z) 2 >>= _) _ _ _; refine wpAny_bind (wpAny_field gz rfl (x := .bool false) rfl ?_)
  show wpAny _ _ (field (.ref z) 3 >>= _) _ _ _; refine wpAny_bind (wpAny_field gz rfl (x := .ref TI) rfl (wpAny_bind (wpAny_seqItems gI rfl ?_)))
  show wpAny _ _ (Builtin.SmallTypes.ownedTupleIsFree (.ref z) >>= _) _ _ _; refine wpAny_bind ?_; unfold Builtin.SmallTypes.ownedTupleIsFree
  refine wpAny_bind (wpAny_field gz rfl (x := .none) rfl (wpAny_pure ?_)); simp only [if_true]
  refine wpAny_bind (wpAny_rule (wpAny_bind (wpAny_field gz rfl (x := .ref TO) rfl (wpAny_bind (wpAny_setField_rec gz (by simp) fun ha ga ea => ?_)))))
  replace ga : IsZip ha z TI TO .ellipsis := ga
  refine wpAny_bind ?_; simp only [List.zipIdx_cons, List.zipIdx_nil, List.forIn_cons, List.forIn_nil]
  refine wpAny_bind (wpAny_bind (wpAny_onRaise ?_)); show wpAny _ _ (Builtin.SmallTypes.nextOf (.ref i1) >>= _) _ _ _
  cases ex : xs[k]? with
  | none =>
    refine wpAny_bind (wpAny_nextOf_list_end hh (f1.extBut ea.extBut D.i1z) (c1.extBut ea.extBut D.l1z) ex fun hb e eb stp => ?_)
    obtain ⟨oe, goe, ce⟩ := stp
    have gb : IsZip hb z TI TO .ellipsis := eb _ _ D.i1z.symm ga
    have nez : e ≠ z := fun q => by subst q; rw [gb] at goe; cases goe; simp at ce
    exact wpAny_setField_rec gb (by simp) fun hc _ ec => out hc e (fun c o n1 _ n3 _ q => ec.extBut _ _ n1 (eb _ _ n3 (ea.extBut _ _ n1 q))) ⟨oe, ec.extBut _ _ nez goe, ce⟩
  | some x =>
    have ey : ys[k]? = none := by rcases stop with q | q; rw [ex] at q; cases q; exact q
    refine wpAny_bind (wpAny_nextOf_list_item (f1.extBut ea.extBut D.i1z) (c1.extBut ea.extBut D.l1z) ex fun hb fb eb => wpAny_pure ?_)
    have gb : IsPair hb TO a b := eb.extBut _ _ D.TOi1 (ea.extBut _ _ D.TOz gO)
    refine wpAny_bind (wpAny_seqItems gb rfl (wpAny_bind (wpAny_updateSeq_pair gb fun hc gc ec => wpAny_bind (wpAny_letGo (wpAny_pure ?_)))))
    refine wpAny_bind (wpAny_bind (wpAny_onRaise ?_)); show wpAny _ _ (Builtin.SmallTypes.nextOf (.ref i2) >>= _) _ _ _
    refine wpAny_bind (RZ.nextOf_tuple_end hh (((f2.extBut ea.extBut D.i2z).extBut eb.extBut D.i12.symm).extBut ec.extBut D.TOi2.symm) (((c2.extBut ea.extBut D.l2z).extBut eb.extBut D.l2i1).extBut ec.extBut D.l2TO) ey fun hd e ed stp => ?_)
    obtain ⟨oe, goe, ce⟩ := stp
    have gd : IsZip hd z TI TO .ellipsis := ed _ _ D.i2z.symm (ec.extBut _ _ D.TOz.symm (eb.extBut _ _ D.i1z.symm ga))
    have nez : e ≠ z := fun q => by subst q; rw [gd] at goe; cases goe; simp at ce
    exact wpAny_setField_rec gd (by simp) fun he _ ee => out he e (fun c o n1 n2 n3 n4 q => ee.extBut _ _ n1 (ed _ _ n4 (ec.extBut _ _ n2 (eb.extBut _ _ n3 (ea.extBut _ _ n1 q))))) ⟨oe, ee.extBut _ _ nez goe, ce⟩
/-- the zip object -/
abbrev q1 (h : Heap) (l1 : Addr) : Heap := h.push { cls := .type "list_iterator", data := .fields #[.ref l1, .int 0 0] }
abbrev q2 (h : Heap) (l1 l2 : Addr) : Heap := (q1 h l1).push { cls := .type "tuple_iterator", data := .fields #[.ref l2, .int 0 0] }
abbrev q3 (h : Heap) (l1 l2 : Addr) : Heap := (q2 h l1 l2).push { cls := .type "tuple", data := .seq #[.ref h.objs.size, .ref (q1 h l1).objs.size] }
abbrev q4 (h : Heap) (l1 l2 : Addr) : Heap := (q3 h l1 l2).push { cls := .type "tuple", data := .seq #[.none, .none] }
abbrev q5 (h : Heap) (l1 l2 : Addr) : Heap := (q4 h l1 l2).push { cls := .type "zip", data := .fields #[.none, .bool false, .bool false, .ref (q2 h l1 l2).objs.size, .ref (q3 h l1 l2).objs.size] }
theorem meets_zlt (l1 l2 : Addr) (xs ys : Array Value) : Meets (Builtin.«zip.__new__» ⟨[.type "zip", .ref l1, .ref l2], []⟩) (fun _ R s => s.heap.IsList l1 xs ∧ s.heap.IsTuple l2 ys ∧ R (.ok (.ret (.ref (q4 s.heap l1 l2).objs.size))) { s with heap := q5 s.heap l1 l2 }) :=
  .of_wp fun prog w A R s h => by
    obtain ⟨hp, g, d, tk, os⟩ := s; obtain ⟨c1, c2, h⟩ := h
    have hsub := sub_zip
    have L1 : Heap.IsList (Shared.heap ⟨hp, g, d, tk, os⟩) l1 xs := c1
    have L2 : Heap.IsTuple (Shared.heap ⟨hp.push { cls := .type "list_iterator", data := .fields #[.ref l1, .int 0 0] }, g, d, tk, os⟩) l2 ys := Heap.IsTuple.push c2 _
    wp_walk using wpAny_pyIter_list L1, wpAny_pyIter_tuple L2
    exact ⟨_, rfl, h⟩
theorem call_zlt {l1 l2 : Addr} {xs ys : Array Value} {W : Value → Shared → Prop} (c1 : s.heap.IsList l1 xs) (c2 : s.heap.IsTuple l2 ys)
    (h : ∀ h', IsZip h' (s.heap.objs.size + 4) (s.heap.objs.size + 2) (s.heap.objs.size + 3) .none → IsPair h' (s.heap.objs.size + 2) (.ref s.heap.objs.size) (.ref (s.heap.objs.size + 1)) → IsPair h' (s.heap.objs.size + 3) .none .none → h'.IsListIter s.heap.objs.size l1 0 → h'.IsTupleIter (s.heap.objs.size + 1) l2 0 →
      (∀ c o, s.heap.get? c = some o → h'.get? c = some o) → W (.ref (s.heap.objs.size + 4)) { s with heap := h' }) : wpAny (model prog w) A (call (.type "zip") [.ref l1, .ref l2]) W E s := by
  refine callType_new F.called_zip (by decide) (F.typeCall_zip_2 _ _) (F.newCall_zip_2 _ _) (fun ob => F.args_object_init_3 ob _ _) F.entry_zip_new (meets_zlt l1 l2 xs ys) ⟨c1, c2, ?_⟩
  have n1 : (q1 s.heap l1).objs.size = s.heap.objs.size + 1 := Heap.size_push ..
  have n2 : (q2 s.heap l1 l2).objs.size = s.heap.objs.size + 2 := by rw [Heap.size_push, n1]
  have n3 : (q3 s.heap l1 l2).objs.size = s.heap.objs.size + 3 := by rw [Heap.size_push, n2]
  have n4 : (q4 s.heap l1 l2).objs.size = s.heap.objs.size + 4 := by rw [Heap.size_push, n3]
  have p5 : (q5 s.heap l1 l2).get? (q4 s.heap l1 l2).objs.size = some _ := Heap.get?_push_size _ rfl
  have p4 : (q5 s.heap l1 l2).get? (q3 s.heap l1 l2).objs.size = some _ := Heap.get?_push_of_some _ (Heap.get?_push_size _ rfl)
  have p3 : (q5 s.heap l1 l2).get? (q2 s.heap l1 l2).objs.size = some _ := Heap.get?_push_of_some _ (Heap.get?_push_of_some _ (Heap.get?_push_size _ rfl))
  have p2 : (q5 s.heap l1 l2).get? (q1 s.heap l1).objs.size = some _ := Heap.get?_push_of_some _ (Heap.get?_push_of_some _ (Heap.get?_push_of_some _ (Heap.get?_push_size _ rfl)))
  have p1 : (q5 s.heap l1 l2).get? s.heap.objs.size = some _ := Heap.get?_push_of_some _ (Heap.get?_push_of_some _ (Heap.get?_push_of_some _ (Heap.get?_push_of_some _ (Heap.get?_push_size _ rfl))))
  show _ ∧ _; rw [n2, n3, n4] at p5; rw [n1, n2] at p3; rw [n3] at p4; rw [n1] at p2; rw [n4]
  exact ⟨⟨_, p5, rfl⟩, h _ p5 p3 p4 ⟨_, p1, rfl, rfl⟩ ⟨_, p2, rfl, rfl⟩ fun c o x => Heap.get?_push_of_some _ (Heap.get?_push_of_some _ (Heap.get?_push_of_some _ (Heap.get?_push_of_some _ (Heap.get?_push_of_some _ x))))⟩
end
/-- the walk of it: a new pair each turn -/
def ItzM (K : PySem.W.Frag) (a b : Addr) : It :=
  ⟨fun i H => ∃ (xs ys : List V) (x y : V), SqL K H a xs ∧ SqT K H b ys ∧ xs[i]? = some x ∧ ys[i]? = some y,
    fun i H v H' => ∃ T x y, v = .ref T ∧ H T = none ∧ H' = upd H T (.tup [x, y]) ∧ (∀ xs, SqL K H a xs → xs[i]? = some x) ∧ ∀ ys, SqT K H b ys → ys[i]? = some y,
    fun i H => ∃ xs ys : List V, SqL K H a xs ∧ SqT K H b ys ∧ (xs.length ≤ i ∨ ys.length ≤ i)⟩
theorem turn_zlt {P : Program} {w : World} {K : PySem.W.Frag} {elts : List Expr} {kk : Nat} {tpos : Pos} {a b z TI TO i1 i2 : Addr} (D : ZipApart z TI TO i1 i2 a b) :
    Turn P w K (.Tuple elts kk tpos) (ItzM K a b) [z, TI, TO, i1, i2] z (fun i h => IsZip h z TI TO .none ∧ IsPair h TI (.ref i1) (.ref i2) ∧ (∃ x y, IsPair h TO x y) ∧ h.IsListIter i1 a i ∧ h.IsTupleIter i2 b i) where
  mem := by simp
  obj := fun i h st c hc => by
    obtain ⟨gz, gI, ⟨x, y, gO⟩, ⟨o1, e1, _, d1⟩, ⟨o2, e2, _, d2⟩⟩ := st
    have cases5 : c = z ∨ c = TI ∨ c = TO ∨ c = i1 ∨ c = i2 := by simpa using hc
    exact cases5.elim (fun e => e ▸ ⟨_, gz, fun v q => nomatch q⟩) fun r => r.elim (fun e => e ▸ ⟨_, gI, fun v q => nomatch q⟩) fun r => r.elim (fun e => e ▸ ⟨_, gO, fun v q => nomatch q⟩) fun r => r.elim (fun e => e ▸ ⟨o1, e1, fun v q => by rw [d1] at q; cases q⟩) fun e => e ▸ ⟨o2, e2, fun v q => by rw [d2] at q; cases q⟩
  keep := fun i h h' ⟨gz, gI, ⟨x, y, gO⟩, f1, f2⟩ k => ⟨k z (by simp) _ gz, k TI (by simp) _ gI, ⟨x, y, k TO (by simp) _ gO⟩, f1.at fun o q => k i1 (by simp) o q, f2.at fun o q => k i2 (by simp) o q⟩
  item := by
    intro X eP ew eK calm i pins s σ H E I fp st hg
    subst eP ew eK
    obtain ⟨gz, gI, ⟨x0, y0, gO⟩, f1, f2⟩ := st
    obtain ⟨xs, ys, x, y, qx, qy, ex, ey⟩ := hg
    obtain ⟨its, rv, p, _⟩ := I.list qx
    obtain ⟨its2, rv2, p2, _⟩ := I.tuple qy
    obtain ⟨u, hu, ru⟩ := rv.get ex
    obtain ⟨u2, hu2, ru2⟩ := rv2.get ey
    have zl : z < s.heap.objs.size := Heap.lt_size gz
    have hT : s.TypeIs (.ref z) "zip" := ⟨_, gz, rfl⟩
    unfold pyNext
    refine wpAny_bind (wpAny_attempt (wpAny_callSpecial?_slot (name := Str.ofString "__next__") hT F.slot_zip_next (wpAny_call_entry F.slot_zip_next hT F.entry_zip_next (zlt_item D gz gI gO f1 f2 p.isList p2 (x := u) (y := u2) (by simpa using hu) (by simpa using hu2) fun h' z' o' w1 w2 gT gs rst => wpAny_pure ?_) (F.args_zip_next_1 _))))
    refine ⟨_, rfl, wpAny_letOwnedTupleGo_zip (s := { s with heap := h' }) z' fun h'' z'' sb => ?_⟩
    have gT2 : h''.get? s.heap.objs.size = some { cls := .type "tuple", data := .seq #[u, u2] } := (sb.2 _ (Nat.ne_of_gt zl)).trans gT
    have rst2 : ∀ c o, c ∉ [z, TI, TO, i1, i2] → s.heap.get? c = some o → h''.get? c = some o := fun c o nb q => by
      simp only [List.mem_cons, List.not_mem_nil, or_false, not_or] at nb
      exact (sb.2 c nb.1).trans (rst c o nb.1 nb.2.2.1 nb.2.2.2.1 nb.2.2.2.2 q)
    have I1 : Inv X pins σ (upd H s.heap.objs.size (.tup [x, y])) { s with heap := h'' } :=
      I.turnedNew (t' := s.toks) (ch := [z, TI, TO, i1, i2]) rst2 fp (Nat.le_refl _) ⟨by show 2 ≤ sizeLine; decide, [u, u2], .cons ru (.cons ru2 .nil), ⟨_, gT2, rfl, _, rfl⟩⟩
    refine ⟨.ref s.heap.objs.size, _, I1, rfl, ⟨_, x, y, rfl, I.hok.fresh (Nat.le_refl _), rfl, fun l hl => by rw [I.list_inj hl qx]; exact ex, fun l hl => by rw [I.tuple_inj hl qy]; exact ey⟩, ⟨z'', (sb.2 _ D.TIz).trans (rst _ _ D.TIz D.TITO D.TIi1 D.TIi2 gI), ⟨u, u2, (sb.2 _ D.TOz).trans o'⟩, w1.at fun o q => (sb.2 _ D.i1z).trans q, w2.at fun o q => (sb.2 _ D.i2z).trans q⟩, fun c hcm => ?_⟩
    have lt : c < s.heap.objs.size := by
      have cases5 : c = z ∨ c = TI ∨ c = TO ∨ c = i1 ∨ c = i2 := by simpa using hcm
      obtain ⟨_, e1, _⟩ := f1
      obtain ⟨_, e2, _⟩ := f2
      exact cases5.elim (fun e => e ▸ zl) fun r => r.elim (fun e => e ▸ Heap.lt_size gI) fun r => r.elim (fun e => e ▸ Heap.lt_size gO) fun r => r.elim (fun e => e ▸ Heap.lt_size e1) fun e => e ▸ Heap.lt_size e2
    rw [upd_ne (Nat.ne_of_lt lt)]
    exact (fp c hcm).1
  done := by
    intro X eP ew eK calm i pins s σ H E I fp st hg
    subst eP ew eK
    obtain ⟨gz, gI, ⟨x0, y0, gO⟩, f1, f2⟩ := st
    obtain ⟨xs, ys, qx, qy, stop⟩ := hg
    obtain ⟨its, rv, p, _⟩ := I.list qx
    obtain ⟨its2, rv2, p2, _⟩ := I.tuple qy
    have l1 := rv.length
    have l2 := rv2.length
    have he : its.toArray[i]? = none ∨ its2.toArray[i]? = none := stop.elim (fun q => .inl (by simp; omega)) fun q => .inr (by simp; omega)
    have hT : s.TypeIs (.ref z) "zip" := ⟨_, gz, rfl⟩
    unfold pyNext
    refine wpAny_bind (wpAny_attempt (wpAny_callSpecial?_slot (name := Str.ofString "__next__") hT F.slot_zip_next (wpAny_call_entry F.slot_zip_next hT F.entry_zip_next (zlt_end (I.ok.hd calm) D gz gI gO f1 f2 p.isList p2 he fun h' e rst stp => ?_) (F.args_zip_next_1 _))))
    obtain ⟨o, ho, hc⟩ := stp
    refine wpAny_bind (wpAny_isInstance (T := "StopIteration") (b := true) ⟨o, ho, hc⟩ isSubtype_stop (wpAny_pure ⟨rfl, I.turnedL (t' := s.toks) (ch := [z, TI, TO, i1, i2]) (fun c o nb q => ?_) fp⟩))
    simp only [List.mem_cons, List.not_mem_nil, or_false, not_or] at nb
    exact rst c o nb.1 nb.2.2.1 nb.2.2.2.1 nb.2.2.2.2 q
  self := fun A i s Q E st h => wpAny_pyIter_zip st.1 h
def iZipM (K : PySem.W.Frag) (ta : TA) : TI := fun σ H R => ta σ H fun vs H1 => ∃ a b xs ys, vs = [.ref a, .ref b] ∧ SqL K H1 a xs ∧ SqT K H1 b ys ∧ R (ItzM K a b) H1
theorem pi_zipM {X : Cx} {e e2 : Expr} {ta : TA} {p pos tpos : Pos} {elts : List Expr} {kk : Nat} (hg : Gl X "zip") (hm : X.mg "zip" = none) (ha : PA X [e, e2] ta)
    (hs : starEach [e, e2] X.env = (false, eval e X.env) :: starEach [e2] X.env := by rfl) (hpl : (backTo pos (starEach [e2] X.env)).any (·.1) = false := by rfl) : PI X (.Tuple elts kk tpos) (.Call (.Name "zip" p) [e, e2] [] pos) (iZipM X.K ta) := by
  refine ⟨fun pn sh st hp R Iv hh => Call_ (ld_blt Iv hg hm PyProof.Rows.boot_zip (PyProof.Rows.callWith_type1 (thn (ha.run pos pn sh st hp _ Iv hh) fun us s1 ⟨vs, H1, I1, r1, q1⟩ => ?_) hs hpl))⟩
  obtain ⟨a, b, xs, ys, rfl, qx, qy, q⟩ := q1
  cases r1 with
  | cons r rr =>
    cases rr with
    | cons r' rr =>
      cases rr; cases r; cases r'
      obtain ⟨its, rv, p1, _⟩ := I1.list qx
      obtain ⟨its2, rv2, p2, _⟩ := I1.tuple qy
      obtain ⟨o2, ho2, _⟩ := id p2
      refine call_zlt p1.isList p2 fun h' gz gI gO f1 f2 hk => wpAny_pyIter_zip gz ?_
      have I2 : Inv X pn st H1 { s1 with heap := h' } := I1.kept (t' := s1.toks) hk
      refine ⟨s1.heap.objs.size + 4, [s1.heap.objs.size + 4, s1.heap.objs.size + 2, s1.heap.objs.size + 3, s1.heap.objs.size, s1.heap.objs.size + 1], _, _, H1, rfl, I2, turn_zlt (PySem.W.ktu_apart s1.heap.objs.size a b p1.lt (Heap.lt_size ho2)), ⟨gz, gI, ⟨_, _, gO⟩, f1, f2⟩, fun c hcm => ?_, q⟩
      have le : s1.heap.objs.size ≤ c := by
        have cases5 : c = s1.heap.objs.size + 4 ∨ c = s1.heap.objs.size + 2 ∨ c = s1.heap.objs.size + 3 ∨ c = s1.heap.objs.size ∨ c = s1.heap.objs.size + 1 := by simpa using hcm
        rcases cases5 with q | q | q | q | q <;> rw [q] <;> first | exact Nat.le_add_right _ _ | exact Nat.le_refl _
      exact I1.fpOk le (I1.hok.fresh le)
theorem walk_zlt {K : PySem.W.Frag} {a b : Addr} {xs ys : List V} {n : Nat} (hn : n = min xs.length ys.length) : Walk (ItzM K a b) n (fun H => SqL K H a xs ∧ SqT K H b ys) (YPair (fun i => xs[i]?) (fun i => ys[i]?)) := by
  subst hn
  refine ⟨fun i _ hi q => ?_, fun _ ⟨g1, g2⟩ => ⟨xs, ys, g1, g2, (by omega)⟩, fun i H v H' _ ⟨g1, g2⟩ ⟨T, x, z, t1, t2, t3, t4, t5⟩ => ⟨T, x, z, t1, t2, t3, t4 _ g1, t5 _ g2⟩⟩
  obtain ⟨m1, m2⟩ := Nat.lt_min.mp hi
  exact ⟨xs, ys, xs[i], ys[i], q.1, q.2, List.getElem?_eq_getElem m1, List.getElem?_eq_getElem m2⟩
end Kr
namespace Kr
open PySem PySem.Spec PyProof.Rows L2
section
variable {P : Program} {w : World} {K : PySem.W.Frag} {mg : Str → Option Value} {base : Heap}
abbrev nBo : List Str := ["n", "one", "other", "entries", "aim", "entry", "onward", "place"]
theorem f_both {f : Addr} {fd : FuncData} (F : Fun K "both" "both" sBoth f fd) (B : Bi mg) (ai : Ok P w K mg base 4 "aims_of" ["n", "table"] spAims) : FnOk P w K mg base CX0 5 f fd ["n", "one", "other"] spBoth := by
  have scBo : FnScope nBo ["n", "one", "other"] (defScope sBoth) := ⟨rfl, rfl, rfl, by decide +kernel, rfl, by decide +kernel, by decide +kernel⟩
  refine F.ok scBo (fun vs H Q E h => ?_) (fun cdv A outer s H vs Q E hr h => ?_)
  · obtain ⟨n, v, u, T, U, rfl, _⟩ := h
    rfl
  · obtain ⟨n, v, u, T, U, rfl, hn, hv, hu', hTl, hT, hUl, hU, q⟩ := h
    refine ⟨_, pss_cons (ps_set (i := 3) scBo.nd rfl (.inl rfl) (pe_lst pa_nil))
      (pss_cons (ps_for PassesOwn.never rfl (pi_zipM (by rfl) B.zip (pa_cons (pe_fn ai hr (by rfl) (pa_cons (pv 0) (pa_cons (pv 1) pa_nil))) (pa_cons (pv 1) pa_nil))) (pg_tup rfl (pgs_cons (pg_name (i := 4) scBo.nd rfl (.inl rfl)) (pgs_cons (pg_name (i := 5) scBo.nd rfl (.inl rfl)) pgs_nil)))
        (pss_cons (ps_set (i := 6) scBo.nd rfl (.inr rfl) (pe_ix ix_tup (pv 2) (pv 4) (fun _ _ => rfl)))
        (pss_one (ps_expr (pe_bm PySem.F.plainAttrs_list PySem.F.slot_list_append PySem.F.type_list_append mt_append (pv 3) (pa_cons (pe_callTy call_tuple_of (by rfl) B.tuple (by decide +kernel) (pa_cons
          (pe_lc (own := [("place", 7)]) (g := gName 7) (tt := tYes) rfl scBo.nd (pi_tup (pv 5)) (blkOk_by (own := [("place", 7)]) (N := nBo) (sc := defScope sBoth) (by decide +kernel)) (fun _ _ _ _ _ => pg_name (i := 7) scBo.nd rfl (.inl rfl)) (fun _ _ _ _ _ => pts_nil)
            (fun _ _ _ _ _ => pe_ifExp (pt_cmpR op_eq (pv 7) (pe_un un_neg pe_int) (nomark _)) (pe_un un_neg pe_int) (pe_ix (r := rIxT K) ix_tup (pv 6) (pv 7) (fun _ _ => rfl)))) pa_nil)) pa_nil))))))
      (pss_one (ps_ret (pe_callTy call_tuple_of (by rfl) B.tuple (by decide +kernel) (pa_cons (pv 3) pa_nil))))), ?_⟩
    refine ⟨by show 0 ≤ sizeLine; decide, fun en nen => ?_⟩
    have s1 := same_new (o := .lst []) nen
    have hen : upd H en (.lst []) en = some (.lst []) := upd_same
    have nf : ∀ b o, H b = some o → b ≠ en := fun b o hb => ne_of_none hb nen
    generalize upd H en (.lst []) = H1 at hen s1
    refine ⟨.int n, rfl, v, rfl, n, v, T, rfl, hn, hv.up s1, hTl, fun e he => (hT e he).1, fun H2 ad s2 nad had => ?_⟩
    have s12 := s1.trans s2
    have hen2 := s2 _ _ hen
    have hv2 := hv.up s12
    have hu2 := hu'.up s12
    obtain ⟨va, xs, rfl, hva, qx⟩ := Dq.tup_inv hv2
    obtain ⟨ua, us, rfl, hua, qu⟩ := Dq.tup_inv hu2
    have nva : va ≠ en := ne_of hva hen2 (by intro z; cases z)
    have nua : ua ≠ en := ne_of hua hen2 (by intro z; cases z)
    have nad2 : ad ≠ en := (ne_of_none hen nad).symm
    have hxl : xs.length = T.length := by rw [qx.len, List.length_map]
    have hul : us.length = 2 ^ n := by rw [qu.len, List.length_map, hUl]
    have hail : ((aimsT n T).map V.int).length = T.length := by unfold aimsT; rw [List.length_map, List.length_map]
    refine ⟨.ref va, rfl, ad, va, _, xs, rfl, SqL.of had, SqT.of hva, for_it (walk_zlt (n := T.length) (by omega)) (fun i σ G => ∃ (v4 v5 v6 : Option V) (acc : List V), σ = [some (.int n), some (.ref va), some (.ref ua), some (.ref en), v4, v5, v6, none] ∧
        (∀ b o, b ≠ en → H2 b = some o → G b = some o) ∧ G en = some (.lst acc) ∧ DqA G acc ((T.take i).map fun e => entD (bothE n U e)))
      ⟨_, _, _, [], rfl, fun _ _ _ h => h, hen2, .nil⟩ (fun i σ G _ ⟨_, _, _, _, _, k, _⟩ => ⟨SqL.of (k _ _ nad2 had), SqT.of (k _ _ nva hva)⟩) ?_ ?_⟩
    · rintro i _ σ G _ hi ⟨v4, v5, v6, acc, rfl, k, hG, qac⟩ ⟨t0, x1, x2, rfl, nt0, rfl, e1, e2⟩
      obtain ⟨e, he, ea, rfl, hea⟩ := ents_get qx e2
      have e3 : x1 = .int ((num n (goalE n e) : Nat) : Int) := by
        have e4 : ((aimsT n T).map V.int)[i]? = some x1 := e1
        unfold aimsT at e4
        rw [List.getElem?_map, List.getElem?_map, he] at e4
        exact (Option.some.inj e4).symm
      subst e3
      have st0 := same_new (o := .tup [.int ((num n (goalE n e) : Nat) : Int), .ref ea]) nt0
      have nea : ea ≠ en := ne_of hea hen2 (by intro z; cases z)
      have hea' := st0 _ _ (k _ _ nea hea)
      obtain ⟨hgo, hel, hex⟩ := hT e (List.mem_of_getElem? he)
      have hnum := all_num hn hgo
      have acl : acc.length = i := by
        rw [qac.len, List.length_map, List.length_take]
        omega
      have hG0 := st0 _ _ hG
      have qac0 := qac.up st0
      refine ⟨t0, [.int ((num n (goalE n e) : Nat) : Int), .ref ea], rfl, SqT.of upd_same, rfl, .int ((num n (goalE n e) : Nat) : Int), [.ref ea], rfl, .ref ea, [], rfl, rfl, ?_⟩
      have k0 : ∀ b o, b ≠ en → H2 b = some o → upd G t0 (.tup [.int ((num n (goalE n e) : Nat) : Int), .ref ea]) b = some o := fun b o hb ho => st0 _ _ (k _ _ hb ho)
      generalize upd G t0 (.tup [.int ((num n (goalE n e) : Nat) : Int), .ref ea]) = G1 at hea' hG0 qac0 k0
      obtain ⟨uv, huv⟩ : ∃ uv, us[num n (goalE n e)]? = some uv := ⟨_, List.getElem?_eq_getElem (by omega)⟩
      obtain ⟨ue, hue, uea, rfl, huea⟩ := ents_get qu huv
      have hue2 : U.getD (num n (goalE n e)) [] = ue := getD_of hue
      have huel := hU ue (List.mem_of_getElem? hue)
      have nuea : uea ≠ en := ne_of huea hen2 (by intro z; cases z)
      refine ⟨.ref ua, rfl, .int ((num n (goalE n e) : Nat) : Int), rfl, ua, us, (num n (goalE n e) : Nat), .ref uea, rfl, rfl, SqT.of (k0 _ _ nua hua), atI_nat huv, ?_⟩
      have hue3 := k0 _ _ nuea huea
      dsimp only [tNext]
      refine ⟨.ref en, rfl, .inl ⟨rfl, _, SqL.of hG0⟩, .ref ea, rfl, ea, rfl, ⟨_, SqT.of hea'⟩, fun D nD => ?_⟩
      refine lc_itF (walk_tup (K := K) (a := ea) (xs := e.map V.int)) (fun j => .int (if e.getD j 0 = -1 then -1 else ue.getD (e.getD j 0).toNat 0)) nD (by rw [List.length_map]; omega) (fun _ _ => rfl) (fun G s => SqT.of (s _ _ hea')) (fun j y G3 G3' C Cn hj s4 hy c => ?_) (fun G4 bs s4 hD qb => ?_)
      · obtain ⟨rfl, hy⟩ := hy
        rw [List.length_map] at hj
        have ey : y = .int (e.getD j 0) := by
          rw [List.getElem?_map, getD_get hj] at hy
          exact (Option.some.inj hy).symm
        subst ey
        have hxe := hex _ (List.mem_of_getElem? (getD_get hj))
        generalize e.getD j 0 = z at c hxe
        refine ⟨rfl, ?_⟩
        dsimp only [tYes]
        rw [if_pos rfl]
        refine ⟨.int z, rfl, 1, rfl, rfl, _, rfl, ?_⟩
        by_cases hz : z = -1
        · rw [decide_eq_true (show V.int z = V.int (-1) by rw [hz])]
          rw [if_pos hz] at c
          exact iteT ⟨1, rfl, c _ _ (Same.refl _) (.int _)⟩
        · rw [decide_eq_false (fun y => hz (V.int.inj y))]
          rw [if_neg hz] at c
          have hz2 := hxe.resolve_left hz
          obtain ⟨m, rfl⟩ : ∃ m : Nat, z = m := ⟨z.toNat, by omega⟩
          rw [Int.toNat_natCast] at c
          exact iteF ⟨.ref uea, rfl, .int m, rfl, uea, _, m, .int (ue.getD m 0), rfl, rfl, SqT.of (s4 _ _ hue3), atI_nat (by rw [List.getElem?_map, getD_get (by omega)]; rfl), c _ _ (Same.refl _) (.int _)⟩
      have em := map_getD (fun (z : Int) => PyData.int (if z = -1 then -1 else ue.getD z.toNat 0)) 0 e
      rw [List.length_map, em] at qb
      have ebs : bs = (bothE n U e).map V.int := dqa_int (by
        unfold bothE
        rw [hue2, List.map_map]
        exact qb)
      subst ebs
      refine ⟨D, _, rfl, .inl ⟨SqL.of hD, fun t2 nt2 => ?_⟩⟩
      have s5 := same_new (o := .tup ((bothE n U e).map V.int)) nt2
      have ht2 : upd G4 t2 (.tup ((bothE n U e).map V.int)) t2 = some (.tup ((bothE n U e).map V.int)) := upd_same
      have hG5 := s5 _ _ (s4 _ _ hG0)
      generalize upd G4 t2 (.tup ((bothE n U e).map V.int)) = G5 at s5 ht2 hG5
      have ts : TS G5 (upd G5 en (.lst (acc ++ [.ref t2]))) := TS.lst hG5
      refine ⟨en, acc, .ref t2, rfl, rfl, hG5, szl (by omega), _, _, _, _, rfl, fun b o hb ho => ?_, upd_same, ?_⟩
      · rw [upd_ne hb]
        exact s5 _ _ (s4 _ _ (k0 _ _ hb ho))
      · rw [take_snoc he]
        refine dqa_snoc (DqA.upT ts (flatTA_of fun d hd => ?_) ((qac0.up s4).up s5)) (Dq.upT ts (ent_flat _) (ent_at ht2))
        obtain ⟨l', _, rfl⟩ := List.mem_map.mp hd
        exact ent_flat _
    · rintro σ G ⟨v4, v5, v6, acc, rfl, k, hG, qac⟩
      rw [List.take_length] at qac
      refine ⟨.ref en, rfl, en, acc, rfl, .inl ⟨SqL.of hG, fun t nt => q _ _ (fun b' o hb => same_new nt _ _ (k _ _ (nf _ _ hb) (s12 _ _ hb))) (.tup upd_same ?_)⟩⟩
      unfold bothT
      rw [List.map_map]
      exact qac.up (same_new nt)
end
end Kr
namespace Kr
open PySem PySem.Spec PyProof.Rows L2
section
variable {P : Program} {w : World} {K : PySem.W.Frag} {mg : Str → Option Value} {base : Heap}
theorem f_still {f : Addr} {fd : FuncData} (F : Fun K "still" "still" sStill f fd) (B : Bi mg) (wt : Ok P w K mg base 3 "ways_table" ["n", "ways"] spWays) : FnOk P w K mg base CX0 4 f fd ["n"] spStill := by
  have scSt : FnScope ["n"] ["n"] (defScope sStill) := ⟨rfl, rfl, rfl, by decide +kernel, rfl, by decide +kernel, by decide +kernel⟩
  refine F.ok scSt (fun vs H Q E h => ?_) (fun cdv A outer s H vs Q E hr h => ?_)
  · obtain ⟨n, rfl, _⟩ := h
    rfl
  · obtain ⟨n, rfl, hn, q⟩ := h
    refine ⟨_, pss_one (ps_ret (pe_fn wt hr (by rfl) (pa_cons (pv 0) (pa_cons (pe_listRg rfl (by rfl) B.list (prg_1 (by rfl) B.range (pv 0))) pa_nil)))), ?_⟩
    refine ⟨.int n, rfl, .int n, rfl, (n : Int), rfl, RgOk.of_le (Int.le_refl _) (by omega) (by decide) (by omega), fun r nr => ?_⟩
    rw [rg_ups]
    exact ⟨n, r, ups n, rfl, hn, upd_same, by unfold ups; rw [List.length_map, List.length_range]; omega, fun H' v s hv => q _ _ ((same_new nr).trans s) hv⟩
end
end Kr
namespace Kr
open PySem PySem.Spec PyProof.Rows L2
section
variable {P : Program} {w : World} {K : PySem.W.Frag} {mg : Str → Option Value} {base : Heap}
abbrev nDt : List Str := ["n", "deed", "asked", "a", "b", "staying", "exchanged", "entries", "lot", "comes_about", "place"]
theorem scDt : FnScope nDt ["n", "deed"] (defScope sDeedTable) := ⟨rfl, rfl, rfl, by decide +kernel, rfl, by decide +kernel, by decide +kernel⟩
theorem f_deedTable {f : Addr} {fd : FuncData} (F : Fun K "deed_table" "deed_table" sDeedTable f fd) (B : Bi mg) (al : Ok P w K mg base 2 "all_lots" ["n"] spAll6) (eb : Ok P w K mg base 1 "_entry_by" ["lot", "ways"] spEntBy) : FnOk P w K mg base CX0 3 f fd ["n", "deed"] spDeedT := by
  refine F.ok scDt (fun vs H Q E h => ?_) (fun cdv A outer s H vs Q E hr h => ?_)
  · obtain ⟨n, d, q, as, a, b, rfl, _⟩ := h
    rfl
  · obtain ⟨n, d, qa, as, a, b, rfl, hn, hd, hq, has, han, hbn, q⟩ := h
    have hr1 := hr.mono (show 1 ≤ 2 by decide)
    refine ⟨_, pss_cons (ps_asg (pv 1) (pg_tup rfl (pgs_cons (pg_name (i := 2) scDt.nd rfl (.inl rfl)) (pgs_cons (pg_name (i := 3) scDt.nd rfl (.inl rfl)) (pgs_cons (pg_name (i := 4) scDt.nd rfl (.inl rfl)) pgs_nil)))))
      (pss_cons (ps_set (i := 5) scDt.nd rfl (.inl rfl) (pe_listRg rfl (by rfl) B.list (prg_1 (by rfl) B.range (pv 0))))
      (pss_cons (ps_set (i := 6) scDt.nd rfl (.inl rfl) (pe_callTy call_list_of (by rfl) B.list (by decide +kernel) (pa_cons (pv 5) pa_nil)))
      (pss_cons (ps_asg (pv 4) (pg_sub (pv 6) (pv 3) set_list))
      (pss_cons (ps_asg (pv 3) (pg_sub (pv 6) (pv 4) set_list))
      (pss_cons (ps_set (i := 7) scDt.nd rfl (.inl rfl) (pe_lst pa_nil))
      (pss_cons (ps_for PassesOwn.never rfl (pi_tup (pe_fn al hr (by rfl) (pa_cons (pv 0) pa_nil))) (pg_name (i := 8) scDt.nd rfl (.inr rfl))
        (pss_cons (ps_set (i := 9) scDt.nd rfl (.inl rfl) (pe_callB (cr_all rfl) (by rfl) B.all (by decide +kernel) (pa_cons
          (pe_lc (own := [("place", 10)]) (g := gName 10) (tt := tYes) rfl scDt.nd (pi_tup (pv 2)) (blkOk_by (own := [("place", 10)]) (N := nDt) (sc := defScope sDeedTable) (by decide +kernel)) (fun _ _ _ _ _ => pg_name (i := 10) scDt.nd rfl (.inl rfl)) (fun _ _ _ _ _ => pts_nil)
            (fun _ _ _ _ _ => pe_cmpR (r := rIn K false) op_in_seq (pv 10) (pv 8) rfl)) pa_nil)))
        (pss_one (ps_expr (pe_bm PySem.F.plainAttrs_list PySem.F.slot_list_append PySem.F.type_list_append mt_append (pv 7) (pa_cons (pe_fn eb hr1 (by rfl) (pa_cons (pv 8) (pa_cons (pe_ifExp (pt_val (pv 9)) (pv 6) (pv 5)) pa_nil))) pa_nil))))))
      (pss_one (ps_ret (pe_callTy call_tuple_of (by rfl) B.tuple (by decide +kernel) (pa_cons (pv 7) pa_nil)))))))))), ?_⟩
    refine ⟨.ref d, rfl, d, _, rfl, SqT.of hd, rfl, .ref qa, [.int a, .int b], rfl, .int a, [.int b], rfl, .int b, [], rfl, rfl, ?_⟩
    dsimp only
    refine ⟨.int n, rfl, (n : Int), rfl, RgOk.of_le (Int.le_refl _) (by omega) (by decide) (by omega), fun st nst => ?_⟩
    rw [rg_ups]
    have s1 := same_new (o := .lst ((ups n).map V.int)) nst
    have hst : upd H st (.lst ((ups n).map V.int)) st = some (.lst ((ups n).map V.int)) := upd_same
    generalize upd H st (.lst ((ups n).map V.int)) = H1 at s1 hst
    refine ⟨.ref st, rfl, st, _, rfl, .inl (SqL.of hst), fun ex nex => ?_⟩
    have hul : (ups n).length = n := by unfold ups; rw [List.length_map, List.length_range]
    refine ⟨.int b, rfl, .ref ex, rfl, .int a, rfl, ex, _, a, a, rfl, rfl, upd_same, ixN_nat (by rw [List.length_map, hul]; exact han), ?_⟩
    rw [upd_upd]
    dsimp only
    refine ⟨.int a, rfl, .ref ex, rfl, .int b, rfl, ex, _, b, b, rfl, rfl, upd_same, ixN_nat (by rw [List.length_set, List.length_map, hul]; exact hbn), ?_⟩
    rw [upd_upd]
    have e6 : (((ups n).map V.int).set a (.int b)).set b (.int a) = (swapW n a b).map V.int := by
      unfold swapW
      rw [List.map_set, List.map_set]
    rw [e6]
    have s2 := same_new (o := .lst ((swapW n a b).map V.int)) nex
    have hex : upd H1 ex (.lst ((swapW n a b).map V.int)) ex = some (.lst ((swapW n a b).map V.int)) := upd_same
    have hst2 := s2 _ _ hst
    have s12 := s1.trans s2
    generalize upd H1 ex (.lst ((swapW n a b).map V.int)) = H2 at hex hst2 s12
    clear s1 s2 nex nst
    dsimp only
    refine ⟨by show 0 ≤ sizeLine; decide, fun en nen => ?_⟩
    have s3 := same_new (o := .lst []) nen
    have hen : upd H2 en (.lst []) en = some (.lst []) := upd_same
    have nexe : ex ≠ en := ne_of_none hex nen
    have nste : st ≠ en := ne_of_none hst2 nen
    have neno : ∀ b o, H b = some o → b ≠ en := fun b o hb => ne_of_none (s12 _ _ hb) nen
    have hex3 := s3 _ _ hex
    have hst3 := s3 _ _ hst2
    have s13 := s12.trans s3
    generalize upd H2 en (.lst []) = H3 at hen hex3 hst3 s13
    refine ⟨.int n, rfl, n, rfl, hn, fun H4 v s4 hv => ?_⟩
    obtain ⟨la, xs, rfl, hla, qx⟩ := Dq.tup_inv hv
    have hxl : xs.length = (allL n).length := by rw [qx.len, List.length_map]
    have hal := all_few n (by omega)
    have hen4 := s4 _ _ hen
    have nla : la ≠ en := ne_of hla hen4 (by intro z; cases z)
    refine ⟨la, rfl, ⟨xs, SqT.of hla⟩, for_it (walk_tup (K := K) (a := la) (xs := xs)) (fun i σ G => ∃ (v8 v9 : Option V) (acc : List V), σ = [some (.int n), some (.ref d), some (.ref qa), some (.int a), some (.int b), some (.ref st), some (.ref ex), some (.ref en), v8, v9, none] ∧
        (∀ b o, b ≠ en → H4 b = some o → G b = some o) ∧ G en = some (.lst acc) ∧ DqA G acc (((allL n).take i).map fun l => entD (byE l (if as.all (fun x => decide (x ∈ l)) = true then swapW n a b else ups n))))
      ⟨_, _, [], rfl, fun _ _ _ h => h, hen4, .nil⟩ (fun i σ G _ ⟨_, _, _, _, k, _⟩ => SqT.of (k _ _ nla hla)) ?_ ?_⟩
    · rintro i x σ G G' hi ⟨v8, v9, acc, rfl, k, hG, qac⟩ ⟨rfl, hx⟩
      obtain ⟨l, hl, lb, rfl, hlb⟩ := lots_get qx hx
      have nlb : lb ≠ en := ne_of hlb hen4 (by intro z; cases z)
      have hlb' := k _ _ nlb hlb
      have hq' := k _ _ (neno _ _ hq) (s4 _ _ (s13 _ _ hq))
      refine ⟨.ref qa, rfl, qa, rfl, ⟨_, SqT.of hq'⟩, fun D nD => ?_⟩
      refine lc_itF (walk_tup (K := K) (a := qa) (xs := lv as)) (fun i => .bool (decide (as.getD i 0 ∈ l))) nD (by rw [lv_len]; omega) (fun _ _ => rfl) (fun G s => SqT.of (s _ _ hq')) (fun j x G2 G2' C Cn hj s5 y c => ?_) (fun G3 bs s5 hD qb => ?_)
      · obtain ⟨rfl, hx⟩ := y
        obtain ⟨z, hz, rfl⟩ : ∃ z, as[j]? = some z ∧ V.int (z : Nat) = x := by
          unfold lv at hx
          rw [List.getElem?_map] at hx
          cases e : as[j]? with
          | none => rw [e] at hx; cases hx
          | some y => rw [e] at hx; exact ⟨y, rfl, Option.some.inj hx⟩
        rw [getD_of hz] at c
        refine ⟨rfl, ?_⟩
        dsimp only [tYes]
        rw [if_pos rfl]
        refine ⟨.int z, rfl, .ref lb, rfl, lb, lv l, rfl, .inr (SqT.of (s5 _ _ hlb')), rfl, lv_fl l, ?_⟩
        rw [inV_lot]
        exact c _ _ (Same.refl _) (.bl _)
      rw [lv_len, map_getD (fun z => PyData.bool (decide (z ∈ l)))] at qb
      have ebs : bs = (as.map fun z => decide (z ∈ l)).map V.bl := dqa_bools (by rw [List.map_map]; exact qb)
      subst ebs
      refine ⟨D, _, rfl, SqL.of hD, ?_⟩
      have eall : (as.map fun z => decide (z ∈ l)).all id = as.all (fun x => decide (x ∈ l)) := by rw [List.all_map]; rfl
      rw [eall]
      have hG3 := s5 _ _ hG
      have hlb3 := s5 _ _ hlb'
      have hst5 := s5 _ _ (k _ _ nste (s4 _ _ hst3))
      have hex5 := s5 _ _ (k _ _ nexe (s4 _ _ hex3))
      refine ⟨.ref en, rfl, .inl ⟨rfl, _, SqL.of hG3⟩, .ref lb, rfl, .bl _, rfl, _, rfl, ?_⟩
      have acl : acc.length = i := by
        rw [qac.len, List.length_map, List.length_take]
        omega
      have put : ∀ (G6 : Hp) (t : Addr) (ws : List Int), Same G3 G6 → ws = (if as.all (fun x => decide (x ∈ l)) = true then swapW n a b else ups n) → G6 t = some (.tup ((byE l ws).map V.int)) →
          (∀ b' o, b' ≠ en → H4 b' = some o → upd G6 en (.lst (acc ++ [.ref t])) b' = some o) ∧ upd G6 en (.lst (acc ++ [.ref t])) en = some (.lst (acc ++ [.ref t])) ∧
          DqA (upd G6 en (.lst (acc ++ [.ref t]))) (acc ++ [.ref t]) (((allL n).take (i + 1)).map fun l => entD (byE l (if as.all (fun x => decide (x ∈ l)) = true then swapW n a b else ups n))) := fun G6 t ws s6 ew ht => by
        have ts : TS G6 (upd G6 en (.lst (acc ++ [.ref t]))) := TS.lst (s6 _ _ hG3)
        refine ⟨fun b' o hb ho => ?_, upd_same, ?_⟩
        · rw [upd_ne hb]
          exact s6 _ _ (s5 _ _ (k _ _ hb ho))
        · rw [take_snoc hl]
          refine dqa_snoc (DqA.upT ts (flatTA_of fun d hd => ?_) ((qac.up s5).up s6)) (Dq.upT ts (ent_flat _) (ent_at ?_))
          · obtain ⟨l', _, rfl⟩ := List.mem_map.mp hd
            exact ent_flat _
          · rw [← ew]
            exact ht
      cases hc : as.all (fun x => decide (x ∈ l)) with
      | true =>
        rw [hc] at put
        refine iteT ⟨.ref ex, rfl, lb, ex, l, swapW n a b, rfl, hlb3, hex5, by unfold swapW; rw [List.length_set, List.length_set, hul]; omega, fun G6 t s6 ht => ?_⟩
        obtain ⟨p1, p2, p3⟩ := put G6 t (swapW n a b) s6 rfl ht
        exact ⟨en, acc, .ref t, rfl, rfl, s6 _ _ hG3, szl (by omega), _, _, _, rfl, p1, p2, p3⟩
      | false =>
        rw [hc] at put
        refine iteF ⟨.ref st, rfl, lb, st, l, ups n, rfl, hlb3, hst5, by rw [hul]; omega, fun G6 t s6 ht => ?_⟩
        obtain ⟨p1, p2, p3⟩ := put G6 t (ups n) s6 rfl ht
        exact ⟨en, acc, .ref t, rfl, rfl, s6 _ _ hG3, szl (by omega), _, _, _, rfl, p1, p2, p3⟩
    · rintro σ G ⟨v8, v9, acc, rfl, k, hG, qac⟩
      rw [hxl, List.take_length] at qac
      refine ⟨.ref en, rfl, en, acc, rfl, .inl ⟨SqL.of hG, fun t nt => q _ _ (fun b' o hb => same_new nt _ _ (k _ _ (neno _ _ hb) (s4 _ _ (s13 _ _ hb)))) (.tup upd_same ?_)⟩⟩
      unfold deedT
      rw [List.map_map]
      exact qac.up (same_new nt)
end
end Kr
namespace Kr
open PySem PySem.Spec PyProof.Rows L2
section
variable {P : Program} {w : World} {K : PySem.W.Frag} {mg : Str → Option Value} {base : Heap}
theorem rep_one (v : V) (k : Nat) : (List.replicate k [v]).flatten = List.replicate k v := by
  induction k with
  | zero => rfl
  | succ k ih => rw [List.replicate_succ, List.flatten_cons, ih]; rfl
abbrev nTb : List Str := ["entry", "back", "place", "way"]
theorem o_turnedBack (D0 : Df K mg "turned_back" sTurnedBack ["entry"]) (B : Bi mg) : Ok P w K mg base 1 "turned_back" ["entry"] spTurnB := by
  have scTb : FnScope nTb ["entry"] (defScope sTurnedBack) := ⟨rfl, rfl, rfl, by decide +kernel, rfl, by decide +kernel, by decide +kernel⟩
  refine D0.ok fun f fd F => F.ok scTb (fun vs H Q E h => ?_) (fun cdv A outer s H vs Q E hr h => ?_)
  · obtain ⟨n, a, l, e, rfl, _⟩ := h
    rfl
  · obtain ⟨n, a, l, e, rfl, hn, ha, hE, q⟩ := h
    have hel := hE.len
    refine ⟨_, pss_cons (ps_set (i := 1) scTb.nd rfl (.inl rfl) (pe_op op_rep (pe_lst (pa_cons (pe_un un_neg pe_int) pa_nil)) (pe_callB call_len_seq (by rfl) B.len boot_len (pa_cons (pv 0) pa_nil))))
      (pss_cons (ps_for PassesOwn.never rfl (pi_enumT (by rfl) B.enumerate (pa_cons (pv 0) pa_nil)) (pg_tup rfl (pgs_cons (pg_name (i := 2) scTb.nd rfl (.inl rfl)) (pgs_cons (pg_name (i := 3) scTb.nd rfl (.inl rfl)) pgs_nil)))
        (pss_one (ps_if (pt_cmpR op_ne (pv 3) (pe_un un_neg pe_int) (nomark _)) (pss_one (ps_asg (pv 2) (pg_sub (pv 1) (pv 3) set_list))) pss_nil)))
      (pss_one (ps_ret (pe_callTy call_tuple_of (by rfl) B.tuple (by decide +kernel) (pa_cons (pv 1) pa_nil))))), ?_⟩
    refine ⟨1, rfl, by show 1 ≤ sizeLine; decide, fun l1 nl1 => ?_⟩
    have s1 := same_new (o := .lst [.int (-1)]) nl1
    refine ⟨.ref a, rfl, a, _, rfl, .inr (SqT.of (s1 _ _ ha)), ?_⟩
    rw [List.length_map, hel]
    refine ⟨l1, (n : Int), [.int (-1)], rfl, rfl, upd_same, by omega, by omega, by show 1 * _ ≤ sizeLine; exact sz (by omega), fun fo nfo => ?_⟩
    rw [Int.toNat_natCast, rep_one]
    have s2 := same_new (o := .lst (List.replicate n (V.int (-1)))) nfo
    have hfo : upd (upd H l1 (.lst [.int (-1)])) fo (.lst (List.replicate n (V.int (-1)))) fo = some (.lst ((List.replicate n (-1)).map V.int)) := by rw [upd_same, List.map_replicate]
    have s12 := s1.trans s2
    have nf : ∀ b o, H b = some o → b ≠ fo := fun b o hb => ne_of_none (s1 _ _ hb) nfo
    generalize upd (upd H l1 (.lst [.int (-1)])) fo (.lst (List.replicate n (V.int (-1)))) = H2 at hfo s12
    refine ⟨.ref a, rfl, a, _, rfl, SqT.of (s12 _ _ ha), for_it walk_enumT (fun i σ G => ∃ (acc : List Int) (v3 v4 : Option V), σ = [some (.ref a), some (.ref fo), v3, v4] ∧ (∀ b o, H b = some o → G b = some o) ∧ G fo = some (.lst (acc.map V.int)) ∧ acc.length = n ∧ setGo i (e.drop i) acc = lawE n e)
      ⟨_, none, none, rfl, s12, hfo, List.length_replicate, rfl⟩ (fun i σ G _ ⟨_, _, _, _, k, _⟩ => SqT.of (k _ _ ha)) ?_ ?_⟩
    · rintro i _ σ G _ hi ⟨acc, v3, v4, rfl, k, hG, hal, eg⟩ ⟨T, x1, x2, rfl, nT, rfl, e1, e2⟩
      cases Option.some.inj e1
      rw [List.length_map] at hi
      have e3 : x2 = .int (e.getD i 0) := by
        have e4 : (e.map V.int)[i]? = some x2 := e2
        rw [List.getElem?_map, getD_get hi] at e4
        exact (Option.some.inj e4).symm
      subst e3
      have ed : e.drop i = e.getD i 0 :: e.drop (i + 1) := by
        rw [List.drop_eq_getElem_cons hi, List.getD_eq_getElem?_getD, List.getElem?_eq_getElem hi]
        rfl
      rw [ed] at eg
      have hz : e.getD i 0 = -1 ∨ (0 ≤ e.getD i 0 ∧ e.getD i 0 < n) := by
        by_cases c : i ∈ l
        · exact .inl (hE.key i (by omega) c)
        · exact .inr (hE.rid i (by omega) c)
      generalize e.getD i 0 = z at eg hz
      have sT := same_new (o := .tup [.int (i : Nat), .int z]) nT
      have hGT := sT _ _ hG
      simp only [setGo] at eg
      refine ⟨T, [.int (i : Nat), .int z], rfl, SqT.of upd_same, rfl, .int (i : Nat), [.int z], rfl, .int z, [], rfl, rfl, ?_⟩
      refine ⟨.int z, rfl, 1, rfl, rfl, _, rfl, ?_⟩
      by_cases hc : z = -1
      · rw [decide_eq_true (show V.int z = V.int (-1) by rw [hc])]
        rw [if_neg (by omega)] at eg
        exact iteF ⟨acc, _, _, rfl, fun b o hb => sT _ _ (k _ _ hb), hGT, hal, eg⟩
      · rw [decide_eq_false (fun y => hc (V.int.inj y))]
        rw [if_pos (by omega)] at eg
        obtain ⟨m, rfl⟩ : ∃ m : Nat, z = m := ⟨z.toNat, by omega⟩
        rw [Int.toNat_natCast] at eg
        refine iteT ⟨.int (i : Nat), rfl, .ref fo, rfl, .int m, rfl, fo, _, m, m, rfl, rfl, hGT, ixN_nat (by rw [List.length_map, hal]; omega), acc.set m (i : Int), _, _, rfl, fun b o hb => ?_, ?_, by rw [List.length_set]; exact hal, eg⟩
        · rw [upd_ne (nf b o hb)]
          exact sT _ _ (k _ _ hb)
        · rw [upd_same, List.map_set]
    · rintro σ G ⟨acc, v3, v4, rfl, k, hG, hal, eg⟩
      rw [List.length_map, List.drop_of_length_le (Nat.le_refl _)] at eg
      have ea : acc = lawE n e := eg
      rw [ea] at hG
      exact ⟨.ref fo, rfl, fo, _, rfl, .inl ⟨SqL.of hG, fun t nt => q _ t (fun b o hb => same_new nt _ _ (k _ _ hb)) upd_same⟩⟩
end
end Kr
namespace Kr
open PySem PySem.Spec PyProof.Rows L2
section
variable {P : Program} {w : World} {K : PySem.W.Frag} {mg : Str → Option Value} {base : Heap}
abbrev nUn : List Str := ["n", "table", "entries", "aim", "entry"]
theorem scUn : FnScope nUn ["n", "table"] (defScope sUndone) := ⟨rfl, rfl, rfl, by decide +kernel, rfl, by decide +kernel, by decide +kernel⟩
theorem f_undone {f : Addr} {fd : FuncData} (F : Fun K "undone" "undone" sUndone f fd) (B : Bi mg) (ai : Ok P w K mg base 4 "aims_of" ["n", "table"] spAims) (tb : Ok P w K mg base 1 "turned_back" ["entry"] spTurnB) : FnOk P w K mg base CX0 5 f fd ["n", "table"] spUndone := by
  refine F.ok scUn (fun vs H Q E h => ?_) (fun cdv A outer s H vs Q E hr h => ?_)
  · obtain ⟨n, v, T, rfl, _⟩ := h
    rfl
  · obtain ⟨n, v, T, rfl, hn, hv, hT, q⟩ := h
    have hr1 := hr.mono (show 1 ≤ 4 by decide)
    refine ⟨_, pss_cons (ps_set (i := 2) scUn.nd rfl (.inl rfl) (pe_op op_rep (pe_lst (pa_cons (pe_tup pa_nil) pa_nil)) (pe_callB call_len_seq (by rfl) B.len boot_len (pa_cons (pv 1) pa_nil))))
      (pss_cons (ps_for PassesOwn.never rfl (pi_zipM (by rfl) B.zip (pa_cons (pe_fn ai hr (by rfl) (pa_cons (pv 0) (pa_cons (pv 1) pa_nil))) (pa_cons (pv 1) pa_nil))) (pg_tup rfl (pgs_cons (pg_name (i := 3) scUn.nd rfl (.inl rfl)) (pgs_cons (pg_name (i := 4) scUn.nd rfl (.inl rfl)) pgs_nil)))
        (pss_one (ps_asg (pe_fn tb hr1 (by rfl) (pa_cons (pv 4) pa_nil)) (pg_sub (pv 2) (pv 3) set_list))))
      (pss_one (ps_ret (pe_callTy call_tuple_of (by rfl) B.tuple (by decide +kernel) (pa_cons (pv 2) pa_nil))))), ?_⟩
    obtain ⟨hTl, hTe, hT2, _⟩ := hT.both_in hn
    have hp64 : 2 ^ n ≤ 64 := by have := all_few n (by omega); rw [all_len n (by omega)] at this; exact this
    refine ⟨by show 0 ≤ sizeLine; decide, fun e ne => ⟨by show 1 ≤ sizeLine; decide, fun l1 nl1 => ?_⟩⟩
    have s1 := same_new (o := .tup []) ne
    have he := (same_new (o := .lst [.ref e]) nl1) _ _ (show upd H e (.tup []) e = some (.tup []) from upd_same)
    have s2 := s1.trans (same_new (o := .lst [.ref e]) nl1)
    have hl1 : upd (upd H e (.tup [])) l1 (.lst [.ref e]) l1 = some (.lst [.ref e]) := upd_same
    generalize upd (upd H e (.tup [])) l1 (.lst [.ref e]) = H1 at he s2 hl1
    have hv1 := hv.up s2
    obtain ⟨va, xs, rfl, hva, qx⟩ := Dq.tup_inv hv1
    have hxl : xs.length = 2 ^ n := by rw [qx.len, List.length_map, hT2]
    refine ⟨.ref va, rfl, va, _, rfl, .inr (SqT.of hva), ?_⟩
    rw [hxl]
    refine ⟨l1, ((2 ^ n : Nat) : Int), [.ref e], rfl, rfl, hl1, by omega, by omega, by show 1 * _ ≤ sizeLine; exact sz (by omega), fun en nen => ?_⟩
    rw [Int.toNat_natCast, rep_one]
    have s3 := same_new (o := .lst (List.replicate (2 ^ n) (V.ref e))) nen
    have hen : upd H1 en (.lst (List.replicate (2 ^ n) (V.ref e))) en = some (.lst (List.replicate (2 ^ n) (V.ref e))) := upd_same
    have q0 : DqA (upd H1 en (.lst (List.replicate (2 ^ n) (V.ref e)))) (List.replicate (2 ^ n) (V.ref e)) (List.replicate (2 ^ n) (.tuple [])) := DqA.rep (.tup (s3 _ _ he) .nil) _
    have s13 := s2.trans s3
    have nf : ∀ b o, H b = some o → b ≠ en := fun b o hb => ne_of_none (s2 _ _ hb) nen
    have hv3 := hv.up s13
    generalize upd H1 en (.lst (List.replicate (2 ^ n) (V.ref e))) = H3 at s3 hen q0 s13 hv3
    refine ⟨.int n, rfl, .ref va, rfl, n, .ref va, T, rfl, hn, hv3, hTl, fun e he => (hTe e he).1, fun H4 ad s4 nad had => ?_⟩
    have hen4 := s4 _ _ hen
    have hva4 := s4 _ _ (s3 _ _ hva)
    have qx4 := (qx.up s3).up s4
    have q4 := q0.up s4
    have nva : va ≠ en := ne_of hva4 hen4 (by intro z; cases z)
    have nad2 : ad ≠ en := (ne_of_none hen nad).symm
    have hail : ((aimsT n T).map V.int).length = T.length := by unfold aimsT; rw [List.length_map, List.length_map]
    refine ⟨.ref va, rfl, ad, va, _, xs, rfl, SqL.of had, SqT.of hva4, for_it (walk_zlt (n := T.length) (by omega)) (fun i σ G => ∃ (v3 v4 : Option V) (acc : List V), σ = [some (.int n), some (.ref va), some (.ref en), v3, v4] ∧
        (∀ b o, b ≠ en → H4 b = some o → G b = some o) ∧ G en = some (.lst acc) ∧ DqA G acc (putAll ((T.take i).map (backP n)) (List.replicate (2 ^ n) (.tuple []))))
      ⟨_, _, _, rfl, fun _ _ _ h => h, hen4, q4⟩ (fun i σ G _ ⟨_, _, _, _, k, _⟩ => ⟨SqL.of (k _ _ nad2 had), SqT.of (k _ _ nva hva4)⟩) ?_ ?_⟩
    · rintro i _ σ G _ hi ⟨v3, v4, acc, rfl, k, hG, qac⟩ ⟨t0, x1, x2, rfl, nt0, rfl, e1, e2⟩
      obtain ⟨en0, he0, ea, rfl, hea⟩ := ents_get qx4 e2
      have e3 : x1 = .int ((num n (goalE n en0) : Nat) : Int) := by
        have e4 : ((aimsT n T).map V.int)[i]? = some x1 := e1
        unfold aimsT at e4
        rw [List.getElem?_map, List.getElem?_map, he0] at e4
        exact (Option.some.inj e4).symm
      subst e3
      have st0 := same_new (o := .tup [.int ((num n (goalE n en0) : Nat) : Int), .ref ea]) nt0
      have nea : ea ≠ en := ne_of hea hen4 (by intro z; cases z)
      have hea' := st0 _ _ (k _ _ nea hea)
      obtain ⟨l, hl, hE⟩ := hT.mem hn (List.mem_of_getElem? he0)
      have hnum := all_num hn (goal_all hn en0)
      refine ⟨t0, [.int ((num n (goalE n en0) : Nat) : Int), .ref ea], rfl, SqT.of upd_same, rfl, .int ((num n (goalE n en0) : Nat) : Int), [.ref ea], rfl, .ref ea, [], rfl, rfl, ?_⟩
      refine ⟨.ref ea, rfl, n, ea, l, en0, rfl, hn, hea', hE, fun G2 t s5 ht => ?_⟩
      have hG2 := s5 _ _ (st0 _ _ hG)
      have acl : acc.length = 2 ^ n := by rw [qac.len, putAll_len, List.length_replicate]
      have ts : TS G2 (upd G2 en (.lst (acc.set (num n (goalE n en0)) (.ref t)))) := TS.lst hG2
      refine ⟨.ref en, rfl, .int ((num n (goalE n en0) : Nat) : Int), rfl, en, acc, _, num n (goalE n en0), rfl, rfl, hG2, ixN_nat (by omega), _, _, _, rfl, fun b o hb ho => ?_, upd_same, ?_⟩
      · rw [upd_ne hb]
        exact s5 _ _ (st0 _ _ (k _ _ hb ho))
      · rw [take_snoc he0, putAll_snoc]
        exact DqA.set (Dq.upT ts (ent_flat _) (ent_at ht)) _ (DqA.upT ts (put_flat _ _ _) ((qac.up st0).up s5))
    · rintro σ G ⟨v3, v4, acc, rfl, k, hG, qac⟩
      rw [List.take_length, turn_put hn hT] at qac
      exact ⟨.ref en, rfl, en, acc, rfl, .inl ⟨SqL.of hG, fun t nt => q _ _ (fun b' o hb => same_new nt _ _ (k _ _ (nf _ _ hb) (s4 _ _ (s13 _ _ hb)))) (.tup upd_same (qac.up (same_new nt)))⟩⟩
end
end Kr
namespace Kr
open PySem PySem.Spec PyProof.Rows L2
/-! ### pairs: a lot's number, a place -/
abbrev pK (p : Pr) : List Key := [.inl (p.1 : Int), .inl (p.2 : Int)]
abbrev pV (p : Pr) : List V := [.int (p.1 : Int), .int (p.2 : Int)]
theorem pK_v (p : Pr) : (pK p).map kV = pV p := rfl
theorem pK_inj {p q : Pr} (h : pK p = pK q) : p = q := by
  obtain ⟨a, b⟩ := p
  obtain ⟨c, d⟩ := q
  simp only [pK, List.cons.injEq, Sum.inl.injEq, and_true] at h
  exact Prod.ext (by show a = c; omega) (by show b = d; omega)
structure StepsAt (n : Nat) (T : List (List Int)) (H : Hp) (kvs : List (List Key × V)) : Prop where
  keys : ∀ kv ∈ kvs, ∃ p ∈ prs n, kv.1 = pK p
  val : ∀ p ∈ prs n, ∃ a, valV kvs (pK p) = some (.ref a) ∧ H a = some (.tup (pV (stp n T p)))
  len : kvs.length ≤ 1000
theorem StepsAt.up {n : Nat} {T : List (List Int)} {H H' : Hp} {kvs : List (List Key × V)} (h : StepsAt n T H kvs) (s : TS H H') : StepsAt n T H' kvs := ⟨h.keys, fun p hp => let ⟨a, x, y⟩ := h.val p hp; ⟨a, x, s _ _ y⟩, h.len⟩
theorem putK_keys {kvs : List (List Key × V)} {k : List Key} {v : V} {P : List Key → Prop} (h : ∀ kv ∈ kvs, P kv.1) (hk : P k) : ∀ kv ∈ putK kvs k v, P kv.1 := by
  intro kv hkv
  unfold putK at hkv
  split at hkv
  · obtain ⟨x, hx, rfl⟩ := List.mem_map.mp hkv
    split
    · exact h x hx
    · exact h x hx
  · rcases List.mem_append.mp hkv with c | c
    · exact h kv c
    · rw [List.mem_singleton.mp c]
      exact hk
theorem valV_mem {kvs : List (List Key × V)} {k : List Key} {v : V} (h : valV kvs k = some v) : ∃ i : Nat, kvs[i]? = some (k, v) := by
  unfold valV at h
  obtain ⟨kv, h1, h2⟩ := Option.map_eq_some_iff.mp h
  have h3 := List.find?_some h1
  simp only [decide_eq_true_eq] at h3
  obtain ⟨i, hi⟩ := List.getElem?_of_mem (List.mem_of_find?_eq_some h1)
  refine ⟨i, ?_⟩
  rw [hi, ← h3, ← h2]
def spSteps : Sp := fun vs H Q _ => ∃ (n : Nat) (v : V) (T : List (List Int)), vs = [.int (n : Int), v] ∧ n ≤ 6 ∧ Dq H v (tabD T) ∧ TabOk n T ∧ ∀ H' p kvs, Same H H' → H p = none → H' p = some (.dT kvs) → StepsAt n T H' kvs → Q (.ref p) H'
section
variable {P : Program} {w : World} {K : PySem.W.Frag} {mg : Str → Option Value} {base : Heap}
abbrev nSo : List Str := ["n", "table", "aims", "steps", "number", "entry", "place", "way"]
theorem o_steps (D0 : Df K mg "steps_of" sStepsOf ["n", "table"]) (B : Bi mg) (ai : Ok P w K mg base 4 "aims_of" ["n", "table"] spAims) : Ok P w K mg base 5 "steps_of" ["n", "table"] spSteps := by
  have scSo : FnScope nSo ["n", "table"] (defScope sStepsOf) := ⟨rfl, rfl, rfl, by decide +kernel, rfl, by decide +kernel, by decide +kernel⟩
  refine D0.ok fun f fd F => F.ok scSo (fun vs H Q E h => ?_) (fun cdv A outer s H vs Q E hr h => ?_)
  · obtain ⟨n, v, T, rfl, _⟩ := h
    rfl
  · obtain ⟨n, v, T, rfl, n1, hv, okT, q⟩ := h
    have hu1 := hu_of hr
    refine ⟨_, pss_cons (ps_set (i := 2) scSo.nd rfl (.inl rfl) (pe_fn ai hr (by rfl) (pa_cons (pv 0) (pa_cons (pv 1) pa_nil))))
      (pss_cons (ps_set (i := 3) scSo.nd rfl (.inl rfl) pe_dnewT)
      (pss_cons (ps_for PassesOwn.never rfl (pi_enumT (by rfl) B.enumerate (pa_cons (pv 1) pa_nil)) (pg_tup rfl (pgs_cons (pg_name (i := 4) scSo.nd rfl (.inl rfl)) (pgs_cons (pg_name (i := 5) scSo.nd rfl (.inl rfl)) pgs_nil)))
        (pss_one (ps_for PassesOwn.never rfl (pi_enumT (by rfl) B.enumerate (pa_cons (pv 5) pa_nil)) (pg_tup rfl (pgs_cons (pg_name (i := 6) scSo.nd rfl (.inl rfl)) (pgs_cons (pg_name (i := 7) scSo.nd rfl (.inl rfl)) pgs_nil)))
          (pss_one (ps_if (pt_cmpR op_ne (pv 7) (pe_un un_neg pe_int) (nomark _)) (pss_one (ps_dput hu1 (pv 3) (pe_tup (pa_cons (pv 4) (pa_cons (pv 6) pa_nil))) (pe_tup (pa_cons (pe_ix ix_list (pv 2) (pv 4) (fun _ _ => rfl)) (pa_cons (pv 7) pa_nil))) rfl)) pss_nil)))))
      (pss_one (ps_ret (pv 3))))), ?_⟩
    obtain ⟨hT1, hT2, hT3, hT4⟩ := okT.both_in n1
    refine ⟨.int n, rfl, v, rfl, n, v, T, rfl, n1, hv, hT1, fun e he => (hT2 e he).1, fun H1 ad s1 nad had => ?_⟩
    have hv1 := hv.up s1
    obtain ⟨va, xs, rfl, hva, qx⟩ := Dq.tup_inv hv1
    have hxl : xs.length = 2 ^ n := by rw [qx.len, List.length_map, hT3]
    have hp64 : 2 ^ n ≤ 64 := by have := all_few n (by omega); rw [all_len n (by omega)] at this; exact this
    have hai : (aimsT n T).length = 2 ^ n := by unfold aimsT; rw [List.length_map, hT3]
    try dsimp only [tNext]
    refine fun D nD => ?_
    have s2 := same_new (o := .dT []) nD
    have hD : upd H1 D (.dT []) D = some (.dT []) := upd_same
    have nf : ∀ b o, H b = some o → b ≠ D := fun b o hb => ne_of_none (s1 _ _ hb) nD
    have s12 := s1.trans s2
    have hva2 := s2 _ _ hva
    have had2 := s2 _ _ had
    have qx2 := qx.up s2
    have nD0 := s1.free nD
    generalize upd H1 D (.dT []) = H2 at hD s12 hva2 had2 qx2
    clear s2 nD hva had qx hv1 nad
    have nva : va ≠ D := ne_of hva2 hD (by intro z; cases z)
    have nad : ad ≠ D := ne_of had2 hD (by intro z; cases z)
    try dsimp only [tNext]
    refine ⟨.ref va, rfl, va, _, rfl, SqT.of hva2, for_it walk_enumT (fun i σ G => ∃ (v4 v5 v6 v7 : Option V) (kvs : List (List Key × V)), σ = [some (.int n), some (.ref va), some (.ref ad), some (.ref D), v4, v5, v6, v7] ∧ (∀ b o, b ≠ D → H2 b = some o → G b = some o) ∧ G D = some (.dT kvs) ∧ kvs.length ≤ 6 * i ∧
        (∀ kv ∈ kvs, ∃ p ∈ prs n, kv.1 = pK p) ∧ ∀ p ∈ prs n, p.1 < i → ∃ a, valV kvs (pK p) = some (.ref a) ∧ G a = some (.tup (pV (stp n T p))))
      ⟨_, _, _, _, [], rfl, fun _ _ _ h => h, hD, Nat.zero_le _, (fun _ h => nomatch h), fun _ _ h => absurd h (Nat.not_lt_zero _)⟩ (fun i σ G _ ⟨_, _, _, _, _, _, k, _⟩ => SqT.of (k _ _ nva hva2)) ?_ ?_⟩
    · rintro i _ σ G _ hi ⟨v4, v5, v6, v7, kvs, rfl, k, hG, hkl, hky, hkv⟩ ⟨t, x, y, rfl, nt, rfl, e1, e2⟩
      cases Option.some.inj e1
      obtain ⟨e, he, ea, rfl, hea⟩ := ents_get qx2 e2
      have hi2 : i < 2 ^ n := by omega
      have eT : T.getD i [] = e := getD_of he
      have hE := okT.at_i n1 hi2
      rw [eT] at hE
      have nea : ea ≠ D := ne_of hea hD (by intro z; cases z)
      have st := same_new (o := .tup [.int (i : Nat), .ref ea]) nt
      refine ⟨t, [.int (i : Nat), .ref ea], rfl, SqT.of upd_same, rfl, .int (i : Nat), [.ref ea], rfl, .ref ea, [], rfl, rfl, ?_⟩
      have k1 : ∀ b o, b ≠ D → H2 b = some o → upd G t (.tup [.int (i : Nat), .ref ea]) b = some o := fun b o h1 h2 => st _ _ (k _ _ h1 h2)
      have hG1 := st _ _ hG
      have hkv1 : ∀ p ∈ prs n, p.1 < i → ∃ a, valV kvs (pK p) = some (.ref a) ∧ upd G t (.tup [.int (i : Nat), .ref ea]) a = some (.tup (pV (stp n T p))) := fun p hp hpi => let ⟨a, x, y⟩ := hkv p hp hpi; ⟨a, x, st _ _ y⟩
      generalize upd G t (.tup [.int (i : Nat), .ref ea]) = G1 at k1 hG1 hkv1
      clear st nt hG k hkv
      have hea1 := k1 _ _ nea hea
      refine ⟨.ref ea, rfl, ea, _, rfl, SqT.of hea1, for_it walk_enumT (fun j σ G => ∃ (v6 v7 : Option V) (kvs : List (List Key × V)), σ = [some (.int n), some (.ref va), some (.ref ad), some (.ref D), some (.int i), some (.ref ea), v6, v7] ∧ (∀ b o, b ≠ D → G1 b = some o → G b = some o) ∧ G D = some (.dT kvs) ∧ kvs.length ≤ 6 * i + j ∧
          (∀ kv ∈ kvs, ∃ p ∈ prs n, kv.1 = pK p) ∧ ∀ p ∈ prs n, (p.1 < i ∨ p.1 = i ∧ p.2 < j) → ∃ a, valV kvs (pK p) = some (.ref a) ∧ G a = some (.tup (pV (stp n T p))))
        ⟨_, _, kvs, rfl, fun _ _ _ h => h, hG1, by omega, hky, fun p hp h => hkv1 p hp (h.elim (fun z => z) fun z => absurd z.2 (Nat.not_lt_zero _))⟩ (fun j σ G _ ⟨_, _, _, _, k, _⟩ => SqT.of (k _ _ nea hea1)) ?_ ?_⟩
      · rintro j _ σ G2 _ hj ⟨v6, v7, kvs, rfl, k, hG, hkl, hky, hkv⟩ ⟨t, x, y, rfl, nt, rfl, e1, e3⟩
        cases Option.some.inj e1
        rw [List.length_map] at hj
        have hjn : j < n := by rw [← hE.len]; exact hj
        have ey : y = .int (e.getD j 0) := by
          have e4 : (e.map V.int)[j]? = some y := e3
          rw [List.getElem?_map, getD_get hj] at e4
          exact (Option.some.inj e4).symm
        subst ey
        have hz := hE.key j hjn
        have hz2 := hE.rid j hjn
        have hst : stp n T (i, j) = (num n (goalE n e), (e.getD j 0).toNat) := by
          unfold stp
          rw [eT]
        generalize e.getD j 0 = z at hz hz2 hst
        have st := same_new (o := .tup [.int (j : Nat), .int z]) nt
        refine ⟨t, [.int (j : Nat), .int z], rfl, SqT.of upd_same, rfl, .int (j : Nat), [.int z], rfl, .int z, [], rfl, rfl, ?_⟩
        refine ⟨.int z, rfl, 1, rfl, rfl, _, rfl, ?_⟩
        by_cases hm : j ∈ lotI n i
        · rw [decide_eq_true (show V.int z = V.int (-1) by rw [hz hm])]
          refine iteF ⟨_, _, kvs, rfl, fun b o h1 h2 => st _ _ (k _ _ h1 h2), st _ _ hG, by omega, hky, fun p hp h => ?_⟩
          obtain ⟨a, x, y⟩ := hkv p hp (by
            rcases h with h | ⟨h1, h2⟩
            · exact .inl h
            · refine .inr ⟨h1, ?_⟩
              by_cases c : p.2 = j
              · have := (mem_prs.mp hp).2.2
                rw [h1, c] at this
                exact absurd hm this
              · omega)
          exact ⟨a, x, st _ _ y⟩
        · obtain ⟨z0, z1⟩ := hz2 hm
          obtain ⟨m, rfl⟩ : ∃ m : Nat, z = m := ⟨z.toNat, by omega⟩
          rw [decide_eq_false (show ¬ V.int (m : Int) = V.int (-1) from fun y => by have := V.int.inj y; omega)]
          have hpr : (i, j) ∈ prs n := mem_prs.mpr ⟨hi2, hjn, hm⟩
          rw [Int.toNat_natCast] at hst
          have haim : ((aimsT n T).map V.int)[i]? = some (.int ((num n (goalE n e) : Nat) : Int)) := by
            unfold aimsT
            rw [List.getElem?_map, List.getElem?_map, he]
            rfl
          have had3 := st _ _ (k _ _ nad (k1 _ _ nad had2))
          refine iteT ⟨.ref ad, rfl, .int i, rfl, ad, _, i, _, rfl, rfl, SqL.of had3, atI_nat haim, .int m, rfl, by show 2 ≤ sizeLine; decide, fun a na => ?_⟩
          have sa := same_new (o := .tup [.int ((num n (goalE n e) : Nat) : Int), .int m]) na
          refine ⟨.ref D, rfl, .int i, rfl, .int j, rfl, by show 2 ≤ sizeLine; decide, fun c nc => ?_⟩
          have sc := same_new (o := .tup [.int i, .int j]) nc
          have hc : upd (upd (upd G2 t (.tup [.int (j : Nat), .int m])) a (.tup [.int ((num n (goalE n e) : Nat) : Int), .int m])) c (.tup [.int i, .int j]) c = some (.tup ((pK (i, j)).map kV)) := upd_same
          have ha := sc _ _ (show upd (upd G2 t (.tup [.int (j : Nat), .int m])) a (.tup [.int ((num n (goalE n e) : Nat) : Int), .int m]) a = some (.tup [.int ((num n (goalE n e) : Nat) : Int), .int m]) from upd_same)
          have s3 := st.trans (sa.trans sc)
          have hG3 := s3 _ _ hG
          generalize upd (upd (upd G2 t (.tup [.int (j : Nat), .int m])) a (.tup [.int ((num n (goalE n e) : Nat) : Int), .int m])) c (.tup [.int i, .int j]) = G3 at s3 hG3 hc ha
          refine ⟨D, _, rfl, DPut.t hG3 hc (szl (by omega)), ?_⟩
          have ts : TS G3 (upd G3 D (.dT (putK kvs (pK (i, j)) (.ref a)))) := fun b ys hb => by
            rw [upd_ne (ne_of hb hG3 (by intro z; cases z))]
            exact hb
          have hlp := length_putK kvs (pK (i, j)) (V.ref a)
          refine ⟨_, _, putK kvs (pK (i, j)) (.ref a), rfl, fun b o h1 h2 => ?_, upd_same, by omega, putK_keys (P := fun k => ∃ p ∈ prs n, k = pK p) hky ⟨(i, j), hpr, rfl⟩, fun p hp h => ?_⟩
          · rw [upd_ne h1]
            exact s3 _ _ (k _ _ h1 h2)
          · rw [valV_put]
            by_cases ep : p = (i, j)
            · subst ep
              rw [if_pos rfl, hst]
              exact ⟨a, rfl, ts _ _ ha⟩
            · rw [if_neg fun z => ep (pK_inj z)]
              obtain ⟨a', x, y⟩ := hkv p hp (by
                rcases h with h | ⟨h1, h2⟩
                · exact .inl h
                · refine .inr ⟨h1, ?_⟩
                  have : p.2 ≠ j := fun z => ep (Prod.ext h1 z)
                  omega)
              exact ⟨a', x, ts _ _ (s3 _ _ y)⟩
      · rintro σ G ⟨v6, v7, kvs, rfl, k, hG, hkl, hky, hkv⟩
        rw [List.length_map, hE.len] at hkl
        refine ⟨_, _, _, _, kvs, rfl, fun b o h1 h2 => k _ _ h1 (k1 _ _ h1 h2), hG, by omega, hky, fun p hp h => hkv p hp ?_⟩
        by_cases c : p.1 < i
        · exact .inl c
        · refine .inr ⟨by omega, ?_⟩
          rw [List.length_map, hE.len]
          exact (mem_prs.mp hp).2.1
    · rintro σ G ⟨v4, v5, v6, v7, kvs, rfl, k, hG, hkl, hky, hkv⟩
      exact ⟨.ref D, rfl, q G D kvs (fun b o hb => k _ _ (nf _ _ hb) (s12 _ _ hb)) nD0 hG ⟨hky, fun p hp => hkv p hp (by rw [hxl]; exact (mem_prs.mp hp).1), by omega⟩⟩
end
end Kr
namespace Kr
open PySem PySem.Spec PyProof.Rows L2
/-! ### the heap without some lists and dicts that change -/
def hidS (S : List Addr) (H : Hp) : Hp := fun b => if b ∈ S then none else H b
theorem hidS_ne {S : List Addr} {b : Addr} {H : Hp} (h : b ∉ S) : hidS S H b = H b := by
  unfold hidS
  rw [if_neg h]
theorem hidS_some {S : List Addr} {b : Addr} {H : Hp} {o : HO} (h : hidS S H b = some o) : b ∉ S ∧ H b = some o := by
  unfold hidS at h
  by_cases e : b ∈ S
  · rw [if_pos e] at h
    cases h
  · rw [if_neg e] at h
    exact ⟨e, h⟩
theorem hidS_same (S : List Addr) (H : Hp) : Same (hidS S H) H := fun _ _ h => (hidS_some h).2
theorem hidS_up {S : List Addr} {H H' : Hp} (s : Same H H') : Same (hidS S H) (hidS S H') := fun b o h => by
  obtain ⟨h1, h2⟩ := hidS_some h
  rw [hidS_ne h1]
  exact s _ _ h2
theorem hidS_ext {S : List Addr} {p l : Addr} {H H' : Hp} (hp : p ∈ S) (hl : l ∈ S) (e : Ext p l H H') : Same (hidS S H) (hidS S H') := fun b o h => by
  obtain ⟨h1, h2⟩ := hidS_some h
  rw [hidS_ne h1]
  exact e.at_ (fun z => h1 (z ▸ hp)) (fun z => h1 (z ▸ hl)) h2
/-- these are there, and are no tuples -/
structure Offs (S : List Addr) (H : Hp) : Prop where
  at_ : ∀ b ∈ S, ∃ o, H b = some o ∧ ∀ xs, o ≠ .tup xs
theorem Offs.up {S : List Addr} {H H' : Hp} (h : Offs S H) (s : Same H H') : Offs S H' := ⟨fun b hb => let ⟨o, a, c⟩ := h.at_ b hb; ⟨o, s _ _ a, c⟩⟩
theorem Offs.tup {S : List Addr} {H : Hp} {y : Addr} {xs : List V} (h : Offs S H) (e : H y = some (.tup xs)) : hidS S H y = some (.tup xs) := by
  rw [hidS_ne fun hb => ?_]
  · exact e
  · obtain ⟨o, a, c⟩ := h.at_ y hb
    rw [e] at a
    exact c _ (Option.some.inj a).symm
theorem Offs.new {S : List Addr} {H : Hp} {q : Addr} (h : Offs S H) (e : H q = none) : q ∉ S := fun hb => by
  obtain ⟨o, a, _⟩ := h.at_ q hb
  rw [e] at a
  cases a
theorem Offs.put {S : List Addr} {H : Hp} {q : Addr} {o : HO} (h : Offs S H) (e : H q = none) : hidS S (upd H q o) q = some o := by
  rw [hidS_ne (h.new e), upd_same]
theorem Offs.deck {S : List Addr} {p l : Addr} {H H' : Hp} (h : Offs S H) (e : Ext p l H H') (D : Deck H' p l) : Offs S H' := ⟨fun b hb => by
  obtain ⟨ds, st, a, c, _⟩ := D.ex
  by_cases z1 : b = p
  · exact ⟨_, by rw [z1]; exact a, by intro xs z; cases z⟩
  · by_cases z2 : b = l
    · exact ⟨_, by rw [z2]; exact c, by intro xs z; cases z⟩
    · obtain ⟨o, f, g⟩ := h.at_ b hb
      exact ⟨o, e.at_ z1 z2 f, g⟩⟩
theorem Deck.offs {p l : Addr} {H : Hp} (D : Deck H p l) : Offs [p, l] H := ⟨fun b hb => by
  obtain ⟨ds, st, a, c, _⟩ := D.ex
  simp only [List.mem_cons, List.not_mem_nil, or_false] at hb
  rcases hb with rfl | rfl
  · exact ⟨_, a, by intro xs z; cases z⟩
  · exact ⟨_, c, by intro xs z; cases z⟩⟩
/-! ### rows of small data -/
structure SmA (k w : Nat) (ds : List PyData) : Prop where
  sh : PyData.showableAll ds = true
  ls : PyData.leavesShortAll 41 ds = true
  dp : PyData.depthAll ds ≤ k
  wt : PyData.weightAll ds ≤ w
theorem SmA.mono {k w k' w' : Nat} {ds : List PyData} (h : SmA k w ds) (hk : k ≤ k') (hw : w ≤ w') : SmA k' w' ds := ⟨h.sh, h.ls, Nat.le_trans h.dp hk, Nat.le_trans h.wt hw⟩
theorem SmA.tup {k w : Nat} {ds : List PyData} (h : SmA k w ds) : Sm (k + 1) w (.tuple ds) := ⟨by simpa [PyData.showable] using h.sh, by simpa [PyData.leavesShort] using h.ls, by have := h.dp; simp only [PyData.depth]; omega, by have := h.wt; simpa only [PyData.weight] using this⟩
theorem SmA.lst {k w : Nat} {ds : List PyData} (h : SmA k w ds) : Sm (k + 1) w (.list ds) := ⟨by simpa [PyData.showable] using h.sh, by simpa [PyData.leavesShort] using h.ls, by have := h.dp; simp only [PyData.depth]; omega, by have := h.wt; simpa only [PyData.weight] using this⟩
theorem Sm.tup_row {k w : Nat} {ds : List PyData} (h : Sm (k + 1) w (.tuple ds)) : SmA k w ds := ⟨by simpa [PyData.showable] using h.sh, by simpa [PyData.leavesShort] using h.ls, by have := h.dp; simp only [PyData.depth] at this; omega, by have := h.wt; simpa only [PyData.weight] using this⟩
theorem SmA.nil : SmA 0 0 [] := ⟨by simp [PyData.showableAll], by simp [PyData.leavesShortAll], by simp [PyData.depthAll], by simp [PyData.weightAll]⟩
theorem SmA.cons {k w w' : Nat} {d : PyData} {ds : List PyData} (a : Sm k w d) (b : SmA k w' ds) : SmA k (w + 1 + w') (d :: ds) :=
  ⟨by simp [PyData.showableAll, a.sh, b.sh], by simp [PyData.leavesShortAll, a.ls, b.ls], by have := a.dp; have := b.dp; simp only [PyData.depthAll]; omega, by have := a.wt; have := b.wt; simp only [PyData.weightAll]; omega⟩
theorem SmA.inv {k w : Nat} {d : PyData} {ds : List PyData} (h : SmA k w (d :: ds)) : ∃ w1 w2, Sm k w1 d ∧ SmA k w2 ds ∧ w1 + 1 + w2 = w := by
  obtain ⟨h1, h2, h3, h4⟩ := h
  simp only [PyData.showableAll, PyData.leavesShortAll, Bool.and_eq_true, PyData.depthAll, PyData.weightAll] at h1 h2 h3 h4
  exact ⟨w - 1 - d.weight.min 0 - PyData.weightAll ds, PyData.weightAll ds, ⟨h1.1, h2.1, by omega, by simp; omega⟩, ⟨h1.2, h2.2, by omega, Nat.le_refl _⟩, by simp; omega⟩
theorem SmA.one {k w : Nat} {d : PyData} (a : Sm k w d) : SmA k (w + 1) [d] := by
  have := SmA.cons a (SmA.nil.mono (Nat.zero_le k) (Nat.le_refl 0))
  exact this
theorem SmA.app {k : Nat} : ∀ {a b : List PyData} {w w' : Nat}, SmA k w a → SmA k w' b → SmA k (w + w') (a ++ b)
  | [], _, _, _, _, hb => hb.mono (Nat.le_refl _) (Nat.le_add_left _ _)
  | d :: a, b, w, w', ha, hb => by
    obtain ⟨w1, w2, h1, h2, e⟩ := ha.inv
    exact (SmA.cons h1 (SmA.app h2 hb)).mono (Nat.le_refl _) (by omega)
theorem SmA.take {k : Nat} : ∀ {a : List PyData} {w : Nat} (i : Nat), SmA k w a → SmA k w (a.take i)
  | [], _, i, h => by rw [List.take_nil]; exact h
  | d :: a, w, 0, h => SmA.nil.mono (Nat.zero_le _) (Nat.zero_le _)
  | d :: a, w, i + 1, h => by
    obtain ⟨w1, w2, h1, h2, e⟩ := h.inv
    exact (SmA.cons h1 (h2.take i)).mono (Nat.le_refl _) (by omega)
theorem SmA.drop {k : Nat} : ∀ {a : List PyData} {w : Nat} (i : Nat), SmA k w a → SmA k w (a.drop i)
  | [], _, i, h => by rw [List.drop_nil]; exact h
  | d :: a, w, 0, h => h
  | d :: a, w, i + 1, h => by
    obtain ⟨w1, w2, h1, h2, e⟩ := h.inv
    exact (h2.drop i).mono (Nat.le_refl _) (by omega)
theorem SmA.mem {k : Nat} : ∀ {a : List PyData} {w : Nat} {d : PyData}, SmA k w a → d ∈ a → Sm k w d
  | d :: a, w, x, h, hx => by
    obtain ⟨w1, w2, h1, h2, e⟩ := h.inv
    rcases List.mem_cons.mp hx with rfl | hx
    · exact h1.mono (Nat.le_refl _) (by omega)
    · exact (h2.mem hx).mono (Nat.le_refl _) (by omega)
/-- items exchanged for truths -/
theorem SmA.boo {k : Nat} (f : PyData → PyData) (hf : ∀ d, f d = d ∨ ∃ b, f d = .bool b) : ∀ {a : List PyData} {w : Nat}, SmA k w a → 1 ≤ k → SmA k w (a.map f)
  | [], _, h, _ => h
  | d :: a, w, h, hk => by
    obtain ⟨w1, w2, h1, h2, e⟩ := h.inv
    refine (SmA.cons (w := w1) ?_ (h2.boo f hf hk)).mono (Nat.le_refl _) (by omega)
    rcases hf d with z | ⟨b, z⟩
    · rw [z]
      exact h1
    · rw [z]
      exact ⟨rfl, rfl, by simp [PyData.depth], by simp [PyData.weight]⟩
end Kr
namespace Kr
open PySem PySem.Spec PyProof.Rows L2
abbrev pD (p : Pr) : PyData := .tuple [.int (p.1 : Int), .int (p.2 : Int)]
def circD (C : List Pr) : PyData := .list (C.map pD)
theorem pD_flat (L : List Pr) : flatTA (L.map pD) = true := flatTA_of fun d hd => by
  obtain ⟨p, _, rfl⟩ := List.mem_map.mp hd
  simp [pD, flatT, flatTA]
theorem pD_at {H : Hp} {a : Addr} {p : Pr} (h : H a = some (.tup (pV p))) : Dq H (.ref a) (pD p) := .tup h (.cons (.int _) (.cons (.int _) .nil))
theorem pD_inv {H : Hp} {v : V} {p : Pr} (h : Dq H v (pD p)) : ∃ a, v = .ref a ∧ H a = some (.tup (pV p)) := by
  obtain ⟨a, xs, rfl, e, q⟩ := Dq.tup_inv h
  cases q with
  | cons h1 q =>
    cases q with
    | cons h2 q =>
      cases q
      cases h1
      cases h2
      exact ⟨a, rfl, e⟩
theorem pD_get {H : Hp} {xs : List V} {L : List Pr} {i : Nat} {y : V} (q : DqA H xs (L.map pD)) (e : xs[i]? = some y) : ∃ p, L[i]? = some p ∧ ∃ a, y = .ref a ∧ H a = some (.tup (pV p)) := by
  obtain ⟨d, h1, h2⟩ := q.get e
  rw [List.getElem?_map] at h1
  cases hr : L[i]? with
  | none => rw [hr] at h1; cases h1
  | some p =>
    rw [hr] at h1
    cases Option.some.inj h1
    exact ⟨p, rfl, pD_inv h2⟩
/-! ### a path that comes back -/
structure Path (S : Pr → Pr) (P : List Pr) (q : Pr) : Prop where
  st : ∀ (i : Nat) (x : Pr), P[i]? = some x → (P ++ [q])[i + 1]? = some (S x)
theorem Path.more {S : Pr → Pr} {P : List Pr} {q : Pr} (h : Path S P q) : Path S (P ++ [q]) (S q) := ⟨fun i x hx => by
  rcases Nat.lt_trichotomy i P.length with c | c | c
  · rw [List.getElem?_append_left c] at hx
    have := h.st i x hx
    rw [List.getElem?_append_left (by rw [List.length_append]; show _ < _ + 1; omega)]
    exact this
  · subst c
    rw [List.getElem?_append_right (Nat.le_refl _), Nat.sub_self] at hx
    cases hx
    rw [List.getElem?_append_right (by rw [List.length_append]; show _ + 1 ≤ _; omega), List.length_append]
    show [S q][P.length + 1 - (P.length + 1)]? = _
    rw [Nat.sub_self]
    rfl
  · rw [List.getElem?_eq_none (by rw [List.length_append]; show _ + 1 ≤ _; omega)] at hx
    cases hx⟩
theorem path_close {n : Nat} {S : Pr → Pr} {CL : List (List Pr)} {P : List Pr} {q : Pr} (inj : ∀ a b, a ∈ prs n → b ∈ prs n → S a = S b → a = b) (h : Path S P q) (ne : P ≠ []) (nd : (CL.flatten ++ P).Nodup) (sub : ∀ x ∈ CL.flatten ++ P, x ∈ prs n)
    (cyc : ∀ C ∈ CL, Cyc S C) (hq : q ∈ CL.flatten ++ P) : Cyc S P := by
  have hl : 0 < P.length := List.length_pos_iff.mpr ne
  obtain ⟨z, hz⟩ : ∃ z, P[P.length - 1]? = some z := ⟨_, List.getElem?_eq_getElem (by omega)⟩
  have e1 := h.st _ _ hz
  rw [show P.length - 1 + 1 = P.length by omega, List.getElem?_append_right (Nat.le_refl _), Nat.sub_self] at e1
  have eq : q = S z := Option.some.inj e1
  have hzP := List.mem_of_getElem? hz
  have hzp : z ∈ prs n := sub z (List.mem_append_right _ hzP)
  have ndP : P.Nodup := (List.nodup_append.mp nd).2.1
  have dis := (List.nodup_append.mp nd).2.2
  have hqP : q ∈ P := by
    rcases List.mem_append.mp hq with c | c
    · obtain ⟨C, hC, hqC⟩ := List.mem_flatten.mp c
      have k := cyc C hC
      obtain ⟨j, hj⟩ := List.getElem?_of_mem hqC
      have hjl := (List.getElem?_eq_some_iff.mp hj).1
      obtain ⟨r, hr⟩ : ∃ r, C[(j + (C.length - 1)) % C.length]? = some r := ⟨_, List.getElem?_eq_getElem (Nat.mod_lt _ k.ne)⟩
      have e2 := k.st _ _ hr
      rw [Nat.mod_add_mod, show j + (C.length - 1) + 1 = j + C.length by omega, Nat.add_mod_right, Nat.mod_eq_of_lt hjl, hj] at e2
      have e3 : S r = S z := by rw [← eq]; exact (Option.some.inj e2).symm
      have hrC := List.mem_of_getElem? hr
      have hrF : r ∈ CL.flatten := List.mem_flatten.mpr ⟨C, hC, hrC⟩
      have := inj r z (sub r (List.mem_append_left _ hrF)) hzp e3
      exact absurd this (dis r hrF z hzP)
    · exact c
  obtain ⟨j, hj⟩ := List.getElem?_of_mem hqP
  have hjl := (List.getElem?_eq_some_iff.mp hj).1
  have j0 : j = 0 := by
    apply Classical.byContradiction
    intro hj0
    obtain ⟨r, hr⟩ : ∃ r, P[j - 1]? = some r := ⟨_, List.getElem?_eq_getElem (by omega)⟩
    have e2 := h.st _ _ hr
    rw [show j - 1 + 1 = j by omega, List.getElem?_append_left hjl, hj] at e2
    have e3 : S r = S z := by rw [← eq]; exact (Option.some.inj e2).symm
    have hrP := List.mem_of_getElem? hr
    have := inj r z (sub r (List.mem_append_right _ hrP)) hzp e3
    rw [this] at hr
    have := nd_ix ndP hr hz
    omega
  subst j0
  refine ⟨hl, ndP, fun i p hp => ?_⟩
  have hil := (List.getElem?_eq_some_iff.mp hp).1
  have e2 := h.st i p hp
  by_cases c : i + 1 < P.length
  · rw [Nat.mod_eq_of_lt c]
    rw [List.getElem?_append_left c] at e2
    exact e2
  · have c : i + 1 = P.length := by omega
    rw [c, List.getElem?_append_right (Nat.le_refl _), Nat.sub_self] at e2
    rw [c, Nat.mod_self, hj]
    exact e2
/-! ### the pairs that are met -/
def metK (L : List Pr) : List (List Key × V) := L.map fun p => (pK p, V.bl true)
theorem metK_val (q : Pr) : ∀ L : List Pr, valV (metK L) (pK q) = if q ∈ L then some (.bl true) else none
  | [] => by simp [metK, valV_nil]
  | p :: L => by
    have ih := metK_val q L
    unfold metK at ih ⊢
    rw [List.map_cons]
    by_cases c : p = q
    · subst c
      rw [valV_pos rfl, if_pos List.mem_cons_self]
    · rw [valV_neg (fun z => c (pK_inj z)), ih]
      by_cases d : q ∈ L
      · rw [if_pos d, if_pos (List.mem_cons_of_mem _ d)]
      · rw [if_neg d, if_neg fun z => (List.mem_cons.mp z).elim (fun w => c w.symm) d]
theorem metK_put {L : List Pr} {q : Pr} (h : q ∉ L) : putK (metK L) (pK q) (.bl true) = metK (L ++ [q]) := by
  rw [putK_new _ (by rw [metK_val, if_neg h])]
  unfold metK
  rw [List.map_append]
  rfl
theorem metK_len (L : List Pr) : (metK L).length = L.length := List.length_map ..
def spCircles : Sp := fun vs H Q _ => ∃ (n : Nat) (v : V) (T : List (List Int)), vs = [.int (n : Int), v] ∧ n ≤ 6 ∧ Dq H v (tabD T) ∧ TabOk n T ∧ ∀ H' p cs CL, Same H H' → H p = none → H' p = some (.lst cs) → DqA H' cs (CL.map circD) → Rounds n (stp n T) CL → CL.length ≤ 1000 → CL.flatten.Nodup → Q (.ref p) H'
section
variable {P : Program} {w : World} {K : PySem.W.Frag} {mg : Str → Option Value} {base : Heap}
abbrev nCi : List Str := ["n", "table", "steps", "met", "circles", "start", "circle", "pair"]
theorem o_circles (D0 : Df K mg "_circles" sCircles ["n", "table"]) (B : Bi mg) (so : Ok P w K mg base 5 "steps_of" ["n", "table"] spSteps) : Ok P w K mg base 6 "_circles" ["n", "table"] spCircles := by
  have scCi : FnScope nCi ["n", "table"] (defScope sCircles) := ⟨rfl, rfl, rfl, by decide +kernel, rfl, by decide +kernel, by decide +kernel⟩
  refine D0.ok fun f fd F => F.ok scCi (fun vs H Q E h => ?_) (fun cdv A outer s H vs Q E hr h => ?_)
  · obtain ⟨n, v, T, rfl, _⟩ := h
    rfl
  · obtain ⟨n, v, T, rfl, n1, hv, okT, q⟩ := h
    have hu1 := hu_of hr
    have hu : (cxOf CX0 P w K mg base nCi "_circles" (defScope sCircles) f cdv A outer s H E).A.units + 64 < cLine := hr.units
    refine ⟨_, pss_cons (ps_set (i := 2) scCi.nd rfl (.inl rfl) (pe_fn so hr (by rfl) (pa_cons (pv 0) (pa_cons (pv 1) pa_nil))))
      (pss_cons (ps_set (i := 3) scCi.nd rfl (.inl rfl) pe_dnewT)
      (pss_cons (ps_set (i := 4) scCi.nd rfl (.inl rfl) (pe_lst pa_nil))
      (pss_cons (ps_lock (ps_for PassesOwn.never rfl (pi_keys (pv 2)) (pg_name (i := 5) scCi.nd rfl (.inl rfl))
        (pss_cons (ps_set (i := 6) scCi.nd rfl (.inl rfl) (pe_lst pa_nil))
        (pss_cons (ps_set (i := 7) scCi.nd rfl (.inl rfl) (pv 5))
        (pss_cons (ps_while PassesOwn.never (pt_cmp (pc_dnotin hu1 (pv 7) (pv 3)) (by rfl))
          (pss_cons (ps_dput hu1 (pv 3) (pv 7) pe_bl rfl)
          (pss_cons (ps_expr (pe_bm PySem.F.plainAttrs_list PySem.F.slot_list_append PySem.F.type_list_append mt_append (pv 6) (pa_cons (pv 7) pa_nil)))
          (pss_one (ps_set (i := 7) scCi.nd rfl (.inl rfl) (pe_dget hu1 (pv 2) (pv 7) (fun _ _ => rfl)))))))
        (pss_one (ps_if (pt_cmpR (op_neN hu) (pv 6) (pe_lst pa_nil) (nomark _)) (pss_one (ps_expr (pe_bm PySem.F.plainAttrs_list PySem.F.slot_list_append PySem.F.type_list_append mt_append (pv 4) (pa_cons (pv 6) pa_nil)))) pss_nil)))))))
      (pss_one (ps_ret (pv 4)))))), ?_⟩
    refine ⟨.int n, rfl, v, rfl, n, v, T, rfl, n1, hv, okT, fun H1 Da kvs s1 nDa hDa hst => ?_⟩
    try dsimp only [tNext]
    refine fun M nM => ?_
    have s2 := same_new (o := .dT []) nM
    have hM : upd H1 M (.dT []) M = some (.dT []) := upd_same
    have nfM : ∀ b o, H1 b = some o → b ≠ M := fun b o hb => ne_of_none hb nM
    have nDM := nfM _ _ hDa
    have hDa2 := s2 _ _ hDa
    generalize upd H1 M (.dT []) = H2 at s2 hM hDa2
    try dsimp only [tNext]
    refine ⟨by show 0 ≤ sizeLine; decide, fun Cc nCc => ?_⟩
    have s3 := same_new (o := .lst []) nCc
    have hCc : upd H2 Cc (.lst []) Cc = some (.lst []) := upd_same
    have nCM : Cc ≠ M := (ne_of_none hM nCc).symm
    have nDC : Da ≠ Cc := ne_of_none hDa2 nCc
    have hM3 := s3 _ _ hM
    have hDa3 := s3 _ _ hDa2
    have s13 := s2.trans s3
    have nCH : ∀ b o, H1 b = some o → b ≠ Cc := fun b o hb => ne_of_none (s2 _ _ hb) nCc
    have nCc1 : H Cc = none := s1.free (s2.free nCc)
    generalize upd H2 Cc (.lst []) = H3 at s13 hCc hM3 hDa3
    clear s2 s3 hM hDa2 nCc nM
    try dsimp only [tNext]
    refine ⟨Da, .dT kvs, hDa3, trivial, fun od => ?_⟩
    have hDa4 : upd H3 Da (.frz od (.dT kvs)) Da = some (.frz od (.dT kvs)) := upd_same
    have k4 : ∀ b o, b ≠ Da → H3 b = some o → upd H3 Da (.frz od (.dT kvs)) b = some o := fun b o hb ho => by rw [upd_ne hb]; exact ho
    have hM4 := k4 _ _ nDM.symm hM3
    have hCc4 := k4 _ _ nDC.symm hCc
    generalize upd H3 Da (.frz od (.dT kvs)) = H4 at hDa4 k4 hM4 hCc4
    have ts4 : ∀ G : Hp, (∀ b o, b ≠ M → b ≠ Cc → H4 b = some o → G b = some o) → TS H1 G := fun G k b xs hb => k _ _ (nfM _ _ hb) (nCH _ _ hb) (k4 _ _ (ne_of hb hDa (by intro z; cases z)) (s13 _ _ hb))
    have inj : ∀ a b, a ∈ prs n → b ∈ prs n → stp n T a = stp n T b → a = b := fun a b ha hb e => stp_inj n1 okT ha hb e
    have hpl := prs_len n (by omega)
    refine ⟨.ref Da, rfl, Da, od, rfl, .inr ⟨kvs, hDa4, for_it walk_keysT (fun i σ G => ∃ (v5 v6 v7 : Option V) (cs : List V) (CL : List (List Pr)), σ = [some (.int n), some v, some (.ref Da), some (.ref M), some (.ref Cc), v5, v6, v7] ∧ (∀ b o, b ≠ M → b ≠ Cc → H4 b = some o → G b = some o) ∧
        G M = some (.dT (metK CL.flatten)) ∧ G Cc = some (.lst cs) ∧ DqA (hidS [M, Cc, Da] G) cs (CL.map circD) ∧ (∀ C ∈ CL, Cyc (stp n T) C) ∧ CL.flatten.Nodup ∧ (∀ x ∈ CL.flatten, x ∈ prs n) ∧ CL.length ≤ i ∧ ∀ (j : Nat) (p : Pr) (u : V), j < i → kvs[j]? = some (pK p, u) → p ∈ CL.flatten)
      ⟨_, _, _, [], [], rfl, fun _ _ _ _ h => h, hM4, hCc4, .nil, (fun _ h => nomatch h), List.nodup_nil, (fun _ h => nomatch h), Nat.le_refl _, fun j p u h _ => absurd h (Nat.not_lt_zero _)⟩ (fun i σ G _ ⟨_, _, _, _, _, _, k, _⟩ => k _ _ nDM nDC hDa4) ?_ ?_⟩⟩
    rotate_left
    · rintro σ G ⟨v5, v6, v7, cs, CL, rfl, k, hGM, hGC, qcs, cyc, nd, sub, hcl, hall⟩
      have hGD := k _ _ nDM nDC hDa4
      refine ⟨hGD, .ref Cc, rfl, q _ Cc cs CL (fun b o hb => ?_) nCc1 (by rw [upd_ne nDC.symm]; exact hGC) (qcs.up fun b o hb => ?_) ⟨cyc, fun C hC p hp => sub p (List.mem_flatten.mpr ⟨C, hC, hp⟩), fun p hp => ?_⟩ (by have := hst.len; omega) nd⟩
      · by_cases e : b = Da
        · subst e
          rw [nDa] at hb
          cases hb
        · rw [upd_ne e]
          have h1 := s1 _ _ hb
          exact k _ _ (nfM _ _ h1) (nCH _ _ h1) (k4 _ _ e (s13 _ _ h1))
      · obtain ⟨h1, h2⟩ := hidS_some hb
        have e : b ≠ Da := fun z => h1 (by rw [z]; simp)
        rw [upd_ne e]
        exact h2
      · obtain ⟨a, ha, _⟩ := hst.val p hp
        obtain ⟨j, hj⟩ := valV_mem ha
        exact List.mem_flatten.mp (hall j p _ (List.getElem?_eq_some_iff.mp hj).1 hj)
    · rintro i x σ _ G hi ⟨v5, v6, v7, cs, CL, rfl, k, hGM, hGC, qcs, cyc, nd, sub, hcl, hall⟩ ⟨rfl, kk, u0, a0, hk0, rfl, ha0⟩
      obtain ⟨p0, hp0, rfl⟩ : ∃ p ∈ prs n, kk = pK p := hst.keys _ (List.mem_of_getElem? hk0)
      have hGD := k _ _ nDM nDC hDa4
      have of0 : Offs [M, Cc, Da] G := ⟨fun b hb => by
        simp only [List.mem_cons, List.not_mem_nil, or_false] at hb
        rcases hb with rfl | rfl | rfl
        · exact ⟨_, hGM, by intro xs z; cases z⟩
        · exact ⟨_, hGC, by intro xs z; cases z⟩
        · exact ⟨_, hGD, by intro xs z; cases z⟩⟩
      refine ⟨by show 0 ≤ sizeLine; decide, fun c nc => ?_⟩
      have ncS := of0.new nc
      have ncM : c ≠ M := fun z => ncS (by rw [z]; simp)
      have ncC : c ≠ Cc := fun z => ncS (by rw [z]; simp)
      have ncD : c ≠ Da := fun z => ncS (by rw [z]; simp)
      have sc := same_new (o := .lst []) nc
      have hc : upd G c (.lst []) c = some (.lst []) := upd_same
      have nfc : ∀ b o, G b = some o → b ≠ c := fun b o hb => ne_of_none hb nc
      have hGM1 := sc _ _ hGM
      have hGC1 := sc _ _ hGC
      have ha1 := sc _ _ ha0
      generalize upd G c (.lst []) = G1 at sc hc hGM1 hGC1 ha1
      try dsimp only [tNext]
      refine ⟨.ref a0, rfl, ?_⟩
      refine while_by (fun σ G2 => ∃ (b : Addr) (ws : List V) (P : List Pr) (q : Pr), σ = [some (.int n), some v, some (.ref Da), some (.ref M), some (.ref Cc), some (.ref a0), some (.ref c), some (.ref b)] ∧ (∀ b o, b ≠ M → b ≠ c → G1 b = some o → G2 b = some o) ∧
          G2 M = some (.dT (metK (CL.flatten ++ P))) ∧ G2 c = some (.lst ws) ∧ DqA G2 ws (P.map pD) ∧ G2 b = some (.tup (pV q)) ∧ Path (stp n T) P q ∧ (P ++ [q])[0]? = some p0 ∧ (CL.flatten ++ P).Nodup ∧ (∀ x ∈ CL.flatten ++ P, x ∈ prs n) ∧ q ∈ prs n)
        (fun σ G2 => match G2 M with | some (.dT kvm) => 400 - kvm.length | _ => 0)
        ⟨a0, [], [], p0, rfl, fun _ _ _ _ h => h, by rw [List.append_nil]; exact hGM1, hc, .nil, ha1, ⟨fun i x h => by simp at h⟩, rfl, by rw [List.append_nil]; exact nd, by rw [List.append_nil]; exact sub, hp0⟩ ?_ ?_
      rotate_left
      · rintro σ G2 Q1 Q2 hq ⟨y, hy, z, hz, a, o, e1, e2, kk, e3, e4⟩
        exact ⟨y, hy, z, hz, a, o, e1, e2, kk, e3, hq _ _ e4⟩
      rintro σ G2 ⟨b, ws, P, qq, rfl, k2, hM2, hc2, qws, hb2, hpa, hst0, nd2, sub2, hqp⟩
      have hLl := sub_len nd2 sub2
      have hwl : ws.length ≤ 192 := by
        rw [qws.len, List.length_map]
        rw [List.length_append] at hLl
        omega
      refine ⟨.ref b, rfl, .ref M, rfl, M, valV (metK (CL.flatten ++ P)) (pK qq), rfl, DGet.t hM2 hb2, _, rfl, ?_⟩
      rw [metK_val]
      by_cases hin : qq ∈ CL.flatten ++ P
      · rw [if_pos hin]
        refine iteF ?_
        try dsimp only [tNext]
        refine ⟨.ref c, rfl, by show 0 ≤ sizeLine; decide, fun e ne => ?_⟩
        have s5 := same_new (o := .lst []) ne
        refine ⟨c, e, ws, rfl, rfl, s5 _ _ hc2, upd_same, _, rfl, ?_⟩
        have hM5 := s5 _ _ hM2
        have hc5 := s5 _ _ hc2
        have hC5 := s5 _ _ (k2 _ _ nCM ncC.symm hGC1)
        have s25 : ∀ b o, b ≠ M → G b = some o → upd G2 e (.lst []) b = some o := fun b o h1 h2 => s5 _ _ (k2 _ _ h1 (nfc _ _ h2) (sc _ _ h2))
        have of2 : Offs [M, Cc, Da] G2 := ⟨fun b hb => by
          simp only [List.mem_cons, List.not_mem_nil, or_false] at hb
          rcases hb with rfl | rfl | rfl
          · exact ⟨_, hM2, by intro xs z; cases z⟩
          · exact ⟨_, k2 _ _ nCM ncC.symm hGC1, by intro xs z; cases z⟩
          · exact ⟨_, k2 _ _ nDM ncD.symm (sc _ _ hGD), by intro xs z; cases z⟩⟩
        have qws5 : DqA (hidS [M, Cc, Da] (upd G2 e (.lst []))) ws (P.map pD) := DqA.upT (fun b xs hb => hidS_up s5 _ _ (of2.tup hb)) (pD_flat _) qws
        generalize upd G2 e (.lst []) = G5 at hM5 hc5 hC5 s25 qws5
        clear s5 ne
        have h25 : Same (hidS [M, Cc, Da] G) (hidS [M, Cc, Da] G5) := fun b o hb => by
          obtain ⟨h1, h2⟩ := hidS_some hb
          rw [hidS_ne h1]
          exact s25 _ _ (fun z => h1 (by rw [z]; simp)) h2
        have k5 : ∀ b o, b ≠ M → b ≠ Cc → H4 b = some o → G5 b = some o := fun b o h1 h2 h3 => s25 _ _ h1 (k _ _ h1 h2 h3)
        have p0in : p0 ∈ CL.flatten ++ P := by
          cases P with
          | nil =>
            have : qq = p0 := Option.some.inj hst0
            rw [← this]
            exact hin
          | cons x r =>
            have : x = p0 := Option.some.inj hst0
            rw [← this]
            exact List.mem_append_right _ List.mem_cons_self
        have hall' : ∀ (j : Nat) (p : Pr) (u : V), j < i + 1 → kvs[j]? = some (pK p, u) → p ∈ CL.flatten ++ P := fun j p u hj e => by
          rcases Nat.lt_or_ge j i with d | d
          · exact List.mem_append_left _ (hall j p u d e)
          · have : j = i := by omega
            rw [this, hk0] at e
            have := pK_inj (congrArg Prod.fst (Option.some.inj e))
            rw [← this]
            exact p0in
        cases hP : P with
        | nil =>
          subst hP
          obtain rfl : ws = [] := List.length_eq_zero_iff.mp qws.len
          rw [List.append_nil] at hM5 hall'
          exact iteF ⟨_, _, _, cs, CL, rfl, k5, hM5, hC5, qcs.up h25, cyc, nd, sub, by omega, hall'⟩
        | cons x r =>
          have hne : P ≠ [] := by rw [hP]; exact List.cons_ne_nil _ _
          have hws : ws.isEmpty = false := by
            cases ws with
            | nil =>
              have := qws.len
              rw [hP] at this
              simp at this
            | cons _ _ => rfl
          rw [hws]
          have hcy := path_close inj hpa hne nd2 sub2 cyc hin
          have efl : (CL ++ [P]).flatten = CL.flatten ++ P := by rw [List.flatten_append]; simp
          refine iteT ⟨.ref Cc, rfl, .inl ⟨rfl, _, SqL.of hC5⟩, .ref c, rfl, Cc, cs, .ref c, rfl, rfl, hC5, szl (by have h1 := qcs.len; have h2 := hst.len; rw [List.length_map] at h1; omega), _, _, _, cs ++ [.ref c], CL ++ [P], rfl, fun b o h1 h2 h3 => ?_, ?_, upd_same, ?_, fun C hC => ?_, by rw [efl]; exact nd2, by rw [efl]; exact sub2, by rw [List.length_append]; show _ + 1 ≤ _; omega, by rw [efl]; exact hall'⟩
          · rw [upd_ne h2]
            exact k5 _ _ h1 h2 h3
          · rw [upd_ne nCM.symm, efl]
            exact hM5
          · rw [List.map_append]
            have mu : Same (hidS [M, Cc, Da] G5) (hidS [M, Cc, Da] (upd G5 Cc (.lst (cs ++ [.ref c])))) := fun b o hb => by
              obtain ⟨h1, h2⟩ := hidS_some hb
              rw [hidS_ne h1, upd_ne (fun z => h1 (by rw [z]; simp))]
              exact h2
            refine dqa_snoc ((qcs.up h25).up mu) (.lst (xs := ws) (mu _ _ ?_) (qws5.up mu))
            rw [hidS_ne ncS]
            exact hc5
          · rcases List.mem_append.mp hC with d | d
            · exact cyc C d
            · rw [List.mem_singleton.mp d]
              exact hcy
      · rw [if_neg hin]
        refine iteT ?_
        refine ⟨.ref M, rfl, .ref b, rfl, M, _, rfl, DPut.t (k := pK qq) hM2 hb2 (szl (by rw [metK_len]; omega)), ?_⟩
        rw [metK_put hin]
        have hM3' : upd G2 M (.dT (metK (CL.flatten ++ P ++ [qq]))) M = some (.dT (metK (CL.flatten ++ P ++ [qq]))) := upd_same
        have t3 : TS G2 (upd G2 M (.dT (metK (CL.flatten ++ P ++ [qq])))) := fun b xs hb => by
          rw [upd_ne (ne_of hb hM2 (by intro z; cases z))]
          exact hb
        have k3 : ∀ b o, b ≠ M → G2 b = some o → upd G2 M (.dT (metK (CL.flatten ++ P ++ [qq]))) b = some o := fun b o h1 h2 => by rw [upd_ne h1]; exact h2
        generalize upd G2 M (.dT (metK (CL.flatten ++ P ++ [qq]))) = G3 at hM3' t3 k3
        have hc3 := k3 _ _ ncM hc2
        refine ⟨.ref c, rfl, .inl ⟨rfl, _, SqL.of hc3⟩, .ref b, rfl, c, ws, .ref b, rfl, rfl, hc3, szl (by omega), ?_⟩
        have t4 : TS G3 (upd G3 c (.lst (ws ++ [.ref b]))) := TS.lst hc3
        have k34 : ∀ b' o, b' ≠ c → G3 b' = some o → upd G3 c (.lst (ws ++ [.ref b])) b' = some o := fun b' o h1 h2 => by rw [upd_ne h1]; exact h2
        have hc4 : upd G3 c (.lst (ws ++ [.ref b])) c = some (.lst (ws ++ [.ref b])) := upd_same
        have hM4' := k34 _ _ ncM.symm hM3'
        have hb4 := t4 _ _ (t3 _ _ hb2)
        have qws4 := DqA.upT (t3.trans t4) (pD_flat _) qws
        have kk4 : ∀ b' o, b' ≠ M → b' ≠ c → G1 b' = some o → upd G3 c (.lst (ws ++ [.ref b])) b' = some o := fun b' o h1 h2 h3 => k34 _ _ h2 (k3 _ _ h1 (k2 _ _ h1 h2 h3))
        generalize upd G3 c (.lst (ws ++ [.ref b])) = G6 at hc4 hM4' hb4 qws4 kk4
        clear t3 t4 k3 k34 hM3' hc3
        have hD6 := kk4 _ _ nDM ncD.symm (sc _ _ hGD)
        obtain ⟨a', hva', ha'⟩ := hst.val qq hqp
        have ha6 : G6 a' = some (.tup (pV (stp n T qq))) := by
          have h1 := ts4 G k _ _ ha'
          exact kk4 _ _ (nfM _ _ ha') (nfc _ _ h1) (sc _ _ h1)
        try dsimp only [tNext]
        refine ⟨.ref Da, rfl, .ref b, rfl, Da, .ref a', rfl, .inr ⟨kvs, pK qq, b, .inr ⟨od, hD6⟩, rfl, hb4, hva'.symm⟩, ?_⟩
        refine ⟨⟨a', ws ++ [.ref b], P ++ [qq], stp n T qq, rfl, kk4, by rw [← List.append_assoc]; exact hM4', hc4, ?_, ha6, hpa.more, ?_, ?_, fun x hx => ?_, stp_in n1 okT hqp⟩, ?_⟩
        · rw [List.map_append]
          exact dqa_snoc qws4 (pD_at hb4)
        · rw [List.getElem?_append_left (by rw [List.length_append]; show 0 < _ + 1; omega)]
          exact hst0
        · rw [← List.append_assoc]
          refine List.nodup_append.mpr ⟨nd2, by simp, fun x hx y hy z => ?_⟩
          rw [List.mem_singleton.mp hy] at z
          exact hin (z ▸ hx)
        · rw [← List.append_assoc] at hx
          rcases List.mem_append.mp hx with d | d
          · exact sub2 x d
          · rw [List.mem_singleton.mp d]
            exact hqp
        · show (match G6 M with | some (.dT kvm) => 400 - kvm.length | _ => 0) < (match G2 M with | some (.dT kvm) => 400 - kvm.length | _ => 0)
          rw [hM4', hM2]
          show 400 - (metK (CL.flatten ++ P ++ [qq])).length < 400 - (metK (CL.flatten ++ P)).length
          rw [metK_len, metK_len, List.length_append (as := CL.flatten ++ P)]
          show 400 - (_ + 1) < _
          omega
end
end Kr
namespace Kr
open PySem PySem.Spec PyProof.Rows L2
/-- a row of behind -/
def rowF (n : Nat) (f : Pr → Nat) (i : Nat) : List Int := (List.range n).map fun x => if (i, x) ∈ prs n then (f (i, x) : Int) else -1
structure BehAt (n : Nat) (f : Pr → Pr) (H : Hp) (kvs : List (List Key × V)) : Prop where
  keys : ∀ kv ∈ kvs, ∃ p ∈ prs n, kv.1 = pK p
  val : ∀ p ∈ prs n, ∃ a, valV kvs (pK p) = some (.ref a) ∧ H a = some (.tup (pV (f p)))
theorem BehAt.up {n : Nat} {f : Pr → Pr} {H H' : Hp} {kvs : List (List Key × V)} (h : BehAt n f H kvs) (s : TS H H') : BehAt n f H' kvs := ⟨h.keys, fun p hp => let ⟨a, x, y⟩ := h.val p hp; ⟨a, x, s _ _ y⟩⟩
theorem BehAt.none {n : Nat} {f : Pr → Pr} {H : Hp} {kvs : List (List Key × V)} (h : BehAt n f H kvs) {p : Pr} (hp : p ∉ prs n) : valV kvs (pK p) = none := by
  cases e : valV kvs (pK p) with
  | none => rfl
  | some v =>
    obtain ⟨i, hi⟩ := valV_mem e
    obtain ⟨q, hq, eq⟩ := h.keys _ (List.mem_of_getElem? hi)
    exact absurd (pK_inj eq ▸ hq) hp
def spEntOf : Sp := fun vs H Q _ => ∃ (n i : Nat) (D : Addr) (kvs : List (List Key × V)) (f : Pr → Pr), vs = [.int (n : Int), .int (i : Int), .ref D] ∧ n ≤ 6 ∧ H D = some (.dT kvs) ∧ BehAt n f H kvs ∧ ∀ H' t, Same H H' → H' t = some (.tup ((rowF n (fun p => (f p).2) i).map V.int)) → Q (.ref t) H'
def spPower : Sp := fun vs H Q _ => ∃ (n : Nat) (v : V) (T : List (List Int)) (k : Int), vs = [.int (n : Int), v, .int k] ∧ n ≤ 6 ∧ Dq H v (tabD T) ∧ TabOk n T ∧ ∀ H' r, Same H H' → Dq H' r (tabD (powT n T k)) → Q r H'
section
variable {P : Program} {w : World} {K : PySem.W.Frag} {mg : Str → Option Value} {base : Heap}
abbrev nEo : List Str := ["n", "number", "behind", "place"]
theorem o_entOf (D0 : Df K mg "_entry_of" sEntryOf ["n", "number", "behind"]) (B : Bi mg) : Ok P w K mg base 1 "_entry_of" ["n", "number", "behind"] spEntOf := by
  have scEo : FnScope nEo ["n", "number", "behind"] (defScope sEntryOf) := ⟨rfl, rfl, rfl, by decide +kernel, rfl, by decide +kernel, by decide +kernel⟩
  refine D0.ok fun f fd F => F.ok scEo (fun vs H Q E h => ?_) (fun cdv A outer s H vs Q E hr h => ?_)
  · obtain ⟨n, i, D, kvs, f, rfl, _⟩ := h
    rfl
  · obtain ⟨n, i, D, kvs, g, rfl, n1, hD, beh, q⟩ := h
    have hu1 := hu_of hr
    refine ⟨_, pss_one (ps_ret (pe_callTy call_tuple_of (by rfl) B.tuple (by decide +kernel) (pa_cons (pe_lc (own := [("place", 3)]) (g := gName 3) (tt := tYes) (te := tIf (tB (tDIn (tTup (tCons (tVar 1) (tCons (tVar 3) tNil))) (tVar 2))) (tOp (rIxT K) (tDGet (tVar 2) (tTup (tCons (tVar 1) (tCons (tVar 3) tNil)))) (tC (.int 1))) (tUn (rU fun i => .int (-i)) (tC (.int 1)))) rfl scEo.nd (pi_range1 (by rfl) B.range (pa_cons (pv 0) pa_nil)) (blkOk_by (own := [("place", 3)]) (N := nEo) (sc := defScope sEntryOf) (by decide +kernel)) (fun _ _ _ _ _ => pg_name (i := 3) scEo.nd rfl (.inl rfl)) (fun _ _ _ _ _ => pts_nil)
      (fun _ _ _ _ _ => by exact (pe_ifExp (pt_cmp (pc_din hu1 (pe_tup (pa_cons (pv 1) (pa_cons (pv 3) pa_nil))) (pv 2)) (by rfl)) (pe_ix (r := rIxT K) ix_tup (pe_dget hu1 (pv 2) (pe_tup (pa_cons (pv 1) (pa_cons (pv 3) pa_nil))) (fun _ _ => rfl)) pe_int (fun _ _ => rfl)) (pe_un un_neg pe_int)))) pa_nil))), ?_⟩
    refine ⟨.int n, rfl, (n : Int), rfl, by omega, by omega, fun W nW => ?_⟩
    rw [Int.toNat_natCast]
    refine lc_itF (walk_rg (n := n)) (fun x => .int (if (i, x) ∈ prs n then ((g (i, x)).2 : Int) else -1)) nW (by omega) (fun _ _ => rfl) (fun _ _ => trivial) (fun x y G G' C Cn hx s2 hy c => ?_) (fun G bs s2 hW qb => ?_)
    · obtain ⟨rfl, rfl⟩ := hy
      refine ⟨rfl, ?_⟩
      dsimp only [tYes]
      rw [if_pos rfl]
      refine ⟨.int i, rfl, .int x, rfl, by show 2 ≤ sizeLine; decide, fun t nt => ?_⟩
      have st := same_new (o := .tup [.int i, .int x]) nt
      have ht : upd G' t (.tup [.int i, .int x]) t = some (.tup ((pK (i, x)).map kV)) := upd_same
      have hD1 := st _ _ (s2 _ _ hD)
      have beh1 := (beh.up (TS.of s2)).up (TS.of st)
      generalize upd G' t (.tup [.int i, .int x]) = G1 at st ht hD1 beh1
      refine ⟨.ref D, rfl, D, valV kvs (pK (i, x)), rfl, DGet.t hD1 ht, _, rfl, ?_⟩
      by_cases hm : (i, x) ∈ prs n
      · obtain ⟨a, hva, ha⟩ := beh1.val _ hm
        rw [if_pos hm] at c
        rw [hva]
        refine iteT ⟨.ref D, rfl, .int i, rfl, .int x, rfl, by show 2 ≤ sizeLine; decide, fun t2 nt2 => ?_⟩
        have st2 := same_new (o := .tup [.int i, .int x]) nt2
        have ht2 : upd G1 t2 (.tup [.int i, .int x]) t2 = some (.tup ((pK (i, x)).map kV)) := upd_same
        refine ⟨D, .ref a, rfl, ?_, a, _, 1, .int ((g (i, x)).2 : Int), rfl, rfl, SqT.of (st2 _ _ ha), atI_nat (j := 1) rfl, c _ _ (st.trans st2) (.int _)⟩
        rw [← hva]
        exact DGet.t (st2 _ _ hD1) ht2
      · rw [beh1.none hm]
        rw [if_neg hm] at c
        exact iteF ⟨1, rfl, c _ _ st (.int _)⟩
    · have eb : bs = (rowF n (fun p => (g p).2) i).map V.int := dqa_int (by unfold rowF; rw [List.map_map]; exact qb)
      subst eb
      exact ⟨W, _, rfl, .inl ⟨SqL.of hW, fun t nt => q _ _ (s2.trans (same_new nt)) upd_same⟩⟩
end
end Kr
namespace Kr
open PySem PySem.Spec PyProof.Rows L2
theorem Rounds.fl {n : Nat} {S : Pr → Pr} {CL : List (List Pr)} (h : Rounds n S CL) {p : Pr} (hp : p ∈ prs n) : p ∈ CL.flatten := List.mem_flatten.mpr (h.all p hp)
/-- behind, as far as some circles are done -/
structure BehP (n : Nat) (f : Pr → Pr) (H : Hp) (L : List Pr) (kvs : List (List Key × V)) : Prop where
  keys : ∀ kv ∈ kvs, ∃ p ∈ prs n, kv.1 = pK p
  val : ∀ p ∈ L, ∃ a, valV kvs (pK p) = some (.ref a) ∧ H a = some (.tup (pV (f p)))
theorem BehP.up {n : Nat} {f : Pr → Pr} {H H' : Hp} {L : List Pr} {kvs : List (List Key × V)} (h : BehP n f H L kvs) (s : TS H H') : BehP n f H' L kvs := ⟨h.keys, fun p hp => let ⟨a, x, y⟩ := h.val p hp; ⟨a, x, s _ _ y⟩⟩
theorem BehP.put {n : Nat} {f : Pr → Pr} {H : Hp} {L : List Pr} {kvs : List (List Key × V)} {p : Pr} {a : Addr} (h : BehP n f H L kvs) (hp : p ∈ prs n) (ha : H a = some (.tup (pV (f p)))) : BehP n f H (L ++ [p]) (putK kvs (pK p) (.ref a)) := by
  refine ⟨putK_keys (P := fun k => ∃ p ∈ prs n, k = pK p) h.keys ⟨p, hp, rfl⟩, fun q hq => ?_⟩
  rw [valV_put]
  by_cases e : q = p
  · subst e
    rw [if_pos rfl]
    exact ⟨a, rfl, ha⟩
  · rw [if_neg fun z => e (pK_inj z)]
    rcases List.mem_append.mp hq with c | c
    · exact h.val q c
    · exact absurd (List.mem_singleton.mp c) e
theorem flat_takeC {α : Type} {L : List (List α)} {i : Nat} {C : List α} (h : L[i]? = some C) : (L.take (i + 1)).flatten = (L.take i).flatten ++ C := by
  rw [List.take_add_one, h, List.flatten_append]
  simp
section
variable {P : Program} {w : World} {K : PySem.W.Frag} {mg : Str → Option Value} {base : Heap}
abbrev nPo : List Str := ["n", "table", "k", "behind", "circle", "spot", "pair", "number"]
theorem f_power {f : Addr} {fd : FuncData} (F : Fun K "power" "power" sPower f fd) (B : Bi mg) (ci : Ok P w K mg base 6 "_circles" ["n", "table"] spCircles) (eo : Ok P w K mg base 1 "_entry_of" ["n", "number", "behind"] spEntOf) : FnOk P w K mg base CX0 7 f fd ["n", "table", "k"] spPower := by
  have scPo : FnScope nPo ["n", "table", "k"] (defScope sPower) := ⟨rfl, rfl, rfl, by decide +kernel, rfl, by decide +kernel, by decide +kernel⟩
  refine F.ok scPo (fun vs H Q E h => ?_) (fun cdv A outer s H vs Q E hr h => ?_)
  · obtain ⟨n, v, T, k, rfl, _⟩ := h
    rfl
  · obtain ⟨n, v, T, k, rfl, n1, hv, okT, q⟩ := h
    have hu1 := hu_of hr
    have hr1 := hr.mono (by decide : 1 ≤ 6)
    refine ⟨_, pss_cons (ps_set (i := 3) scPo.nd rfl (.inr rfl) pe_dnewT)
      (pss_cons (ps_for PassesOwn.never rfl (pi_list (pe_fn ci hr (by rfl) (pa_cons (pv 0) (pa_cons (pv 1) pa_nil)))) (pg_name (i := 4) scPo.nd rfl (.inl rfl))
        (pss_one (ps_for PassesOwn.never rfl (pi_enum (by rfl) B.enumerate (pa_cons (pv 4) pa_nil)) (pg_tup rfl (pgs_cons (pg_name (i := 5) scPo.nd rfl (.inl rfl)) (pgs_cons (pg_name (i := 6) scPo.nd rfl (.inl rfl)) pgs_nil)))
          (pss_one (ps_dput hu1 (pv 3) (pv 6) (pe_ix ix_list (pv 4) (pe_op op_mod (pe_op op_add (pv 5) (pv 2)) (pe_callB call_len_seq (by rfl) B.len boot_len (pa_cons (pv 4) pa_nil))) (fun _ _ => rfl)) rfl)))))
      (pss_one (ps_ret (pe_callTy call_tuple_of (by rfl) B.tuple (by decide +kernel) (pa_cons (pe_lc (own := [("number", 7)]) (g := gName 7) (tt := tYes) rfl scPo.nd (pi_range1 (by rfl) B.range (pa_cons (pe_callB call_len_seq (by rfl) B.len boot_len (pa_cons (pv 1) pa_nil)) pa_nil)) (blkOk_by (own := [("number", 7)]) (N := nPo) (sc := defScope sPower) (by decide +kernel)) (fun _ _ _ _ _ => pg_name (i := 7) scPo.nd rfl (.inl rfl)) (fun _ _ _ _ _ => pts_nil) (fun _ _ _ _ _ => (pe_fn eo hr1 (by rfl) (pa_cons (pv 0) (pa_cons (pv 7) (pa_cons (pv 3) pa_nil)))))) pa_nil))))), ?_⟩
    refine fun D nD => ?_
    have s0 := same_new (o := .dT []) nD
    have hD : upd H D (.dT []) D = some (.dT []) := upd_same
    have hv0 := hv.up s0
    have nf : ∀ b o, H b = some o → b ≠ D := fun b o hb => ne_of_none hb nD
    generalize upd H D (.dT []) = H0 at s0 hD hv0
    refine ⟨.int n, rfl, v, rfl, n, v, T, rfl, n1, hv0, okT, fun H1 c cs CL s1 nc hc qcs rd hcl _ => ?_⟩
    have hsl : cs.length = CL.length := by rw [qcs.len, List.length_map]
    have hD1 := s1 _ _ hD
    have ncD : c ≠ D := fun z => by rw [z, hD] at nc; cases nc
    have hlen : ∀ C ∈ CL, C.length ≤ 192 := fun C hC => rd.len n1 hC
    refine ⟨c, rfl, ⟨_, SqL.of hc⟩, for_it (walk_list (K := K) (a := c) (xs := cs)) (fun i σ G => ∃ (v4 v5 v6 : Option V) (kvs : List (List Key × V)), σ = [some (.int n), some v, some (.int k), some (.ref D), v4, v5, v6, none] ∧ (∀ b o, b ≠ D → H1 b = some o → G b = some o) ∧ G D = some (.dT kvs) ∧ kvs.length ≤ 192 * i ∧ BehP n (powS (stp n T) k) G (CL.take i).flatten kvs)
      ⟨_, _, _, [], rfl, fun _ _ _ h => h, hD1, Nat.zero_le _, ⟨(fun _ h => nomatch h), (fun _ h => nomatch h)⟩⟩ (fun i σ G _ ⟨_, _, _, _, _, k, _⟩ => SqL.of (k _ _ ncD hc)) ?_ ?_⟩
    · rintro i x σ _ G hi ⟨v4, v5, v6, kvs, rfl, kG, hG, hkl, beh⟩ ⟨rfl, hx⟩
      obtain ⟨d, hd, hdq⟩ := qcs.get hx
      rw [List.getElem?_map] at hd
      cases hC : CL[i]? with
      | none => rw [hC] at hd; cases hd
      | some C =>
        rw [hC] at hd
        cases hd
        cases hdq with
        | @lst ca xs _ hca qx =>
        have hCm := List.mem_of_getElem? hC
        have hxl : xs.length = C.length := by rw [qx.len, List.length_map]
        have hCl := hlen C hCm
        have cy := rd.cyc C hCm
        have hcD : ca ≠ D := fun z => by
          rw [z, hD1] at hca
          cases hca
        have hi2 : i < 1000 := by omega
        refine ⟨.ref ca, rfl, ca, xs, rfl, SqL.of (kG _ _ hcD hca), for_it walk_enum (fun j σ G2 => ∃ (v5 v6 : Option V) (kvs : List (List Key × V)), σ = [some (.int n), some v, some (.int k), some (.ref D), some (.ref ca), v5, v6, none] ∧ (∀ b o, b ≠ D → H1 b = some o → G2 b = some o) ∧ G2 D = some (.dT kvs) ∧ kvs.length ≤ 192 * i + j ∧ BehP n (powS (stp n T) k) G2 ((CL.take i).flatten ++ C.take j) kvs)
          ⟨_, _, kvs, rfl, kG, hG, by omega, by rw [List.take_zero, List.append_nil]; exact beh⟩ (fun j σ G2 _ ⟨_, _, _, _, k2, _⟩ => SqL.of (k2 _ _ hcD hca)) ?_ ?_⟩
        · rintro j _ σ G2 _ hj ⟨v5, v6, kvs, rfl, k2, hG2, hkl2, beh2⟩ ⟨t, x, y, rfl, nt, rfl, e1, e2⟩
          cases Option.some.inj e1
          obtain ⟨p, hp, a0, rfl, ha0⟩ := pD_get qx e2
          have hpp : p ∈ prs n := rd.sub C hCm p (List.mem_of_getElem? hp)
          have st := same_new (o := .tup [.int (j : Nat), .ref a0]) nt
          refine ⟨t, [.int (j : Nat), .ref a0], rfl, SqT.of upd_same, rfl, .int (j : Nat), [.ref a0], rfl, .ref a0, [], rfl, rfl, ?_⟩
          have hpow := cy.pow hCl hp k
          have hm0 : 0 ≤ ((j : Int) + k) % (C.length : Int) := Int.emod_nonneg _ (by have := cy.ne; omega)
          obtain ⟨m, hm⟩ : ∃ m : Nat, ((j : Int) + k) % (C.length : Int) = m := ⟨_, (Int.toNat_of_nonneg hm0).symm⟩
          rw [hm, Int.toNat_natCast] at hpow
          obtain ⟨w1, hw1⟩ : ∃ w1, xs[m]? = some w1 := ⟨_, List.getElem?_eq_getElem (by rw [hxl]; exact (List.getElem?_eq_some_iff.mp hpow).1)⟩
          obtain ⟨p', hp', a1, rfl, ha1⟩ := pD_get qx hw1
          rw [hpow] at hp'
          cases Option.some.inj hp'
          have k3 : ∀ b o, b ≠ D → H1 b = some o → upd G2 t (.tup [.int (j : Nat), .ref a0]) b = some o := fun b o h1 h2 => st _ _ (k2 _ _ h1 h2)
          have hG3 := st _ _ hG2
          have beh3 := beh2.up (TS.of st)
          generalize upd G2 t (.tup [.int (j : Nat), .ref a0]) = G3 at k3 hG3 beh3
          have na0 : a0 ≠ D := ne_of ha0 hD1 (by intro z; cases z)
          have na1 : a1 ≠ D := ne_of ha1 hD1 (by intro z; cases z)
          refine ⟨.ref ca, rfl, .int j, rfl, .int k, rfl, _, _, rfl, rfl, .ref ca, rfl, ca, xs, rfl, .inl (SqL.of (k3 _ _ hcD hca)), _, _, rfl, rfl, by have := cy.ne; omega, ca, xs, m, _, rfl, by rw [hxl]; exact congrArg V.int hm, SqL.of (k3 _ _ hcD hca), atI_nat hw1, ?_⟩
          refine ⟨.ref D, rfl, .ref a0, rfl, D, _, rfl, DPut.t (k := pK p) hG3 (k3 _ _ na0 ha0) ?_, ?_⟩
          · rw [sizeLine_eq]
            omega
          · have ts : TS G3 (upd G3 D (.dT (putK kvs (pK p) (.ref a1)))) := fun b ys hb => by
              rw [upd_ne (ne_of hb hG3 (by intro z; cases z))]
              exact hb
            have hlp := length_putK kvs (pK p) (V.ref a1)
            refine ⟨_, _, putK kvs (pK p) (.ref a1), rfl, fun b o h1 h2 => by rw [upd_ne h1]; exact k3 _ _ h1 h2, upd_same, by omega, ?_⟩
            rw [List.take_add_one, hp, ← List.append_assoc]
            exact (beh3.put hpp (k3 _ _ na1 ha1)).up ts
        · rintro σ G2 ⟨v5, v6, kvs, rfl, k2, hG2, hkl2, beh2⟩
          rw [hxl, List.take_length, ← flat_takeC hC] at beh2
          exact ⟨_, _, _, kvs, rfl, k2, hG2, by omega, beh2⟩
    · rintro σ G ⟨v4, v5, v6, kvs, rfl, kG, hG, hkl, beh⟩
      have beh0 : BehAt n (powS (stp n T) k) G kvs := ⟨beh.keys, fun p hp => beh.val p (by rw [hsl, List.take_length]; exact rd.fl hp)⟩
      have sHG : Same H G := fun b o hb => kG _ _ (nf _ _ hb) (s1 _ _ (s0 _ _ hb))
      obtain ⟨va, es, rfl, hva, qe⟩ := Dq.tup_inv (hv.up sHG)
      have hTl := okT.len n1
      have hel : es.length = 2 ^ n := by rw [qe.len, List.length_map, hTl]
      have hp64 : 2 ^ n ≤ 64 := by have := all_few n (by omega); rw [all_len n (by omega)] at this; exact this
      refine ⟨.ref va, rfl, va, es, rfl, .inr (SqT.of hva), (es.length : Int), rfl, by omega, by omega, fun W nW => ?_⟩
      rw [Int.toNat_natCast, hel]
      refine lc_itF (walk_rg (n := 2 ^ n)) (fun i => entD (rowF n (fun p => (powS (stp n T) k p).2) i)) nW (by omega) (fun _ _ => ent_flat _) (fun _ _ => trivial) (fun x y G1 G' C Cn hx s2 hy c => ?_) (fun G1 bs s2 hW qb => ?_)
      · obtain ⟨rfl, rfl⟩ := hy
        refine ⟨rfl, ?_⟩
        dsimp only [tYes]
        rw [if_pos rfl]
        refine ⟨.int n, rfl, .int x, rfl, .ref D, rfl, n, x, D, kvs, powS (stp n T) k, rfl, n1, s2 _ _ hG, beh0.up (TS.of s2), fun H' t s3 ht => ?_⟩
        exact c _ _ s3 (ent_at ht)
      · refine ⟨W, _, rfl, .inl ⟨SqL.of hW, fun t nt => q _ _ (sHG.trans (s2.trans (same_new nt))) ?_⟩⟩
        exact .tup upd_same (by rw [show (powT n T k).map entD = _ from List.map_map ..]; exact qb.up (same_new nt))
end
end Kr
namespace Kr
open PySem PySem.Spec PyProof.Rows L2
/-! ### the tables of what programs do -/
def tabM (n : Nat) : Mea (List (List Int)) := ⟨fun d => deedT n d.1 d.2.1 d.2.2, fun as => as.foldl (bothT n) (stillT n), turnT n, fun T k => powT n T (k : Int)⟩
theorem fold_ok {n : Nat} (hn : n ≤ 6) : ∀ {as : List (List (List Int))} {T : List (List Int)}, TabOk n T → (∀ a ∈ as, TabOk n a) → TabOk n (as.foldl (bothT n) T)
  | [], _, h, _ => h
  | a :: as, T, h, g => fold_ok hn (as := as) (T := bothT n T a) (h.both hn (g a List.mem_cons_self)) fun x hx => g x (List.mem_cons_of_mem _ hx)
def tabR (n : Nat) (hn : n ≤ 6) : MeaR (List (List Int)) where
  toMea := tabM n
  rep := fun T v H => Dq H v (tabD T)
  flds := fun fs => fs = [(("_n" : Str), V.int (n : Int))]
  ok := TabOk n
  okD := Deed n
  most := 400
  up := fun s h => Dq.upT s (tab_flat _) h
  cD := fun h => h.ok hn
  cR := fun h _ => fold_ok hn (still_ok hn) h
  cB := fun h => h.turn hn
  cT := fun h _ => powT_ok hn h _
  nD := fun h => by rw [h]; rfl
  nR := fun h => by rw [h]; rfl
  nB := fun h => by rw [h]; rfl
  nT := fun h => by rw [h]; rfl
abbrev sTmInit : Stmt := inClass sTableMeasure 0
abbrev sTmDeed : Stmt := inClass sTableMeasure 1
abbrev sTmRow : Stmt := inClass sTableMeasure 2
abbrev sTmBack : Stmt := inClass sTableMeasure 3
abbrev sTmTimes : Stmt := inClass sTableMeasure 4
def spMakeN (C : Addr) : Sp := fun vs H Q _ => ∃ (x dx : Addr) (n : Nat), vs = [.ref x, .int (n : Int)] ∧ H x = some (.ins C dx []) ∧ Q .non (upd H x (.ins C dx [(("_n" : Str), V.int (n : Int))]))
theorem deed_inv {H : Hp} {v : V} {d : Mv} (h : Dq H v (deedD d)) : ∃ a q, v = .ref a ∧ H a = some (.tup [.ref q, .int (d.2.1 : Nat), .int (d.2.2 : Nat)]) ∧ H q = some (.tup (lv d.1)) := by
  obtain ⟨a, xs, rfl, ha, qx⟩ := Dq.tup_inv h
  cases qx with
  | cons q1 qx =>
  cases qx with
  | cons q2 qx =>
  cases qx with
  | cons q3 qx =>
  cases qx
  cases q2
  cases q3
  obtain ⟨q, ys, rfl, hq, qy⟩ := Dq.tup_inv q1
  refine ⟨a, q, rfl, ha, ?_⟩
  have e : d.1.map (fun (x : Nat) => PyData.int (x : Int)) = (d.1.map fun (x : Nat) => (x : Int)).map PyData.int := by rw [List.map_map]; rfl
  rw [e] at qy
  rw [hq, dqa_int qy, List.map_map]
  rfl
section
variable {P : Program} {w : World} {K : PySem.W.Frag} {mg : Str → Option Value} {base : Heap}
variable {C : Addr}
theorem f_tmInit {f : Addr} {fd : FuncData} (F : Fun K "__init__" "TableMeasure.__init__" sTmInit f fd) (CL : Cls K C) (nN : NoAttr K C "_n") : FnOk P w K mg base CX0 1 f fd ["self", "n"] (spMakeN C) := by
  have sc : FnScope ["self", "n"] ["self", "n"] (defScope sTmInit) := ⟨rfl, rfl, rfl, by decide +kernel, rfl, by decide +kernel, by decide +kernel⟩
  refine F.ok sc (fun vs H Q E h => ?_) (fun cdv A outer s H vs Q E hr h => ?_)
  · obtain ⟨_, _, _, rfl, _⟩ := h
    rfl
  · obtain ⟨x, dx, n, rfl, hx, q⟩ := h
    exact ⟨_, pss_one (ps_fld (pv 0) (pv 1) rfl), .int n, rfl, .ref x, rfl, x, C, dx, [], rfl, hx, CL, nN, by decide, q⟩
theorem f_tmDeed {f : Addr} {fd : FuncData} {n : Nat} {hn : n ≤ 6} (F : Fun K "of_deed" "TableMeasure.of_deed" sTmDeed f fd) (CL : Cls K C) (nN : NoAttr K C "_n") (dt : Ok P w K mg base 3 "deed_table" ["n", "deed"] spDeedT) : FnOk P w K mg base CX0 8 f fd ["self", "deed"] ((tabR n hn).spD C) := by
  have sc : FnScope ["self", "deed"] ["self", "deed"] (defScope sTmDeed) := ⟨rfl, rfl, rfl, by decide +kernel, rfl, by decide +kernel, by decide +kernel⟩
  refine F.ok sc (fun vs H Q E h => ?_) (fun cdv A outer s H vs Q E hr h => ?_)
  · obtain ⟨_, _, _, rfl, _⟩ := h
    rfl
  · obtain ⟨m, v, d, rfl, ⟨ma, dx, fs, rfl, hm, rfl⟩, hv, hd, q⟩ := h
    have hr3 := hr.mono (show 3 ≤ 7 by decide)
    obtain ⟨da, qa, rfl, h1, h2⟩ := deed_inv hv
    have a1 := Deed.ab hd
    have a2 := Deed.bn hd
    have a3 := (Deed.asc hd).len
    exact ⟨_, pss_one (ps_ret (pe_fn dt hr3 (by rfl) (pa_cons (pe_fld (pv 0) rfl) (pa_cons (pv 1) pa_nil)))), .ref ma, rfl, ma, C, dx, _, _, rfl, hm, CL, nN, rfl, .ref da, rfl, n, da, qa, d.1, d.2.1, d.2.2, rfl, hn, h1, h2, by omega, by omega, a2, fun H' r s1 h => q H' r s1 h⟩
theorem f_tmBack {f : Addr} {fd : FuncData} {n : Nat} {hn : n ≤ 6} (F : Fun K "of_back" "TableMeasure.of_back" sTmBack f fd) (CL : Cls K C) (nN : NoAttr K C "_n") (un : Ok P w K mg base 5 "undone" ["n", "table"] spUndone) : FnOk P w K mg base CX0 8 f fd ["self", "worth"] ((tabR n hn).spB C) := by
  have sc : FnScope ["self", "worth"] ["self", "worth"] (defScope sTmBack) := ⟨rfl, rfl, rfl, by decide +kernel, rfl, by decide +kernel, by decide +kernel⟩
  refine F.ok sc (fun vs H Q E h => ?_) (fun cdv A outer s H vs Q E hr h => ?_)
  · obtain ⟨_, _, _, rfl, _⟩ := h
    rfl
  · obtain ⟨m, v, T, rfl, ⟨ma, dx, fs, rfl, hm, rfl⟩, hv, hT, q⟩ := h
    have hr5 := hr.mono (show 5 ≤ 7 by decide)
    exact ⟨_, pss_one (ps_ret (pe_fn un hr5 (by rfl) (pa_cons (pe_fld (pv 0) rfl) (pa_cons (pv 1) pa_nil)))), .ref ma, rfl, ma, C, dx, _, _, rfl, hm, CL, nN, rfl, v, rfl, n, v, T, rfl, hn, hv, hT, fun H' r s1 h => q H' r s1 h⟩
theorem f_tmTimes {f : Addr} {fd : FuncData} {n : Nat} {hn : n ≤ 6} (F : Fun K "of_times" "TableMeasure.of_times" sTmTimes f fd) (CL : Cls K C) (nN : NoAttr K C "_n") (po : Ok P w K mg base 7 "power" ["n", "table", "k"] spPower) : FnOk P w K mg base CX0 8 f fd ["self", "worth", "k"] ((tabR n hn).spT C) := by
  have sc : FnScope ["self", "worth", "k"] ["self", "worth", "k"] (defScope sTmTimes) := ⟨rfl, rfl, rfl, by decide +kernel, rfl, by decide +kernel, by decide +kernel⟩
  refine F.ok sc (fun vs H Q E h => ?_) (fun cdv A outer s H vs Q E hr h => ?_)
  · obtain ⟨_, _, _, _, rfl, _⟩ := h
    rfl
  · obtain ⟨m, v, T, k, rfl, ⟨ma, dx, fs, rfl, hm, rfl⟩, hv, hT, hk, q⟩ := h
    exact ⟨_, pss_one (ps_ret (pe_fn po hr (by rfl) (pa_cons (pe_fld (pv 0) rfl) (pa_cons (pv 1) (pa_cons (pv 2) pa_nil))))), .ref ma, rfl, ma, C, dx, _, _, rfl, hm, CL, nN, rfl, v, rfl, .int (k : Int), rfl, n, v, T, (k : Int), rfl, hn, hv, hT, fun H' r s1 h => q H' r s1 h⟩
theorem f_tmRow {f : Addr} {fd : FuncData} {n : Nat} {hn : n ≤ 6} (F : Fun K "of_row" "TableMeasure.of_row" sTmRow f fd) (CL : Cls K C) (nN : NoAttr K C "_n") (st : Ok P w K mg base 4 "still" ["n"] spStill) (bo : Ok P w K mg base 5 "both" ["n", "one", "other"] spBoth) : FnOk P w K mg base CX0 8 f fd ["self", "worths"] ((tabR n hn).spR C) := by
  have sc : FnScope ["self", "worths", "table", "worth"] ["self", "worths"] (defScope sTmRow) := ⟨rfl, rfl, rfl, by decide +kernel, rfl, by decide +kernel, by decide +kernel⟩
  refine F.ok sc (fun vs H Q E h => ?_) (fun cdv A outer s H vs Q E hr h => ?_)
  · obtain ⟨_, _, _, _, rfl, _⟩ := h
    rfl
  · obtain ⟨m, a, us, as, rfl, ⟨ma, dx, fs, rfl, hm, rfl⟩, ha, hul, has, hus, hok, q⟩ := h
    have hr4 := hr.mono (show 4 ≤ 7 by decide)
    have hr5 := hr.mono (show 5 ≤ 7 by decide)
    refine ⟨_, pss_cons (ps_set (i := 2) sc.nd rfl (.inl rfl) (pe_fn st hr4 (by rfl) (pa_cons (pe_fld (pv 0) rfl) pa_nil)))
      (pss_cons (ps_for PassesOwn.never rfl (pi_list (pv 1)) (pg_name (i := 3) sc.nd rfl (.inl rfl))
        (pss_one (ps_set (i := 2) sc.nd rfl (.inl rfl) (pe_fn bo hr5 (by rfl) (pa_cons (pe_fld (pv 0) rfl) (pa_cons (pv 2) (pa_cons (pv 3) pa_nil)))))))
      (pss_one (ps_ret (pv 2)))), ?_⟩
    refine ⟨.ref ma, rfl, ma, C, dx, _, _, rfl, hm, CL, nN, rfl, n, rfl, hn, fun H1 sv s1 h1 => ?_⟩
    dsimp only [tNext]
    refine ⟨.ref a, rfl, a, rfl, ⟨us, SqL.of (s1 _ _ ha)⟩, for_it (walk_list (K := K) (a := a) (xs := us)) (fun i σ G => ∃ (v2 : V) (v3 : Option V), σ = [some (.ref ma), some (.ref a), some v2, v3] ∧ Same H G ∧ Dq G v2 (tabD ((as.take i).foldl (bothT n) (stillT n)))) ⟨sv, none, rfl, s1, h1⟩ (fun _ _ _ _ ⟨_, _, _, sm, _⟩ => SqL.of (sm _ _ ha)) ?_ ?_⟩
    · rintro i x σ _ G hi ⟨v2, v3, rfl, sm, h2⟩ ⟨rfl, hx⟩
      have hx := hx
      obtain ⟨T, hT⟩ : ∃ T, as[i]? = some T := ⟨_, List.getElem?_eq_getElem (by rw [← hul]; exact hi)⟩
      have okT := hok T (List.mem_of_getElem? hT)
      have okF : TabOk n ((as.take i).foldl (bothT n) (stillT n)) := fold_ok hn (still_ok hn) fun y hy => hok y (List.mem_of_mem_take hy)
      obtain ⟨b1, b2, b3, b4⟩ := okF.both_in hn
      obtain ⟨b5, b6, b7, b8⟩ := TabOk.both_in hn okT
      refine ⟨.ref ma, rfl, ma, C, dx, _, _, rfl, sm _ _ hm, CL, nN, rfl, v2, rfl, x, rfl, n, v2, x, _, T, rfl, hn, h2, Dq.upT (TS.of sm) (tab_flat T) (hus i x T hx hT), b1, b2, b7, b8, fun H3 r s3 h3 => ?_⟩
      refine ⟨r, _, rfl, sm.trans s3, ?_⟩
      rw [List.take_add_one, hT, List.foldl_append]
      exact h3
    · rintro σ G ⟨v2, v3, rfl, sm, h2⟩
      rw [hul, List.take_length] at h2
      exact ⟨v2, rfl, q G v2 sm h2⟩
end
end Kr
namespace Kr
open PySem PySem.Spec PyProof.Rows L2
/-! ### run, table_of, led -/
theorem same_insM {H : Hp} {x dx : Addr} {C : Addr} {fs : List (Str × V)} (hx : H x = none) (hd : H dx = none) : Same H (upd (upd H dx (.own x)) x (.ins C dx fs)) := fun b o e => by
  rw [upd_ne (ne_of_none e hx), upd_ne (ne_of_none e hd)]
  exact e
def spRun (CT : Addr) (n : Nat) : Sp := fun vs H Q E => ∃ (v sv : V) (p : List Tm) (ss : List Int) (N : Int), vs = [.int N, v, sv] ∧ Dq H v (.tuple (p.map tmD)) ∧ Dq H sv (stD ss) ∧ ss.length ≤ 1000 ∧ PrOk (Deed ss.length) 400 n p ∧ (∀ ms, progW stepM p = some ms → ∀ H' r, Same H H' → Dq H' r (stD (runM ms ss)) → Q r H') ∧ (progW stepM p = none → ∀ H' d, Same H H' → H' d = none → E (.ref CT) (some d) (upd H' d (.xd [(("limit" : Str), V.int 5000)])))
def spTableOf (n : Nat) : Sp := fun vs H Q _ => ∃ (v : V) (p : List Tm) (m : Nat), vs = [.int (m : Int), v] ∧ m ≤ 6 ∧ Dq H v (.tuple (p.map tmD)) ∧ PrOk (Deed m) 400 n p ∧ ∀ H' r, Same H H' → Dq H' r (tabD (progW (tabM m) p)) → Q r H'
section
variable {P : Program} {w : World} {K : PySem.W.Frag} {mg : Str → Option Value} {base : Heap}
variable {C CT fI : Addr}
theorem f_run {f : Addr} {fd : FuncData} {n : Nat} (F : Fun K "run" "run" sRun f fd) (B : Bi mg) (M : MkP K C) (mC : mg "StepsMeasure" = some (.ref C)) (T : PySem.TooX.TooTxt K mg CT fI) (hM : ∃ t, mg "MAX_STEPS" = some (.int 5000 t)) (dn : Ok P w K mg base 1 "done" ["standing", "deed"] spDone)
    (pw : ∀ m, Ok P w K mg base (n + 2) "program_worth" ["program", "measure"] (spPW (stepR m) C n)) : FnOk P w K mg base (L2.CX P w) (n + 3) f fd ["n", "program", "standing"] (spRun CT n) := by
  obtain ⟨tM, gM⟩ := hM
  have sc : FnScope ["n", "program", "standing", "deeds", "behind", "deed"] ["n", "program", "standing"] (defScope sRun) := ⟨rfl, rfl, rfl, by decide +kernel, rfl, by decide +kernel, by decide +kernel⟩
  refine F.okX sc (fun vs H Q E h => ?_) (fun cdv A outer s H vs Q E hr h => ?_)
  · obtain ⟨_, _, _, _, _, rfl, _⟩ := h
    rfl
  · obtain ⟨v, sv, p, ss, N, rfl, hv, hsv, hsl, hp, q, qx⟩ := h
    have hr1 := hr.mono (show 1 ≤ n + 2 by omega)
    refine ⟨_, pss_cons (ps_set (i := 3) sc.nd rfl (.inl rfl) (pe_fn (pw ss.length) hr (by rfl) (pa_cons (pv 1) (pa_cons (pe_makeP M (by rfl) mC) pa_nil))))
      (pss_cons (ps_if (pt_cmpR op_isN (pv 3) pe_non (nomark _)) (pss_one (ps_raiseToo rfl T hr1 (takes_of rfl rfl rfl rfl) (pa_cons (pe_glob (v := .int 5000) (by rfl) gM ⟨_, rfl⟩) pa_nil))) pss_nil)
      (pss_cons (ps_set (i := 4) sc.nd rfl (.inl rfl) (pv 2))
      (pss_cons (ps_for (passes_of rfl) rfl (pi_tup (pv 3)) (pg_name (i := 5) sc.nd rfl (.inl rfl))
        (pss_one (ps_set (i := 4) sc.nd rfl (.inl rfl) (pe_fn dn hr1 (by rfl) (pa_cons (pv 4) (pa_cons (pv 5) pa_nil))))))
      (pss_one (ps_ret (pv 4)))))), ?_⟩
    refine ⟨v, rfl, fun x dx hx hd hne => ?_⟩
    have s1 := same_insM (C := C) (fs := []) hx hd
    refine ⟨v, .ref x, p, rfl, ⟨x, dx, [], rfl, upd_same, rfl⟩, hv.up s1, Nat.le_refl _, hp, fun H' r s2 h => ?_⟩
    have h2 : Dq H' r (stepD (progW stepM p)) := h
    have s12 := s1.trans s2
    dsimp only [tNext]
    refine ⟨r, rfl, rfl, _, rfl, ?_⟩
    cases hw : progW stepM p with
    | none =>
      rw [hw] at h2
      cases h2
      exact iteT ⟨_, rfl, fun d hd => qx hw H' d s12 hd⟩
    | some ms =>
      rw [hw] at h2
      obtain ⟨a, xs, rfl, ha, qa⟩ := Dq.tup_inv h2
      refine iteF ?_
      dsimp only [tNext]
      have okm : ∀ m ∈ ms, Deed ss.length m := by
        have h3 := wsAll_ok (stepR ss.length) hp p.length (Nat.le_refl _)
        rw [List.take_length] at h3
        have h4 : progW stepM p ∈ wsAll stepM p [] := by
          unfold progW
          have hl : (wsAll stepM p []).length = p.length := by rw [wsAll_len]; show 0 + _ = _; omega
          have hne := hp.ne
          rw [List.getLastD_eq_getLast?, List.getLast?_eq_getElem?, List.getElem?_eq_getElem (by omega)]
          exact List.getElem_mem _
        exact (h3 _ h4 ms hw).2
      refine ⟨sv, rfl, ?_⟩
      dsimp only [tNext]
      refine ⟨.ref a, rfl, a, rfl, ⟨xs, SqT.of ha⟩, for_it (walk_tup (K := K) (a := a) (xs := xs)) (fun i σ G => ∃ (v4 : V) (v5 : Option V), σ = [some (.int N), some v, some sv, some (.ref a), some v4, v5] ∧ Same H' G ∧ Dq G v4 (stD (runM (ms.take i) ss))) ⟨sv, none, rfl, Same.refl _, hsv.up s12⟩ (fun _ _ _ _ ⟨_, _, _, sm, _⟩ => SqT.of (sm _ _ ha)) ?_ ?_⟩
      · rintro i x σ _ G hi ⟨v4, v5, rfl, sm, h4⟩ ⟨rfl, hx⟩
        obtain ⟨d0, hd0, qd⟩ := qa.get hx
        rw [List.getElem?_map] at hd0
        obtain ⟨m, hm, rfl⟩ := Option.map_eq_some_iff.mp hd0
        obtain ⟨da, la, rfl, e1, e2⟩ := deed_inv (qd.up sm)
        obtain ⟨st, us, rfl, e3, q3⟩ := Dq.tup_inv h4
        have e4 : us = (runM (ms.take i) ss).map V.int := dqa_int q3
        subst e4
        have hdd := okm m (List.mem_of_getElem? hm)
        refine ⟨.ref st, rfl, .ref da, rfl, st, da, la, runM (ms.take i) ss, m.1.map (fun (x : Nat) => (x : Int)), (m.2.1 : Nat), (m.2.2 : Nat), rfl, e3, e1, by rw [e2, List.map_map]; rfl, by rw [runM_len]; exact hdd.inR hsl, by rw [runM_len]; exact hsl, fun G2 t s3 ht => ?_⟩
        refine ⟨.ref t, _, rfl, sm.trans s3, ?_⟩
        have e5 : runM (ms.take (i + 1)) ss = doM (runM (ms.take i) ss) m := by
          unfold runM
          rw [List.take_add_one, hm, List.foldl_append]
          rfl
        rw [e5]
        exact .tup ht (DqA.ints _)
      · rintro σ G ⟨v4, v5, rfl, sm, h4⟩
        have hxl : xs.length = ms.length := by rw [qa.len, List.length_map]
        rw [hxl, List.take_length] at h4
        exact ⟨v4, rfl, q ms hw G v4 (s12.trans sm) h4⟩
theorem f_tableOf {f : Addr} {fd : FuncData} {n : Nat} {fi : Addr} {fdi : FuncData} (F : Fun K "table_of" "table_of" sTableOf f fd) (M : Mk K C fi) (mC : mg "TableMeasure" = some (.ref C)) (GI : FnOk P w K mg base CX0 1 fi fdi ["self", "n"] (spMakeN C)) (bI : Binds K fdi ["self", "n"] [])
    (pw : ∀ m (hm : m ≤ 6), Ok P w K mg base (8 + n + 1) "program_worth" ["program", "measure"] (spPW (tabR m hm) C n)) : FnOk P w K mg base CX0 (8 + n + 2) f fd ["n", "program"] (spTableOf n) := by
  have sc : FnScope ["n", "program"] ["n", "program"] (defScope sTableOf) := ⟨rfl, rfl, rfl, by decide +kernel, rfl, by decide +kernel, by decide +kernel⟩
  refine F.ok sc (fun vs H Q E h => ?_) (fun cdv A outer s H vs Q E hr h => ?_)
  · obtain ⟨_, _, _, rfl, _⟩ := h
    rfl
  · obtain ⟨v, p, m, rfl, hm, hv, hp, q⟩ := h
    have hr2 := hr.mono (show 1 + 1 ≤ 8 + n + 1 by omega)
    refine ⟨_, pss_one (ps_ret (pe_fn (pw m hm) hr (by rfl) (pa_cons (pv 1) (pa_cons (pe_make M GI hr2 (by rfl) mC bI .nil pass0 (pa_cons (pv 0) pa_nil)) pa_nil)))), ?_⟩
    refine ⟨v, rfl, .int (m : Int), rfl, fun x dx hx hd hne => ⟨x, dx, m, rfl, upd_same, rfl, ?_⟩⟩
    have s1 := same_insM (C := C) (fs := [(("_n" : Str), V.int (m : Int))]) hx hd
    have e : upd (upd (upd H dx (.own x)) x (.ins C dx [])) x (.ins C dx [(("_n" : Str), V.int (m : Int))]) = upd (upd H dx (.own x)) x (.ins C dx [(("_n" : Str), V.int (m : Int))]) := by
      funext b
      by_cases c : b = x
      · subst c
        rw [upd_same, upd_same]
      · rw [upd_ne c, upd_ne c, upd_ne c]
    rw [e]
    exact ⟨v, .ref x, p, rfl, ⟨x, dx, _, rfl, upd_same, rfl⟩, hv.up s1, Nat.le_refl _, hp, fun H' r s2 h => q H' r (s1.trans s2) h⟩
end
end Kr
namespace Kr
open PySem PySem.Spec PyProof.Rows L2
def spStandP : Sp := fun vs H Q _ => ∃ (p l : Addr) (n : Nat) (kv : V) (ks : List Nat), vs = [.ref p, .int (n : Int), kv] ∧ Deck H p l ∧ n ≤ 6 ∧ Dq H kv (lotD ks) ∧ ∀ H' v ss, Deck H' p l → Ext p l H H' → Dq H' v (stD ss) → KeysAt n ks ss → (∀ z ∈ ss, 0 ≤ z ∧ z < 100) → (ss.filter fun z => !decide (z = 0)).Nodup → Q v H'
theorem erase_map {α β : Type} (f : α → β) : ∀ (l : List α) (i : Nat), (l.map f).eraseIdx i = (l.eraseIdx i).map f
  | [], _ => rfl
  | _ :: _, 0 => rfl
  | x :: l, i + 1 => by
    show f x :: (l.map f).eraseIdx i = f x :: (l.eraseIdx i).map f
    rw [erase_map f l i]
theorem perm_erase {α : Type} : ∀ (l : List α) (i : Nat) (h : i < l.length), (l[i] :: l.eraseIdx i).Perm l
  | x :: l, 0, _ => .refl _
  | x :: l, i + 1, h => by
    have ih := perm_erase l i (Nat.lt_of_succ_lt_succ h)
    show (l[i]'(Nat.lt_of_succ_lt_succ h) :: x :: l.eraseIdx i).Perm (x :: l)
    exact (List.Perm.swap _ _ _).trans (ih.cons x)
structure SI (p l : Addr) (H : Hp) (ka L F : Addr) (ks : List Nat) (i j : Nat) (zs ss : List Int) (G : Hp) : Prop where
  D : Deck G p l
  E : Ext p l H G
  hL : G L = some (.lst (zs.map V.int))
  hF : G F = some (.lst (ss.map V.int))
  hk : G ka = some (.tup (lv ks))
  z1 : ∀ z ∈ zs, 1 ≤ z ∧ z < 100
  z2 : 99 ≤ zs.length + j
  z3 : zs.length ≤ 99
  sl : ss.length = i
  s1 : ∀ z ∈ ss, 0 ≤ z ∧ z < 100
  s2 : ∀ x, x < i → (x ∈ ks ↔ ss.getD x 0 = 0)
  nd : (zs ++ ss.filter fun z => !decide (z = 0)).Nodup
theorem SI.put {p l : Addr} {H : Hp} {ka L F : Addr} {ks : List Nat} {i j : Nat} {zs ss : List Int} {G : Hp} (h : SI p l H ka L F ks i j zs ss G) (nF : F ≠ p ∧ F ≠ l) (nF0 : H F = none) (nFL : F ≠ L) (nkF : ka ≠ F) {r : Int} (r0 : 0 ≤ r) (r1 : r < 100) (hr : i ∈ ks ↔ r = 0) (hj : j ≤ i + 1) (hn : r ≠ 0 → r ∉ zs ++ ss.filter fun z => !decide (z = 0)) :
    SI p l H ka L F ks (i + 1) (i + 1) zs (ss ++ [r]) (upd G F (.lst (ss.map V.int ++ [.int r]))) where
  D := h.D.mut nF.1 nF.2
  E := Ext.mut h.E nF0
  hL := by rw [upd_ne nFL.symm]; exact h.hL
  hF := by rw [upd_same, List.map_append]; rfl
  hk := by rw [upd_ne nkF]; exact h.hk
  z1 := h.z1
  z2 := by have := h.z2; omega
  z3 := h.z3
  sl := by rw [List.length_append, h.sl]; rfl
  s1 := fun z hz => (List.mem_append.mp hz).elim (h.s1 z) fun c => by rw [List.mem_singleton.mp c]; exact ⟨r0, r1⟩
  s2 := fun x hx => by
    have hsl := h.sl
    by_cases c : x < i
    · rw [List.getD_eq_getElem?_getD, List.getElem?_append_left (by omega), ← List.getD_eq_getElem?_getD]
      exact h.s2 x c
    · have : x = i := by omega
      subst this
      rw [List.getD_eq_getElem?_getD, List.getElem?_append_right (by omega), hsl, Nat.sub_self]
      exact hr
  nd := by
    rw [List.filter_append]
    by_cases c : r = 0
    · subst c
      simpa using h.nd
    · have e : List.filter (fun z => !decide (z = 0)) [r] = [r] := by simp [c]
      rw [e, ← List.append_assoc, List.nodup_append]
      refine ⟨h.nd, by simp, fun a ha b hb => ?_⟩
      rw [List.mem_singleton.mp hb]
      rintro rfl
      exact hn c ha
section
variable {P : Program} {w : World} {K : PySem.W.Frag} {mg : Str → Option Value} {base : Heap}
abbrev n_lStandP : List Str := ["box", "n", "keys", "left", "found", "x"]
theorem sc_lStandP : FnScope n_lStandP ["box", "n", "keys"] (defScope sLStanding) := ⟨rfl, rfl, rfl, by decide +kernel, rfl, by decide +kernel, by decide +kernel⟩
theorem o_lStandP (D0 : Df K mg "_law_standing" sLStanding ["box", "n", "keys"]) (B : Bi mg) (dr : Ok P w K mg base 1 "_law_draw" ["box", "many"] spDraw) : Ok P w K mg base 2 "_law_standing" ["box", "n", "keys"] spStandP := by
  refine D0.ok fun f fd F => F.ok sc_lStandP (fun vs H Q E h => ?_) (fun cdv A outer s H vs Q E hr h => ?_)
  · obtain ⟨_, _, _, _, _, rfl, _⟩ := h
    rfl
  · obtain ⟨p, l, n, kv, ks, rfl, Dk, n1, hk, q⟩ := h
    have hr_dr := hr.mono (show 1 ≤ 1 by omega)
    have hu : (cxOf CX0 P w K mg base n_lStandP "_law_standing" (defScope sLStanding) f cdv A outer s H E).A.units + 64 < cLine := hr.units
    have hu1 := hu_of hr
    refine ⟨_, pss_cons (ps_par (i := 3) (j := 4) rfl sc_lStandP.nd rfl rfl (by decide) rfl rfl (pa_cons (pe_listRg rfl (by rfl) B.list (prg_2 (by rfl) B.range pe_int pe_int)) (pa_cons (pe_lst pa_nil) pa_nil)) (by rfl))
      (pss_cons (ps_for PassesOwn.never rfl (pi_range1 (by rfl) B.range (pa_cons (pv 1) pa_nil)) (pg_name (i := 5) sc_lStandP.nd rfl (.inl rfl))
        (pss_one (ps_expr (pe_bm PySem.F.plainAttrs_list PySem.F.slot_list_append PySem.F.type_list_append mt_append (pv 4) (pa_cons (pe_ifExp (pt_cmpR (r := rIn K false) op_in_seq (pv 5) (pv 2) rfl) pe_int (pe_bm PySem.F.plainAttrs_list PySem.F.slot_list_pop PySem.F.type_list_pop mt_popAt (pv 3) (pa_cons (pe_fn dr hr_dr (by rfl) (pa_cons (pv 0) (pa_cons (pe_callB call_len_seq (by rfl) B.len boot_len (pa_cons (pv 3) pa_nil)) pa_nil))) pa_nil))) pa_nil)))))
      (pss_one (ps_ret (pe_callTy call_tuple_of (by rfl) B.tuple (by decide +kernel) (pa_cons (pv 4) pa_nil))))), ?_⟩
    obtain ⟨ka, kx, rfl, hka, qk⟩ := hk.tup_inv
    have ekx : kx = lv ks := by
      have e : ks.map (fun (x : Nat) => PyData.int (x : Int)) = (ks.map fun (x : Nat) => (x : Int)).map PyData.int := by rw [List.map_map]; rfl
      rw [e] at qk
      rw [dqa_int qk, List.map_map]
      rfl
    subst ekx
    refine ⟨1, 100, rfl, rfl, RgOk.of_le (by decide) (by decide) (by decide) (by decide), fun L nL => ?_⟩
    obtain ⟨e1, D1, _⟩ := new_dq (o := .lst (rgV 1 100)) Dk nL
    obtain ⟨nLp, nLl⟩ := Dk.new nL
    have hL : upd H L (.lst (rgV 1 100)) L = some (.lst (((List.range 99).map fun (k : Nat) => ((1 + k : Nat) : Int)).map V.int)) := by rw [upd_same]; rfl
    have hka1 := same_new (o := .lst (rgV 1 100)) nL _ _ hka
    generalize upd H L (.lst (rgV 1 100)) = H1 at e1 D1 hL hka1
    refine ⟨by show 0 ≤ sizeLine; decide, fun F nF => ⟨_, _, rfl, ?_⟩⟩
    obtain ⟨e2, D2, _⟩ := new_dq (o := .lst []) D1 nF
    obtain ⟨nFp, nFl⟩ := D1.new nF
    have nFL : F ≠ L := (ne_of_none hL nF).symm
    have nF0 : H F = none := Ext.free (p := p) (l := l) e1 nF nFp nFl
    have hL2 := same_new (o := .lst []) nF _ _ hL
    have hka2 := same_new (o := .lst []) nF _ _ hka1
    have hF2 := upd_same (H := H1) (a := F) (o := .lst [])
    have e12 := e1.trans e2
    generalize upd H1 F (.lst []) = H2 at D2 hL2 hka2 hF2 e12
    have nkp : ka ≠ p ∧ ka ≠ l := by
      obtain ⟨ds, st, a1, a2, _⟩ := Dk.ex
      exact ⟨ne_of hka a1 (by intro z; cases z), ne_of hka a2 (by intro z; cases z)⟩
    have nkF : ka ≠ F := ne_of hka2 hF2 (by intro z; cases z)
    have nkL : ka ≠ L := ne_of hka2 hL2 (by intro z; cases z)
    clear e1 e2 D1
    have nd99 : ((List.range 99).map fun (k : Nat) => ((1 + k : Nat) : Int)).Nodup := List.pairwise_map.mpr (List.nodup_range.imp fun h z => h (by omega))
    dsimp only [tNext]
    refine ⟨.int (n : Int), rfl, (n : Int), rfl, by omega, by omega, for_it (walk_rg (n := (n : Int).toNat)) (fun i σ G => ∃ (v5 : Option V) (zs ss : List Int), σ = [some (.ref p), some (.int (n : Int)), some (.ref ka), some (.ref L), some (.ref F), v5] ∧ SI p l H ka L F ks i i zs ss G) ⟨none, _, [], rfl, ⟨D2, e12, hL2, hF2, hka2, fun z hz => ?_, by simp, by simp, rfl, fun _ h => (nomatch h), fun x h => absurd h (by omega), by simpa using nd99⟩⟩ (fun _ _ _ _ _ => trivial) ?_ ?_⟩
    · obtain ⟨k, hk, rfl⟩ := List.mem_map.mp hz
      have := List.mem_range.mp hk
      omega
    · rintro i x σ _ G hi ⟨v5, zs, ss, rfl, I⟩ ⟨rfl, rfl⟩
      have hi6 : i < 6 := by omega
      have hz2 := I.z2
      have hz3 := I.z3
      have hsl := I.sl
      refine one_drop ?_
      refine ⟨.ref F, rfl, .inl ⟨rfl, _, SqL.of I.hF⟩, .int (i : Int), rfl, .ref ka, rfl, ka, lv ks, rfl, .inr (SqT.of I.hk), rfl, lv_fl ks, _, rfl, ?_⟩
      rw [inV_lot]
      by_cases hm : i ∈ ks
      · rw [decide_eq_true hm]
        refine iteT ⟨F, _, .int 0, rfl, rfl, I.hF, szl (by rw [List.length_map]; omega), _, zs, ss ++ [0], rfl, I.put ⟨nFp, nFl⟩ nF0 nFL nkF (by decide) (by decide) ⟨fun _ => rfl, fun _ => hm⟩ (by omega) (fun z => absurd rfl z)⟩
      · rw [decide_eq_false hm]
        refine iteF ⟨.ref L, rfl, .inl ⟨rfl, _, SqL.of I.hL⟩, .ref p, rfl, .ref L, rfl, L, _, rfl, .inl (SqL.of I.hL), p, l, _, rfl, I.D, by rw [List.length_map]; omega, by rw [List.length_map]; omega, fun G1 r D1 E1 r0 r1 => ?_⟩
        rw [List.length_map] at r1
        have hr : r.toNat < zs.length := by omega
        have hL1 := E1.at_ nLp nLl I.hL
        have hzm := I.z1 zs[r.toNat] (List.getElem_mem hr)
        refine ⟨L, _, r, r.toNat, .int zs[r.toNat], rfl, rfl, hL1, by omega, by omega, by rw [List.length_map]; exact seqIx r0 (by omega), by rw [List.getElem?_map, List.getElem?_eq_getElem hr]; rfl, ?_⟩
        have hnd : ((zs.eraseIdx r.toNat) ++ ss.filter fun z => !decide (z = 0)).Nodup ∧ zs[r.toNat] ∉ (zs.eraseIdx r.toNat) ++ ss.filter fun z => !decide (z = 0) := by
          have h0 := I.nd
          have hp : (zs[r.toNat] :: zs.eraseIdx r.toNat).Perm zs := perm_erase zs r.toNat hr
          have h1 := (hp.append_right (ss.filter fun z => !decide (z = 0))).symm.nodup h0
          rw [List.cons_append, List.nodup_cons] at h1
          exact ⟨h1.2, h1.1⟩
        have I1 : SI p l H ka L F ks i (i + 1) (zs.eraseIdx r.toNat) ss (upd G1 L (.lst ((zs.map V.int).eraseIdx r.toNat))) := ⟨D1.mut nLp nLl, Ext.mut (Same.trans I.E E1) nL, by rw [upd_same, erase_map], by rw [upd_ne nFL]; exact E1.at_ nFp nFl I.hF, by rw [upd_ne nkL]; exact E1.at_ nkp.1 nkp.2 I.hk, fun z hz => I.z1 z (List.mem_of_mem_eraseIdx hz), by rw [List.length_eraseIdx, if_pos hr]; omega, by rw [List.length_eraseIdx, if_pos hr]; omega, hsl, I.s1, I.s2, hnd.1⟩
        exact ⟨F, _, .int zs[r.toNat], rfl, rfl, I1.hF, szl (by rw [List.length_map]; omega), _, _, ss ++ [zs[r.toNat]], rfl, I1.put ⟨nFp, nFl⟩ nF0 nFL nkF (by omega) (by omega) ⟨fun z => absurd z hm, fun z => by omega⟩ (by omega) (fun _ => hnd.2)⟩
    · rintro σ G ⟨v5, zs, ss, rfl, I⟩
      dsimp only [tNext]
      refine one_ret ?_
      refine ⟨.ref F, rfl, F, _, rfl, .inl ⟨SqL.of I.hF, fun t nt => ?_⟩⟩
      have st := same_new (o := .tup (ss.map V.int)) nt
      have h1 := I.sl
      have h2 := I.s2
      rw [Int.toNat_natCast] at h1 h2
      exact q _ _ ss (I.D.up st) (Same.trans I.E (Ext.of st)) (.tup upd_same (DqA.ints ss)) ⟨h1, h2⟩ I.s1 (List.nodup_append.mp I.nd).2.1
end
end Kr
namespace Kr
open PySem PySem.Spec PyProof.Rows L2
def spThrough : Sp := fun vs H Q _ => ∃ (sv : V) (mo : Addr) (ss : List Int) (xs : List V) (ms : List Mv), vs = [sv, .ref mo] ∧ Dq H sv (stD ss) ∧ H mo = some (.lst xs) ∧ DqA H xs (ms.map deedD) ∧ (∀ m ∈ ms, Deed ss.length m) ∧ (∀ z ∈ ss, 0 ≤ z) ∧ ss.length ≤ 30 ∧ ∀ H' r, Same H H' → Dq H' r (stD (runM ms ss)) → Q r H'
theorem doM_nonneg {ss : List Int} {m : Mv} (h : ∀ z ∈ ss, 0 ≤ z) : ∀ z ∈ doM ss m, 0 ≤ z := fun z hz => by
  have hg : ∀ j : Int, 0 ≤ gz ss j := fun j => by
    unfold gz
    rw [List.getD_eq_getElem?_getD]
    cases e : ss[j.toNat]? with
    | none => exact Int.le_refl 0
    | some y => exact h y (List.mem_of_getElem? e)
  unfold doM exch at hz
  split at hz
  · exact h z hz
  · rcases List.mem_or_eq_of_mem_set hz with c | c
    · rcases List.mem_or_eq_of_mem_set c with c | c
      · exact h z c
      · rw [c]; exact hg _
    · rw [c]; exact hg _
theorem runM_nonneg : ∀ {ms : List Mv} {ss : List Int}, (∀ z ∈ ss, 0 ≤ z) → ∀ z ∈ runM ms ss, 0 ≤ z
  | [], _, h => h
  | m :: ms, ss, h => runM_nonneg (ms := ms) (doM_nonneg h)
section
variable {P : Program} {w : World} {K : PySem.W.Frag} {mg : Str → Option Value} {base : Heap}
abbrev n_lThrough : List Str := ["standing", "moves", "lies", "own", "a", "b", "x"]
theorem sc_lThrough : FnScope n_lThrough ["standing", "moves"] (defScope sLThrough) := ⟨rfl, rfl, rfl, by decide +kernel, rfl, by decide +kernel, by decide +kernel⟩
theorem o_lThrough (D0 : Df K mg "_law_through" sLThrough ["standing", "moves"]) (B : Bi mg) : Ok P w K mg base 1 "_law_through" ["standing", "moves"] spThrough := by
  refine D0.ok fun f fd F => F.ok sc_lThrough (fun vs H Q E h => ?_) (fun cdv A outer s H vs Q E hr h => ?_)
  · obtain ⟨_, _, _, _, _, rfl, _⟩ := h
    rfl
  · obtain ⟨sv, mo, ss, xs, ms, rfl, hsv, hmo, qx, hde, hge, hsl, q⟩ := h
    have hu : (cxOf CX0 P w K mg base n_lThrough "_law_through" (defScope sLThrough) f cdv A outer s H E).A.units + 64 < cLine := hr.units
    have hu1 := hu_of hr
    refine ⟨_, pss_cons (ps_set (i := 2) sc_lThrough.nd rfl (.inr rfl) (pe_callTy call_list_of (by rfl) B.list (by decide +kernel) (pa_cons (pv 0) pa_nil)))
      (pss_cons (ps_for PassesOwn.never rfl (pi_list (pv 1)) (pg_tup rfl (pgs_cons (pg_name (i := 3) sc_lThrough.nd rfl (.inl rfl)) (pgs_cons (pg_name (i := 4) sc_lThrough.nd rfl (.inl rfl)) (pgs_cons (pg_name (i := 5) sc_lThrough.nd rfl (.inl rfl)) pgs_nil))))
        (pss_one (ps_if (pt_cmpR (op_eqN hu) (pe_lc (own := [("x", 6)]) (g := gName 6) rfl sc_lThrough.nd (pi_tup (pv 3)) (blkOk_by (own := [("x", 6)]) (N := n_lThrough) (sc := defScope sLThrough) (by decide +kernel)) (fun _ _ _ _ _ => pg_name (i := 6) sc_lThrough.nd rfl (.inl rfl)) (fun _ _ _ _ _ => pts_one (pt_cmpR op_gt (pe_ix (r := rIxL K) ix_list (pv 2) (pv 6) (fun _ _ => rfl)) pe_int (nomark _))) (fun _ _ _ _ _ => pe_int)) (pe_lst pa_nil) (nomark _)) (pss_one (ps_asg (pe_tup (pa_cons (pe_ix ix_list (pv 2) (pv 5) (fun _ _ => rfl)) (pa_cons (pe_ix ix_list (pv 2) (pv 4) (fun _ _ => rfl)) pa_nil))) (pg_tup rfl (pgs_cons (pg_sub (pv 2) (pv 4) set_list) (pgs_cons (pg_sub (pv 2) (pv 5) set_list) pgs_nil))))) pss_nil)))
      (pss_one (ps_ret (pe_callTy call_tuple_of (by rfl) B.tuple (by decide +kernel) (pa_cons (pv 2) pa_nil))))), ?_⟩
    obtain ⟨sa, us, rfl, hsa, qs⟩ := hsv.tup_inv
    have eus : us = ss.map V.int := dqa_int qs
    subst eus
    have hxm : xs.length = ms.length := by rw [qx.len, List.length_map]
    refine sq_asg ⟨.ref sa, rfl, sa, _, rfl, .inr (SqT.of hsa), fun li nli => ?_⟩
    have s0 := same_new (o := .lst (ss.map V.int)) nli
    have hl0 : upd H li (.lst (ss.map V.int)) li = some (.lst (ss.map V.int)) := upd_same
    generalize upd H li (.lst (ss.map V.int)) = H0 at s0 hl0
    have nl : ∀ b o, H b = some o → b ≠ li := fun b o hb => ne_of_none hb nli
    refine ⟨.ref mo, rfl, mo, rfl, ⟨xs, SqL.of (s0 _ _ hmo)⟩, for_it (walk_list (K := K) (a := mo) (xs := xs)) (fun i σ G => ∃ v3 v4 v5 : Option V, σ = [some (.ref sa), some (.ref mo), some (.ref li), v3, v4, v5, none] ∧ Same H G ∧ G li = some (.lst ((runM (ms.take i) ss).map V.int))) ⟨_, _, _, rfl, s0, hl0⟩ (fun _ _ _ _ ⟨_, _, _, _, sm, _⟩ => SqL.of (sm _ _ hmo)) ?_ ?_⟩
    · rintro i x σ _ G hi ⟨v3, v4, v5, rfl, sm, hli⟩ ⟨rfl, hx⟩
      obtain ⟨d0, hd0, qd⟩ := qx.get hx
      rw [List.getElem?_map] at hd0
      obtain ⟨m, hm, rfl⟩ := Option.map_eq_some_iff.mp hd0
      have hdd := hde m (List.mem_of_getElem? hm)
      have ha := hdd.ab
      have hb := hdd.bn
      obtain ⟨da, qa, rfl, hd5, hq5⟩ := deed_inv (qd.up sm)
      have e5 : runM (ms.take (i + 1)) ss = doM (runM (ms.take i) ss) m := by
        unfold runM
        rw [List.take_add_one, hm, List.foldl_append]
        rfl
      have hls : (runM (ms.take i) ss).length = ss.length := runM_len _ _
      have hge2 := runM_nonneg (ms := ms.take i) hge
      generalize runM (ms.take i) ss = ls at hli e5 hls hge2
      have gzc : ∀ z : Nat, gz ls ((z : Nat) : Int) = ls.getD z 0 := fun z => by
        unfold gz
        rw [Int.toNat_natCast]
      have getI : ∀ z : Nat, z < ss.length → (ls.map V.int)[z]? = some (.int (ls.getD z 0)) := fun z hz => by
        rw [List.getElem?_map, List.getD_eq_getElem?_getD, List.getElem?_eq_getElem (by omega)]
        rfl
      have hdg : ∀ z : Nat, z < ss.length → 0 ≤ ls.getD z 0 := fun z hz => by
        rw [List.getD_eq_getElem?_getD, List.getElem?_eq_getElem (by omega)]
        exact hge2 _ (List.getElem_mem _)
      refine ⟨da, _, rfl, SqT.of hd5, rfl, .ref qa, [.int m.2.1, .int m.2.2], rfl, .int m.2.1, [.int m.2.2], rfl, .int m.2.2, [], rfl, rfl, ?_⟩
      refine ⟨.ref qa, rfl, qa, rfl, ⟨_, SqT.of hq5⟩, fun D nD => ?_⟩
      refine lc_it (walk_tup (K := K) (a := qa) (xs := lv m.1)) (fun j G1 => ∃ zs : List V, G1 D = some (.lst zs) ∧ Same G G1 ∧ zs.length ≤ j ∧ zs.isEmpty = (m.1.take j).all (fun x => decide (ls.getD x 0 = 0))) ⟨[], upd_same, same_new nD, Nat.le_refl _, rfl⟩ (fun j G1 _ ⟨_, _, sm, _⟩ => SqT.of (sm _ _ hq5)) ?_ ?_
      · rintro t x G6 G6' ht ⟨zs, hD, sm6, hzl, hze⟩ ⟨rfl, hx2⟩
        rw [lv_len] at ht
        obtain ⟨z, hz, rfl⟩ : ∃ z, m.1[t]? = some z ∧ V.int (z : Nat) = x := by
          unfold lv at hx2
          rw [List.getElem?_map] at hx2
          cases e : m.1[t]? with
          | none => rw [e] at hx2; cases hx2
          | some y => rw [e] at hx2; exact ⟨y, rfl, Option.some.inj hx2⟩
        have hzn : z < ss.length := by have := (hdd.asc.2 z (List.mem_of_getElem? hz)).2; omega
        have etk2 : (m.1.take (t + 1)).all (fun x => decide (ls.getD x 0 = 0)) = ((m.1.take t).all (fun x => decide (ls.getD x 0 = 0)) && decide (ls.getD z 0 = 0)) := by
          rw [List.take_add_one, hz, List.all_append]
          simp
        have hz0 := hdg z hzn
        refine ⟨rfl, .ref li, rfl, .int z, rfl, li, _, z, .int (ls.getD z 0), rfl, rfl, SqL.of (sm6 _ _ hli), atI_nat (getI z hzn), _, _, rfl, rfl, _, rfl, ite2 (fun c => ?_) (fun c => ?_)⟩
        · have c2 : 0 < ls.getD z 0 := of_decide_eq_true c
          have hml := hdd.asc.len
          refine ⟨zs, hD, szl (by omega), zs ++ [.int 1], upd_same, fun b o hb' => ?_, by rw [List.length_append]; show _ + 1 ≤ _; omega, ?_⟩
          · rw [upd_ne (ne_of_none hb' nD)]
            exact sm6 _ _ hb'
          · rw [etk2, decide_eq_false (show ¬ ls.getD z 0 = 0 by omega), Bool.and_false]
            cases zs <;> rfl
        · have c2 : ¬ 0 < ls.getD z 0 := fun y => c (decide_eq_true y)
          refine ⟨zs, hD, sm6, by omega, ?_⟩
          rw [etk2, decide_eq_true (show ls.getD z 0 = 0 by omega), Bool.and_true]
          exact hze
      · rintro G6 ⟨zs, hD, sm6, hzl, hze⟩
        rw [lv_len, List.take_length] at hze
        refine ⟨by show 0 ≤ sizeLine; decide, fun e ne => ⟨D, e, zs, rfl, rfl, same_new ne _ _ hD, upd_same, _, rfl, ?_⟩⟩
        have sm7 := sm6.trans (same_new (o := .lst []) ne)
        generalize upd G6 e (.lst []) = G7 at sm7
        have hli7 := sm7 _ _ hli
        rw [hze]
        have econd : ((m.1.map fun (x : Nat) => (x : Int)).any fun j => !decide (gz ls j = 0)) = !(m.1.all fun x => decide (ls.getD x 0 = 0)) := by
          rw [List.any_map]
          have : ((fun j => !decide (gz ls j = 0)) ∘ fun (x : Nat) => (x : Int)) = fun x : Nat => !decide (ls.getD x 0 = 0) := by
            funext x
            simp only [Function.comp, gzc]
          rw [this, List.any_eq_not_all_not]
          simp
        cases hc : m.1.all (fun x => decide (ls.getD x 0 = 0)) with
        | false =>
          refine iteF ⟨_, _, _, rfl, sm.trans sm7, ?_⟩
          rw [e5]
          unfold doM exch
          rw [econd, hc, if_pos (show (!false) = true from rfl)]
          exact hli7
        | true =>
          refine iteT ?_
          refine ⟨.ref li, rfl, .int m.2.2, rfl, li, _, m.2.2, .int (ls.getD m.2.2 0), rfl, rfl, SqL.of hli7, atI_nat (getI _ hb), ?_⟩
          refine ⟨.ref li, rfl, .int m.2.1, rfl, li, _, m.2.1, .int (ls.getD m.2.1 0), rfl, rfl, SqL.of hli7, atI_nat (getI _ (by omega)), ?_⟩
          refine ⟨by show 2 ≤ sizeLine; decide, fun t nt => ⟨t, _, rfl, SqT.of upd_same, rfl, .int (ls.getD m.2.2 0), [.int (ls.getD m.2.1 0)], rfl, ?_⟩⟩
          have st := same_new (o := .tup [.int (ls.getD m.2.2 0), .int (ls.getD m.2.1 0)]) nt
          have hli8 := st _ _ hli7
          have sm8 := (sm.trans sm7).trans st
          generalize upd G7 t (.tup [.int (ls.getD m.2.2 0), .int (ls.getD m.2.1 0)]) = G8 at hli8 sm8
          refine ⟨.ref li, rfl, .int m.2.1, rfl, li, _, m.2.1, m.2.1, rfl, rfl, hli8, ixN_nat (by rw [List.length_map]; omega), .int (ls.getD m.2.1 0), [], rfl, ?_⟩
          refine ⟨.ref li, rfl, .int m.2.2, rfl, li, _, m.2.2, m.2.2, rfl, rfl, upd_same, ixN_nat (by rw [List.length_set, List.length_map]; omega), rfl, ?_⟩
          rw [upd_upd]
          refine ⟨_, _, _, rfl, fun b o hb' => ?_, ?_⟩
          · rw [upd_ne (nl _ _ hb')]
            exact sm8 _ _ hb'
          · rw [upd_same, e5]
            unfold doM exch
            rw [econd, hc, if_neg (show ¬ (!true) = true by decide), gzc, gzc, Int.toNat_natCast, Int.toNat_natCast, List.map_set, List.map_set]
    · rintro σ G ⟨v3, v4, v5, rfl, sm, hli⟩
      rw [hxm, List.take_length] at hli
      dsimp only [tNext]
      refine one_ret ?_
      refine ⟨.ref li, rfl, li, _, rfl, .inl ⟨SqL.of hli, fun t nt => ?_⟩⟩
      have st := same_new (o := .tup ((runM ms ss).map V.int)) nt
      exact q _ _ (sm.trans st) (.tup upd_same (DqA.ints _))
end
end Kr
namespace Kr
open PySem PySem.Spec PyProof.Rows L2
/-! ### tables, steps and counts of one program: all by its deeds -/
theorem made_app {n : Nat} (hn : n ≤ 6) {a : List Mv} (ha : ∀ m ∈ a, Deed n m) : ∀ b : List Mv, (∀ m ∈ b, Deed n m) → madeT n (a ++ b) = bothT n (madeT n a) (madeT n b) := fun b => by
  have key : ∀ r : List Mv, (∀ m ∈ r.reverse, Deed n m) → madeT n (a ++ r.reverse) = bothT n (madeT n a) (madeT n r.reverse) := by
    intro r
    induction r with
    | nil =>
      intro _
      rw [List.reverse_nil, List.append_nil, made_nil hn, both_still hn (made_ok hn ha)]
    | cons m r ih =>
      intro h
      rw [List.reverse_cons] at h ⊢
      have h1 : ∀ x ∈ r.reverse, Deed n x := fun x hx => h x (List.mem_append_left _ hx)
      have hm : Deed n m := h m (List.mem_append_right _ (List.mem_singleton.mpr rfl))
      have h2 : ∀ x ∈ (a ++ r.reverse) ++ [m], Deed n x := fun x hx => by
        rcases List.mem_append.mp hx with c | c
        · exact (List.mem_append.mp c).elim (ha x) (h1 x)
        · rw [List.mem_singleton.mp c]; exact hm
      rw [← List.append_assoc, made_snoc hn h2, made_snoc hn h, ih h1, both_assoc hn (made_ok hn ha) (made_ok hn h1) (hm.ok hn)]
  intro h
  have := key b.reverse (by rw [List.reverse_reverse]; exact h)
  rwa [List.reverse_reverse] at this
theorem made_rev {n : Nat} (hn : n ≤ 6) : ∀ a : List Mv, (∀ m ∈ a, Deed n m) → turnT n (madeT n a) = madeT n a.reverse
  | [], _ => by
    rw [List.reverse_nil, made_nil hn]
    exact (inv_one hn (still_ok hn) (still_ok hn) (both_still hn (still_ok hn))).symm
  | m :: a, h => by
    have hm := h m List.mem_cons_self
    have ha : ∀ x ∈ a, Deed n x := fun x hx => h x (List.mem_cons_of_mem _ hx)
    have h1 : ∀ x ∈ [m], Deed n x := fun x hx => by rw [List.mem_singleton.mp hx]; exact hm
    have e : madeT n (m :: a) = bothT n (madeT n [m]) (madeT n a) := made_app hn h1 a ha
    have e2 : turnT n (madeT n [m]) = madeT n [m] := by
      rw [made_one hn hm]
      exact (inv_one hn (hm.ok hn) (hm.ok hn) (hm.twice hn)).symm
    rw [List.reverse_cons, made_app hn (fun x hx => ha x (List.mem_reverse.mp hx)) [m] h1, e, turn_of_both hn (made_ok hn h1) (made_ok hn ha), made_rev hn a ha, e2]
theorem pow_zero {n : Nat} (hn : n ≤ 6) {T : List (List Int)} (h : TabOk n T) : powT n T 0 = stillT n := by
  have e := powT_add hn h 0 0
  have ok := powT_ok hn h 0
  have e2 : bothT n (powT n T 0) (powT n T 0) = powT n T 0 := by simpa using e
  have e3 := congrArg (bothT n (turnT n (powT n T 0))) e2
  rw [← both_assoc hn (ok.turn hn) ok ok, turn_both hn ok, still_both hn ok] at e3
  exact e3
theorem made_pow {n : Nat} (hn : n ≤ 6) {a : List Mv} (h : ∀ m ∈ a, Deed n m) : ∀ k : Nat, powT n (madeT n a) (k : Int) = madeT n (List.replicate k a).flatten
  | 0 => by
    rw [List.replicate_zero, List.flatten_nil, made_nil hn]
    exact pow_zero hn (made_ok hn h)
  | k + 1 => by
    have ih := made_pow hn h k
    have hr : ∀ m ∈ (List.replicate k a).flatten, Deed n m := fun m hm => by
      obtain ⟨l, hl, h2⟩ := List.mem_flatten.mp hm
      rw [List.eq_of_mem_replicate hl] at h2
      exact h m h2
    rw [show ((k + 1 : Nat) : Int) = (k : Int) + 1 by omega, ← powT_succ hn (made_ok hn h), ih, ← made_app hn hr a h, List.replicate_succ']
    simp
/-- the law's deeds give the program's table -/
theorem rel_tab {n : Nat} (hn : n ≤ 6) : RelM (fun T ms => T = madeT n ms ∧ ∀ m ∈ ms, Deed n m) (Deed n) (tabM n) movM := by
  refine ⟨fun d hd => ⟨(made_one hn hd).symm, fun m hm => by rw [List.mem_singleton.mp hm]; exact hd⟩, fun as bs h => ?_, fun a b h => ?_, fun a b k h => ?_⟩
  · have fold : ∀ (as : List (List (List Int))) (bs : List (List Mv)) (c : List Mv), RelL (fun T ms => T = madeT n ms ∧ ∀ m ∈ ms, Deed n m) as bs → (∀ m ∈ c, Deed n m) → as.foldl (bothT n) (madeT n c) = madeT n (c ++ bs.flatten) ∧ ∀ m ∈ bs.flatten, Deed n m := by
      intro as
      induction as with
      | nil =>
        intro bs c h hc
        cases bs with
        | nil => exact ⟨by simp, fun _ h => nomatch h⟩
        | cons b bs => exact h.elim
      | cons a as ih =>
        intro bs c h hc
        cases bs with
        | nil => exact h.elim
        | cons b bs =>
          obtain ⟨⟨e, hb⟩, h2⟩ := h
          have hcb : ∀ m ∈ c ++ b, Deed n m := fun m hm => (List.mem_append.mp hm).elim (hc m) (hb m)
          obtain ⟨e3, h4⟩ := ih bs (c ++ b) h2 hcb
          refine ⟨?_, fun m hm => ?_⟩
          · rw [List.foldl_cons, e, ← made_app hn hc b hb, e3, List.flatten_cons, List.append_assoc]
          · rw [List.flatten_cons] at hm
            exact (List.mem_append.mp hm).elim (hb m) (h4 m)
    obtain ⟨e, h2⟩ := fold as bs [] h (fun _ h => nomatch h)
    rw [made_nil hn, List.nil_append] at e
    exact ⟨e, h2⟩
  · obtain ⟨rfl, hb⟩ := h
    exact ⟨made_rev hn b hb, fun m hm => hb m (List.mem_reverse.mp hm)⟩
  · obtain ⟨rfl, hb⟩ := h
    refine ⟨made_pow hn hb k, fun m hm => ?_⟩
    obtain ⟨l, hl, h2⟩ := List.mem_flatten.mp hm
    rw [List.eq_of_mem_replicate hl] at h2
    exact hb m h2
def cutS (ms : List Mv) : Stw := if ms.length ≤ 5000 then some ms else none
theorem rel_step : RelM (fun w ms => w = cutS ms) (fun _ => True) stepM movM := by
  refine ⟨fun d _ => rfl, fun as bs h => ?_, fun a b h => ?_, fun a b k h => ?_⟩
  · have add : ∀ a b : List Mv, stepAdd (cutS a) (cutS b) = cutS (a ++ b) := fun a b => by
      have e : (a ++ b).length = a.length + b.length := List.length_append
      unfold cutS
      rw [e]
      by_cases h1 : a.length ≤ 5000
      · rw [if_pos h1]
        by_cases h2 : b.length ≤ 5000
        · rw [if_pos h2]
          by_cases h3 : a.length + b.length > 5000
          · rw [if_neg (show ¬ (a.length + b.length ≤ 5000) by omega)]
            show (if a.length + b.length > 5000 then none else some (a ++ b)) = none
            rw [if_pos h3]
          · rw [if_pos (show a.length + b.length ≤ 5000 by omega)]
            show (if a.length + b.length > 5000 then none else some (a ++ b)) = some (a ++ b)
            rw [if_neg h3]
        · rw [if_neg h2, if_neg (show ¬ (a.length + b.length ≤ 5000) by omega)]
          rfl
      · rw [if_neg h1, if_neg (show ¬ (a.length + b.length ≤ 5000) by omega)]
        rfl
    have fold : ∀ (as : List Stw) (bs : List (List Mv)) (c : List Mv), RelL (fun w ms => w = cutS ms) as bs → as.foldl stepAdd (cutS c) = cutS (c ++ bs.flatten) := by
      intro as
      induction as with
      | nil =>
        intro bs c h
        cases bs with
        | nil => simp
        | cons b bs => exact h.elim
      | cons a as ih =>
        intro bs c h
        cases bs with
        | nil => exact h.elim
        | cons b bs =>
          obtain ⟨rfl, h2⟩ := h
          rw [List.foldl_cons, add, ih bs (c ++ b) h2, List.flatten_cons, List.append_assoc]
    have := fold as bs [] h
    exact this
  · subst h
    show Option.map List.reverse (cutS b) = cutS b.reverse
    unfold cutS
    rw [List.length_reverse]
    by_cases h1 : b.length ≤ 5000
    · rw [if_pos h1, if_pos h1]; rfl
    · rw [if_neg h1, if_neg h1]; rfl
  · subst h
    show stepM.oT (cutS b) k = cutS (List.replicate k b).flatten
    have hl := rep_flat_len k b
    by_cases hk : k = 0
    · subst hk
      simp [stepM, cutS]
    · by_cases hb : b = []
      · subst hb
        have : (List.replicate k ([] : List Mv)).flatten = [] := List.eq_nil_of_length_eq_zero (by rw [rep_flat_len]; simp)
        rw [this]
        simp [stepM, cutS]
      · have hpos : 0 < b.length := List.length_pos_iff.mpr hb
        unfold cutS
        rw [hl]
        have hge : b.length * 1 ≤ b.length * k := Nat.mul_le_mul_left _ (by omega)
        by_cases h1 : b.length ≤ 5000
        · rw [if_pos h1]
          simp only [stepM]
          rw [if_neg (by intro c; rcases c with c | c; exact hk c; exact hb (Option.some.inj c))]
          by_cases h2 : b.length * k > 5000
          · rw [if_pos h2, if_neg (by omega)]
          · rw [if_neg h2, if_pos (by omega)]
        · rw [if_neg h1, if_neg (by omega)]
          simp only [stepM]
          rw [if_neg (by intro c; rcases c with c | c; exact hk c; cases c)]
theorem rel_cnt : RelM (fun c (ms : List Mv) => c = ms.length) (fun _ => True) cntM movM := by
  refine ⟨fun d _ => rfl, fun as bs h => ?_, fun a b h => ?_, fun a b k h => ?_⟩
  · have fold : ∀ (as : List Nat) (bs : List (List Mv)), RelL (fun c (ms : List Mv) => c = ms.length) as bs → as.sum = bs.flatten.length := by
      intro as
      induction as with
      | nil =>
        intro bs h
        cases bs with
        | nil => rfl
        | cons b bs => exact h.elim
      | cons a as ih =>
        intro bs h
        cases bs with
        | nil => exact h.elim
        | cons b bs =>
          obtain ⟨rfl, h2⟩ := h
          rw [List.sum_cons, ih bs h2, List.flatten_cons, List.length_append]
    exact fold as bs h
  · subst h
    show b.length = b.reverse.length
    rw [List.length_reverse]
  · subst h
    exact (rep_flat_len k b).symm
theorem rel_bound : ∀ {as : List Nat} {bs : List (List Mv)} {B : Nat}, RelL (fun c (ms : List Mv) => c = ms.length) as bs → (∀ a ∈ as, a ≤ B) → ∀ b ∈ bs, b.length ≤ B
  | [], [], _, _, _, _, h => nomatch h
  | a :: as, b :: bs, B, h, g, x, hx => by
    rcases List.mem_cons.mp hx with rfl | hx
    · have := g a List.mem_cons_self
      have e : a = x.length := h.1
      omega
    · exact rel_bound (as := as) (bs := bs) h.2 (fun y hy => g y (List.mem_cons_of_mem _ hy)) x hx
  | [], _ :: _, _, h, _, _, _ => h.elim
  | _ :: _, [], _, h, _, _, _ => h.elim
/-- the deeds keep what lies there -/
theorem doM_perm {n : Nat} {ss : List Int} (hs : ss.length = n) {m : Mv} (d : Deed n m) : (doM ss m).Perm ss := by
  have h1 := d.ab
  have h2 := d.bn
  unfold doM exch
  split
  · exact .refl _
  · unfold gz
    simp only [Int.toNat_natCast]
    have ha : m.2.1 < ss.length := by omega
    have hb : m.2.2 < ss.length := by omega
    rw [List.getD_eq_getElem?_getD, List.getD_eq_getElem?_getD, List.getElem?_eq_getElem ha, List.getElem?_eq_getElem hb]
    exact List.set_set_perm ha hb
theorem runM_perm {n : Nat} : ∀ {ms : List Mv} {ss : List Int}, ss.length = n → (∀ m ∈ ms, Deed n m) → (runM ms ss).Perm ss
  | [], _, _, _ => .refl _
  | m :: ms, ss, hs, h => (runM_perm (ms := ms) (ss := doM ss m) ((exch_len _ _ _ _).trans hs) fun x hx => h x (List.mem_cons_of_mem _ hx)).trans (doM_perm hs (h m List.mem_cons_self))
end Kr
namespace Kr
open PySem PySem.Spec PyProof.Rows L2
/-! ### how much the law's programs show -/
theorem wt_int {i : Int} {k : Nat} (h : i.natAbs < 2 ^ k) : (PyData.int i).weight ≤ k := by
  simp only [PyData.weight]
  split
  · omega
  · rename_i h0
    have h1 : i.natAbs ≠ 0 := fun z => h0 (by simp; omega)
    have : i.natAbs.log2 < k := (Nat.log2_lt h1).mpr h
    omega
theorem wt_nat {i k : Nat} (h : i < 2 ^ k) : (PyData.int (i : Int)).weight ≤ k := wt_int (by rw [Int.natAbs_natCast]; exact h)
theorem wt_lot {l : List Nat} (h : ∀ x ∈ l, x < 6) : (lotD l).weight ≤ 4 * l.length := by
  have : ∀ l : List Nat, (∀ x ∈ l, x < 6) → PyData.weightAll (l.map fun x : Nat => PyData.int (x : Int)) ≤ 4 * l.length := by
    intro l
    induction l with
    | nil => intro _; simp [PyData.weightAll]
    | cons x l ih =>
      intro h
      have h1 := wt_nat (i := x) (k := 3) (by have := h x List.mem_cons_self; omega)
      have h2 := ih fun y hy => h y (List.mem_cons_of_mem _ hy)
      simp only [List.map_cons, PyData.weightAll, List.length_cons]
      omega
  simp only [lotD, PyData.weight]
  exact this l h
theorem wt_deed {n : Nat} (hn : n ≤ 6) {d : Mv} (h : Deed n d) : (deedD d).weight ≤ 25 := by
  have h1 := h.few
  have h2 := wt_lot (l := d.1) fun x hx => by have := (h.asc.2 x hx).2; omega
  have h3 := h.ab
  have h4 := h.bn
  have h5 := wt_nat (i := d.2.1) (k := 3) (by omega)
  have h6 := wt_nat (i := d.2.2) (k := 3) (by omega)
  have e : (deedD d).weight = (lotD d.1).weight + 1 + ((PyData.int (d.2.1 : Int)).weight + 1 + ((PyData.int (d.2.2 : Int)).weight + 1)) := by
    simp only [deedD, PyData.weight, PyData.weightAll]
  omega
theorem ten_pos (m : Nat) : 1 ≤ 10 ^ m := Nat.one_le_pow _ _ (by decide)
theorem ten_le {a b : Nat} (h : a ≤ b) : 10 ^ a ≤ 10 ^ b := Nat.pow_le_pow_right (by decide) h
mutual
theorem wt_tm {n k : Nat} (hn : n ≤ 6) (hk : k ≤ 400) : ∀ t : Tm, okTm (Deed n) 10 k t → timK 3 t → (tmD t).weight + 2 ≤ 4 * 10 ^ dep t
  | .doo d, h, _ => by
    simp only [okTm] at h
    have h1 := wt_deed hn h
    have e : (tmD (.doo d)).weight = 2 + 1 + ((deedD d).weight + 1) := by
      simp only [tmD, PyData.weight, PyData.weightAll]
      rfl
    simp only [dep]
    omega
  | .part j, h, _ => by
    simp only [okTm] at h
    have h1 := wt_nat (i := j) (k := 9) (by omega)
    have e : (tmD (.part j)).weight = 4 + 1 + ((PyData.int (j : Int)).weight + 1) := by
      simp only [tmD, PyData.weight, PyData.weightAll]
      rfl
    simp only [dep]
    omega
  | .row ts, h, c => by
    simp only [okTm] at h
    simp only [timK] at c
    have h1 := wt_tms hn hk ts h.2 c
    have e : (tmD (.row ts)).weight = 3 + 1 + (PyData.weightAll (tmDs ts) + 1) := by
      simp only [tmD, PyData.weight, PyData.weightAll]
      rfl
    have h2 : ts.length * (4 * 10 ^ depL ts - 1) ≤ 10 * (4 * 10 ^ depL ts - 1) := Nat.mul_le_mul_right _ h.1
    have h3 := ten_pos (depL ts)
    simp only [dep, Nat.pow_succ]
    omega
  | .back t, h, c => by
    simp only [okTm] at h
    simp only [timK] at c
    have h1 := wt_tm hn hk t h c
    have e : (tmD (.back t)).weight = 4 + 1 + ((tmD t).weight + 1) := by
      simp only [tmD, PyData.weight, PyData.weightAll]
      rfl
    have h3 := ten_pos (dep t)
    simp only [dep, Nat.pow_succ]
    omega
  | .times t m, h, c => by
    simp only [okTm] at h
    simp only [timK] at c
    have h1 := wt_tm hn hk t h.2 c.2
    have h2 := wt_nat (i := m) (k := 2) (by omega)
    have e : (tmD (.times t m)).weight = 5 + 1 + ((tmD t).weight + 1 + ((PyData.int (m : Int)).weight + 1)) := by
      simp only [tmD, PyData.weight, PyData.weightAll]
      rfl
    have h3 := ten_pos (dep t)
    simp only [dep, Nat.pow_succ]
    omega
theorem wt_tms {n k : Nat} (hn : n ≤ 6) (hk : k ≤ 400) : ∀ ts : List Tm, okTms (Deed n) 10 k ts → timKs 3 ts → PyData.weightAll (tmDs ts) ≤ ts.length * (4 * 10 ^ depL ts - 1)
  | [], _, _ => by simp [tmDs, PyData.weightAll]
  | t :: ts, h, c => by
    simp only [okTms] at h
    simp only [timKs] at c
    have h1 := wt_tm hn hk t h.1 c.1
    have h2 := wt_tms hn hk ts h.2 c.2
    have h3 := ten_le (Nat.le_max_left (dep t) (depL ts))
    have h4 := ten_le (Nat.le_max_right (dep t) (depL ts))
    have h5 : ts.length * (4 * 10 ^ depL ts - 1) ≤ ts.length * (4 * 10 ^ max (dep t) (depL ts) - 1) := Nat.mul_le_mul_left _ (by omega)
    simp only [tmDs, PyData.weightAll, depL, List.length_cons, Nat.add_mul, Nat.one_mul]
    have h6 := ten_pos (max (dep t) (depL ts))
    generalize 10 ^ max (dep t) (depL ts) = X at *
    generalize ts.length * (4 * X - 1) = Y at *
    omega
end
theorem PrOk.mono {D D' : Mv → Prop} {r r' n n' : Nat} {p : List Tm} (h : PrOk D r n p) (hD : ∀ d, D d → D' d) (hr : r ≤ r') (hn : n ≤ n') : PrOk D' r' n' p :=
  ⟨h.ne, h.len, fun i t ht => ⟨okTm_mono hD hr (Nat.le_refl _) t (h.tm i t ht).1, Nat.le_trans (h.tm i t ht).2 hn⟩⟩
/-- programs of at most six terms, four deep -/
theorem prog_smW {n : Nat} (hn : n ≤ 6) {p : List Tm} (h : PrOk (Deed n) 10 4 p) (hk : ∀ t ∈ p, timK 3 t) (hl : p.length ≤ 6) : Sm 20 240000 (.tuple (p.map tmD)) := by
  have mem : ∀ t ∈ p, okTm (Deed n) 10 400 t ∧ dep t ≤ 4 := fun t ht => by
    obtain ⟨i, hi⟩ := List.getElem?_of_mem ht
    obtain ⟨a, b⟩ := h.tm i t hi
    have := (List.getElem?_eq_some_iff.mp hi).1
    exact ⟨okTm_mono (fun _ q => q) (Nat.le_refl _) (by omega) t a, b⟩
  have ok : okTms (Deed n) 10 400 p := okTms_of fun t ht => (mem t ht).1
  have low : lowT (.tuple (p.map tmD)) = true := by
    have := low_tms (n := n) (r := 10) (k := 400) (by omega) (Nat.le_refl _) p ok
    rw [tmDs_map] at this
    simpa only [lowT] using this
  obtain ⟨h1, h2, _, _⟩ := low_sm _ low
  refine ⟨h1, h2, ?_, ?_⟩
  · have h3 := tms_depth p
    have h4 : depL p ≤ 4 := by
      have : ∀ ts : List Tm, (∀ t ∈ ts, dep t ≤ 4) → depL ts ≤ 4 := by
        intro ts
        induction ts with
        | nil => intro _; simp [depL]
        | cons t ts ih =>
          intro h
          simp only [depL]
          exact Nat.max_le.mpr ⟨h t List.mem_cons_self, ih fun x hx => h x (List.mem_cons_of_mem _ hx)⟩
      exact this p fun t ht => (mem t ht).2
    rw [tmDs_map] at h3
    simp only [PyData.depth]
    omega
  · have : ∀ ts : List Tm, (∀ t ∈ ts, t ∈ p) → PyData.weightAll (ts.map tmD) ≤ ts.length * 40000 := by
      intro ts
      induction ts with
      | nil => intro _; simp [PyData.weightAll]
      | cons t ts ih =>
        intro h
        obtain ⟨a, b⟩ := mem t (h t List.mem_cons_self)
        have h1 := wt_tm hn (Nat.le_refl _) t a (hk t (h t List.mem_cons_self))
        have h2 := ih fun x hx => h x (List.mem_cons_of_mem _ hx)
        have h3 := ten_le b
        simp only [List.map_cons, PyData.weightAll, List.length_cons, Nat.succ_mul]
        omega
    have h3 := this p fun _ h => h
    simp only [PyData.weight]
    omega
end Kr
namespace Kr
open PySem PySem.Spec PyProof.Rows L2
/-- a def that may raise, where it doesn't -/
abbrev calmSp (sp : Sp) : Sp := fun vs H Q _ => sp vs H Q (fun _ _ _ => False)
theorem fn_calm {P : Program} {w : World} {K : PySem.W.Frag} {mg : Str → Option Value} {base : Heap} {k : Nat} {f : Addr} {fd : FuncData} {ps : List Str} {sp : Sp} (F : FnOk P w K mg base (L2.CX P w) k f fd ps sp) : FnOk P w K mg base CX0 k f fd ps (calmSp sp) :=
  ⟨fun vs H Q E h => F.len _ _ _ _ h, fun A outer s H args us vs Q E r e b v h => codeAny_mono (F.run A outer s H args us vs Q _ r e b v h) fun res s' hq => by
    cases res with
    | error e =>
      obtain ⟨_, _, _, _, _, _, _, _, _, _, _, _, z⟩ := hq
      exact z.elim
    | ok fl =>
      cases fl with
      | ret u => exact hq
      | next => exact hq.elim
      | brk => exact hq.elim
      | cont => exact hq.elim⟩
end Kr
namespace Kr
open PySem PySem.Spec PyProof.Rows L2
/-! ### data whose lists are new -/
def isLs : Option HO → Bool
  | some (.lst _) => true
  | _ => false
/-- the heap without the lists that stood before -/
def fresh (H H' : Hp) : Hp := fun b => if isLs (H b) = true then none else H' b
theorem fresh_at {H H' : Hp} {a : Addr} {o : HO} (n : H a = none) (e : H' a = some o) : fresh H H' a = some o := by
  unfold fresh
  rw [n]
  exact e
theorem fresh_tup {H H' : Hp} {t : Addr} {xs : List V} (s : Same H H') (h : H' t = some (.tup xs)) : fresh H H' t = some (.tup xs) := by
  unfold fresh
  rw [if_neg, h]
  intro z
  cases q : H t with
  | none => rw [q] at z; cases z
  | some o =>
    have e := s _ _ q
    rw [h] at e
    cases e
    rw [q] at z
    cases z
theorem fresh_same (H H' : Hp) : Same (fresh H H') H' := fun b o h => by
  unfold fresh at h
  by_cases c : isLs (H b) = true
  · rw [if_pos c] at h
    cases h
  · rw [if_neg c] at h
    exact h
theorem fresh_ne {H H' : Hp} {a : Addr} {xs : List V} (h : H a = some (.lst xs)) : fresh H H' a = none := by
  unfold fresh
  rw [h]
  rfl
mutual
/-- what a data walk does not meet may be taken away -/
theorem Dq.on {H H' : Hp} (s : ∀ b o, H b = some o → (∃ xs, o = .lst xs ∨ o = .tup xs) ∨ o = .dK [] → H' b = some o) : ∀ {v : V} {d : PyData}, Dq H v d → Dq H' v d
  | _, _, .non => .non
  | _, _, .bl b => .bl b
  | _, _, .int i => .int i
  | _, _, .str x => .str x
  | _, _, .lst e q => .lst (s _ _ e (.inl ⟨_, .inl rfl⟩)) (DqA.on s q)
  | _, _, .tup e q => .tup (s _ _ e (.inl ⟨_, .inr rfl⟩)) (DqA.on s q)
  | _, _, .dic e => .dic (s _ _ e (.inr rfl))
theorem DqA.on {H H' : Hp} (s : ∀ b o, H b = some o → (∃ xs, o = .lst xs ∨ o = .tup xs) ∨ o = .dK [] → H' b = some o) : ∀ {vs : List V} {ds : List PyData}, DqA H vs ds → DqA H' vs ds
  | _, _, .nil => .nil
  | _, _, .cons h t => .cons (Dq.on s h) (DqA.on s t)
end
end Kr
namespace Kr
open PySem PySem.Spec PyProof.Rows L2
/-! ### deeds that come to one -/
def Sim (n : Nat) (a b : List Mv) : Prop := ∀ ls : List Int, ls.length = n → a.foldl mvL ls = b.foldl mvL ls
theorem mvL_len (ls : List Int) (m : Mv) : (mvL ls m).length = ls.length := by
  unfold mvL
  split
  · rw [List.length_set, List.length_set]
  · rfl
theorem foldm_len : ∀ (a : List Mv) (ls : List Int), (a.foldl mvL ls).length = ls.length
  | [], _ => rfl
  | m :: a, ls => (foldm_len a (mvL ls m)).trans (mvL_len ls m)
theorem Sim.refl {n : Nat} {a : List Mv} : Sim n a a := fun _ _ => rfl
theorem Sim.symm {n : Nat} {a b : List Mv} (h : Sim n a b) : Sim n b a := fun ls hl => (h ls hl).symm
theorem Sim.trans {n : Nat} {a b c : List Mv} (h : Sim n a b) (g : Sim n b c) : Sim n a c := fun ls hl => (h ls hl).trans (g ls hl)
theorem Sim.app {n : Nat} {a b c d : List Mv} (h : Sim n a b) (g : Sim n c d) : Sim n (a ++ c) (b ++ d) := fun ls hl => by
  rw [List.foldl_append, List.foldl_append, h ls hl, g _ ((foldm_len b ls).trans hl)]
theorem Sim.of_eq {n : Nat} {a b : List Mv} (h : a = b) : Sim n a b := h ▸ Sim.refl
theorem stL_len (n : Nat) (l : List Nat) : (stL n l).length = n := by unfold stL; rw [List.length_map, List.length_range]
theorem Sim.made {n : Nat} {a b : List Mv} (h : Sim n a b) : madeT n a = madeT n b := by
  unfold madeT
  refine List.map_congr_left fun l _ => ?_
  unfold madeE
  rw [h _ (stL_len n l)]
def freeM (ls : List Int) (m : Mv) : Bool := m.1.all fun x => !decide (0 ≤ ls.getD x 0)
theorem getD_setN {ls : List Int} {i y : Nat} {v : Int} (hi : i < ls.length) : (ls.set i v).getD y 0 = if y = i then v else ls.getD y 0 := by
  rw [List.getD_eq_getElem?_getD, List.getElem?_set]
  by_cases c : i = y
  · subst c
    rw [if_pos rfl, if_pos hi, if_pos rfl]
    rfl
  · rw [if_neg c, if_neg (fun z => c z.symm), List.getD_eq_getElem?_getD]
theorem mv_at {n : Nat} {ls : List Int} {m : Mv} (d : Deed n m) (h : ls.length = n) (y : Nat) : (mvL ls m).getD y 0 = if freeM ls m = true then (if y = m.2.2 then ls.getD m.2.1 0 else if y = m.2.1 then ls.getD m.2.2 0 else ls.getD y 0) else ls.getD y 0 := by
  have h1 := d.ab
  have h2 := d.bn
  unfold mvL freeM
  by_cases c : (m.1.all fun x => !decide (0 ≤ ls.getD x 0)) = true
  · rw [if_pos c, if_pos c, getD_setN (by rw [List.length_set]; omega)]
    split
    · rfl
    · rw [getD_setN (by omega)]
  · rw [if_neg c, if_neg c]
theorem free_mv {n : Nat} {ls : List Int} {m k : Mv} (d : Deed n m) (h : ls.length = n) (ha : m.2.1 ∉ k.1) (hb : m.2.2 ∉ k.1) : freeM (mvL ls m) k = freeM ls k := by
  have key : ∀ x ∈ k.1, (mvL ls m).getD x 0 = ls.getD x 0 := fun x hx => by
    rw [mv_at d h x]
    split
    · rw [if_neg (show ¬ x = m.2.2 from fun e => hb (e ▸ hx)), if_neg (show ¬ x = m.2.1 from fun e => ha (e ▸ hx))]
    · rfl
  unfold freeM
  rw [Bool.eq_iff_iff, List.all_eq_true, List.all_eq_true]
  exact ⟨fun z x hx => by rw [← key x hx]; exact z x hx, fun z x hx => by rw [key x hx]; exact z x hx⟩
theorem sim_twice {n : Nat} {m : Mv} (d : Deed n m) : Sim n [m, m] [] := fun ls hl => by
  show mvL (mvL ls m) m = ls
  have hl2 : (mvL ls m).length = n := (mvL_len ls m).trans hl
  refine int_ext (n := n) ((mvL_len _ m).trans hl2) hl fun y hy => ?_
  have h1 := d.ab
  rw [mv_at d hl2 y, free_mv d hl d.na d.nb, mv_at d hl, mv_at d hl, mv_at d hl]
  have hne : m.2.1 ≠ m.2.2 := by omega
  by_cases c : freeM ls m = true
  · simp only [if_pos c]
    by_cases e1 : y = m.2.2
    · subst e1
      simp [hne]
    · by_cases e2 : y = m.2.1
      · subst e2
        simp [e1]
      · simp [e1, e2]
  · simp only [if_neg c]
/-- neighbours that have no place in common but in both lots of keys -/
structure Off2 (m k : Mv) : Prop where
  a1 : m.2.1 ∉ k.1
  b1 : m.2.2 ∉ k.1
  a2 : k.2.1 ∉ m.1
  b2 : k.2.2 ∉ m.1
  aa : m.2.1 ≠ k.2.1
  ab : m.2.1 ≠ k.2.2
  ba : m.2.2 ≠ k.2.1
  bb : m.2.2 ≠ k.2.2
theorem sim_swap {n : Nat} {m k : Mv} (d : Deed n m) (e : Deed n k) (o : Off2 m k) : Sim n [m, k] [k, m] := fun ls hl => by
  show mvL (mvL ls m) k = mvL (mvL ls k) m
  have hm : (mvL ls m).length = n := (mvL_len ls m).trans hl
  have hk : (mvL ls k).length = n := (mvL_len ls k).trans hl
  refine int_ext (n := n) ((mvL_len _ _).trans hm) ((mvL_len _ _).trans hk) fun y hy => ?_
  have h1 := d.ab
  have h2 := e.ab
  have oa1 := o.a1
  have ob1 := o.b1
  have oa2 := o.a2
  have ob2 := o.b2
  obtain ⟨_, _, _, _, o1, o2, o3, o4⟩ := o
  rw [mv_at e hm y, mv_at d hk y, free_mv d hl oa1 ob1, free_mv e hl oa2 ob2]
  simp only [mv_at d hl, mv_at e hl]
  by_cases c1 : freeM ls m = true
  · by_cases c2 : freeM ls k = true
    · simp only [if_pos c1, if_pos c2]
      by_cases e1 : y = k.2.2
      · subst e1
        simp [Ne.symm o1, Ne.symm o2, Ne.symm o3, Ne.symm o4]
      · by_cases e2 : y = k.2.1
        · subst e2
          simp [e1, Ne.symm o1, Ne.symm o2, Ne.symm o3, Ne.symm o4]
        · by_cases e3 : y = m.2.2
          · subst e3
            simp [o1, o2, o3, o4]
          · simp [e1, e2, e3, o1, o2, o3, o4]
    · simp only [if_pos c1, if_neg c2]
  · by_cases c2 : freeM ls k = true
    · simp only [if_neg c1, if_pos c2]
    · simp only [if_neg c1, if_neg c2]
theorem sim_even {n : Nat} {m : Mv} (d : Deed n m) : ∀ k : Nat, Sim n (List.replicate (2 * k) m) []
  | 0 => Sim.refl
  | k + 1 => by
    have e : List.replicate (2 * (k + 1)) m = [m, m] ++ List.replicate (2 * k) m := by
      rw [show 2 * (k + 1) = 2 * k + 1 + 1 by omega, List.replicate_succ, List.replicate_succ]
      rfl
    rw [e]
    exact (sim_twice d).app (sim_even d k)
/-! ### entries tell how riders lie -/
theorem nd_at : ∀ {ss : List Int}, (ss.filter fun z => !decide (z = 0)).Nodup → ∀ x y, x < ss.length → y < ss.length → ss.getD x 0 = ss.getD y 0 → ss.getD x 0 ≠ 0 → x = y
  | [], _, _, _, h, _, _, _ => absurd h (by simp)
  | z :: ss, h, x, y, hx, hy, e, e0 => by
    have mem : ∀ {x}, x < ss.length → ss.getD x 0 ≠ 0 → ss.getD x 0 ∈ ss.filter fun z => !decide (z = 0) := fun {x} hx h0 => by
      rw [List.mem_filter]
      refine ⟨?_, by simp only [Bool.not_eq_true', decide_eq_false_iff_not]; exact h0⟩
      rw [List.getD_eq_getElem?_getD, List.getElem?_eq_getElem hx]
      exact List.getElem_mem hx
    have h2 : (ss.filter fun z => !decide (z = 0)).Nodup ∧ (z ≠ 0 → z ∉ ss.filter fun z => !decide (z = 0)) := by
      rw [List.filter_cons] at h
      by_cases c : z = 0
      · rw [if_neg (by simp [c])] at h
        exact ⟨h, fun q => absurd c q⟩
      · rw [if_pos (by simp [c]), List.nodup_cons] at h
        exact ⟨h.2, fun _ => h.1⟩
    cases x with
    | zero =>
      cases y with
      | zero => rfl
      | succ y =>
        exfalso
        have e0 : z ≠ 0 := e0
        have e : z = ss.getD y 0 := e
        have hy : y < ss.length := Nat.lt_of_succ_lt_succ hy
        refine h2.2 e0 ?_
        rw [e]
        exact mem hy (e ▸ e0)
    | succ x =>
      have e0 : ss.getD x 0 ≠ 0 := e0
      have hx : x < ss.length := Nat.lt_of_succ_lt_succ hx
      cases y with
      | zero =>
        exfalso
        have e : ss.getD x 0 = z := e
        refine h2.2 (e ▸ e0) ?_
        rw [← e]
        exact mem hx e0
      | succ y =>
        have e : ss.getD x 0 = ss.getD y 0 := e
        rw [nd_at h2.1 x y hx (Nat.lt_of_succ_lt_succ hy) e e0]
theorem run_entry {n : Nat} {l : List Nat} {ss : List Int} (h : KeysAt n l ss) (nd : (ss.filter fun z => !decide (z = 0)).Nodup) {a b : List Mv} (da : ∀ m ∈ a, Deed n m) (db : ∀ m ∈ b, Deed n m) : madeE n a l = madeE n b l ↔ runM a ss = runM b ss := by
  constructor
  · intro e
    rw [← led_made h da, ← led_made h db, e]
  · intro e
    have L0 := lies_start n l
    have La := lies_all a _ L0 da
    have Lb := lies_all b _ L0 db
    have ea := lies_fold h a _ L0 da
    have eb := lies_fold h b _ L0 db
    rw [rid_start h] at ea eb
    rw [← ea, ← eb] at e
    unfold madeE
    congr 1
    refine int_ext (n := n) La.len Lb.len fun y hy => ?_
    have ey := congrArg (fun r => r.getD y 0) e
    unfold ridAt at ey
    simp only [getD_map (show y < (List.foldl mvL (stL n l) a).length by rw [La.len]; exact hy), getD_map (show y < (List.foldl mvL (stL n l) b).length by rw [Lb.len]; exact hy)] at ey
    have hz : ∀ x : Nat, x < n → x ∉ l → ss.getD x 0 ≠ 0 := fun x hx hxl z => hxl ((h.2 x hx).mpr z)
    have gzn : ∀ x : Nat, gz ss ((x : Nat) : Int) = ss.getD x 0 := fun x => by
      unfold gz
      rw [Int.toNat_natCast]
    have pos : ∀ x : Nat, (if (0 : Int) ≤ ((x : Nat) : Int) then gz ss ((x : Nat) : Int) else 0) = ss.getD x 0 := fun x => by rw [if_pos (by omega), gzn]
    have neg : (if (0 : Int) ≤ -1 then gz ss (-1) else 0) = 0 := by rw [if_neg (by decide)]
    rcases La.at_ y hy with c1 | ⟨x1, x1n, x1l, c1⟩ <;> rcases Lb.at_ y hy with c2 | ⟨x2, x2n, x2l, c2⟩
    · rw [c1, c2]
    · exfalso
      rw [c1, c2, pos, neg] at ey
      exact hz x2 x2n x2l ey.symm
    · exfalso
      rw [c1, c2, pos, neg] at ey
      exact hz x1 x1n x1l ey
    · rw [c1, c2, pos, pos] at ey
      have := nd_at nd x1 x2 (by rw [h.1]; exact x1n) (by rw [h.1]; exact x2n) ey (hz x1 x1n x1l)
      rw [c1, c2, this]
end Kr
namespace Kr
open PySem PySem.Spec PyProof.Rows L2
/-! ### terms without parts -/
mutual
theorem np_worth {D : Mv → Prop} {r : Nat} {ws vs : List (List Mv)} : ∀ t : Tm, okTm D r 0 t → worth movM ws t = worth movM vs t
  | .doo _, _ => by simp only [worth]
  | .part _, h => by
    simp only [okTm] at h
    omega
  | .row ts, h => by
    simp only [okTm] at h
    simp only [worth, np_worths (ws := ws) (vs := vs) ts h.2]
  | .back t, h => by
    simp only [okTm] at h
    simp only [worth, np_worth (ws := ws) (vs := vs) t h]
  | .times t k, h => by
    simp only [okTm] at h
    simp only [worth, np_worth (ws := ws) (vs := vs) t h.2]
theorem np_worths {D : Mv → Prop} {r : Nat} {ws vs : List (List Mv)} : ∀ ts : List Tm, okTms D r 0 ts → worthL movM ws ts = worthL movM vs ts
  | [], _ => by simp only [worthL]
  | t :: ts, h => by
    simp only [okTms] at h
    simp only [worthL, np_worth (ws := ws) (vs := vs) t h.1, np_worths (ws := ws) (vs := vs) ts h.2]
end
mutual
theorem np_few {D : Mv → Prop} {r : Nat} {ws vs : List (List Mv)} : ∀ t : Tm, okTm D r 0 t → fewM ws t → fewM vs t
  | .doo _, _, _ => by simp only [fewM]
  | .part _, _, _ => by simp only [fewM]
  | .row ts, h, f => by
    have e := np_worth (ws := ws) (vs := vs) _ h
    simp only [okTm] at h
    simp only [fewM] at f ⊢
    rw [e] at f
    exact ⟨f.1, np_fews ts h.2 f.2⟩
  | .back t, h, f => by
    simp only [okTm] at h
    simp only [fewM] at f ⊢
    exact np_few t h f
  | .times t k, h, f => by
    have e := np_worth (ws := ws) (vs := vs) _ h
    simp only [okTm] at h
    simp only [fewM] at f ⊢
    rw [e] at f
    exact ⟨f.1, np_few t h.2 f.2⟩
theorem np_fews {D : Mv → Prop} {r : Nat} {ws vs : List (List Mv)} : ∀ ts : List Tm, okTms D r 0 ts → fewMs ws ts → fewMs vs ts
  | [], _, _ => by simp only [fewMs]
  | t :: ts, h, f => by
    simp only [okTms] at h
    simp only [fewMs] at f ⊢
    exact ⟨np_few t h.1 f.1, np_fews ts h.2 f.2⟩
end
/-! ### deeds told otherwise -/
def mvs (ts : List Tm) : List Mv := (ts.map (worth movM [])).flatten
theorem mvs_app (a b : List Tm) : mvs (a ++ b) = mvs a ++ mvs b := by unfold mvs; rw [List.map_append, List.flatten_append]
theorem mvs_do : ∀ cs : List Mv, mvs (cs.map Tm.doo) = cs
  | [] => rfl
  | c :: cs => by
    have ih := mvs_do cs
    unfold mvs at ih ⊢
    rw [List.map_cons, List.map_cons, List.flatten_cons, ih]
    simp only [worth]
    rfl
theorem worth_row {ws : List (List Mv)} {D : Mv → Prop} {r : Nat} {ts : List Tm} (h : okTms D r 0 ts) : worth movM ws (.row ts) = mvs ts := by
  simp only [worth, np_worths (ws := ws) (vs := []) ts h]
  rw [worthL_map]
  rfl
structure TOk (n : Nat) (t : Tm) : Prop where
  ok : okTm (Deed n) 400 0 t
  dp : dep t ≤ 4
  fw : fewM [] t
structure BlkTm (n : Nat) (bs : List Tm) (cs : List Mv) : Prop where
  tm : ∀ t ∈ bs, TOk n t
  sim : Sim n (mvs bs) cs
  few : bs.length ≤ 4 * cs.length
  len : (mvs bs).length ≤ 5 * cs.length
theorem BlkTm.app {n : Nat} {a b : List Tm} {x y : List Mv} (h : BlkTm n a x) (g : BlkTm n b y) : BlkTm n (a ++ b) (x ++ y) := ⟨fun t ht => (List.mem_append.mp ht).elim (h.tm t) (g.tm t), by rw [mvs_app]; exact h.sim.app g.sim, by
  have := h.few
  have := g.few
  rw [List.length_append, List.length_append]
  omega, by
  have := h.len
  have := g.len
  rw [mvs_app, List.length_append, List.length_append]
  omega⟩
theorem BlkTm.nil {n : Nat} : BlkTm n [] [] := ⟨fun _ h => (nomatch h), Sim.refl, Nat.le_refl _, Nat.le_refl _⟩
section
variable {n : Nat} {cs : List Mv}
theorem do_ok {m : Mv} (h : Deed n m) : TOk n (.doo m) := ⟨by simp only [okTm]; exact h, by simp only [dep]; omega, by simp only [fewM]⟩
theorem dos_ok (h : ∀ m ∈ cs, Deed n m) : okTms (Deed n) 400 0 (cs.map Tm.doo) := okTms_of fun t ht => by
  obtain ⟨m, hm, rfl⟩ := List.mem_map.mp ht
  exact (do_ok (h m hm)).ok
theorem dos_few : fewMs [] (cs.map Tm.doo) := fewMs_of fun t ht => by
  obtain ⟨m, _, rfl⟩ := List.mem_map.mp ht
  simp only [fewM]
theorem dos_dep : depL (cs.map Tm.doo) ≤ 1 := by
  induction cs with
  | nil => simp [depL]
  | cons c cs ih => simp only [List.map_cons, depL, dep]; omega
theorem blk_do (h : ∀ m ∈ cs, Deed n m) : BlkTm n (cs.map Tm.doo) cs := ⟨fun t ht => by
  obtain ⟨m, hm, rfl⟩ := List.mem_map.mp ht
  exact do_ok (h m hm), .of_eq (mvs_do cs), by rw [List.length_map]; omega, by rw [mvs_do]; omega⟩
theorem row_ok (h : ∀ m ∈ cs, Deed n m) (hl : cs.length ≤ 3) : TOk n (.row (cs.map Tm.doo)) := ⟨by
  simp only [okTm]
  exact ⟨by rw [List.length_map]; omega, dos_ok h⟩, by
  have := dos_dep (cs := cs)
  simp only [dep]
  omega, by
  simp only [fewM]
  refine ⟨?_, dos_few⟩
  rw [worth_row (dos_ok h), mvs_do]
  omega⟩
theorem one_mvs (t : Tm) : mvs [t] = worth movM [] t := by unfold mvs; simp
theorem blk_row (h : ∀ m ∈ cs, Deed n m) (hl : cs.length ≤ 3) (h1 : 1 ≤ cs.length) : BlkTm n [.row (cs.map Tm.doo)] cs := by
  have e : mvs [Tm.row (cs.map Tm.doo)] = cs := by rw [one_mvs, worth_row (dos_ok h), mvs_do]
  exact ⟨fun t ht => by rw [List.mem_singleton.mp ht]; exact row_ok h hl, .of_eq e, by simp; omega, by rw [e]; omega⟩
theorem back_ok {t : Tm} (h : TOk n t) (hd : dep t ≤ 3) : TOk n (.back t) := ⟨by simp only [okTm]; exact h.ok, by simp only [dep]; omega, by simp only [fewM]; exact h.fw⟩
theorem blk_back (h : ∀ m ∈ cs, Deed n m) (hl : cs.length ≤ 3) (h1 : 1 ≤ cs.length) : BlkTm n [.back (.row (cs.map Tm.doo).reverse)] cs := by
  have hr : ∀ m ∈ cs.reverse, Deed n m := fun m hm => h m (List.mem_reverse.mp hm)
  have e : mvs [Tm.back (.row (cs.map Tm.doo).reverse)] = cs := by
    rw [one_mvs, ← List.map_reverse]
    have e1 : worth movM [] (Tm.back (.row (cs.reverse.map Tm.doo))) = (worth movM [] (.row (cs.reverse.map Tm.doo))).reverse := by
      simp only [worth]
      rfl
    rw [e1, worth_row (dos_ok hr), mvs_do, List.reverse_reverse]
  refine ⟨fun t ht => ?_, .of_eq e, by simp; omega, by rw [e]; omega⟩
  rw [List.mem_singleton.mp ht, ← List.map_reverse]
  refine back_ok (row_ok hr (by rw [List.length_reverse]; exact hl)) ?_
  have := dos_dep (cs := cs.reverse)
  simp only [dep]
  omega
theorem blk_bb (h : ∀ m ∈ cs, Deed n m) (hl : cs.length ≤ 3) (h1 : 1 ≤ cs.length) : BlkTm n [.back (.back (.row (cs.map Tm.doo)))] cs := by
  have e : mvs [Tm.back (.back (.row (cs.map Tm.doo)))] = cs := by
    have e1 : worth movM [] (Tm.back (.back (.row (cs.map Tm.doo)))) = (worth movM [] (.row (cs.map Tm.doo))).reverse.reverse := by
      simp only [worth]
      rfl
    rw [one_mvs, e1, worth_row (dos_ok h), mvs_do, List.reverse_reverse]
  have hd := dos_dep (cs := cs)
  refine ⟨fun t ht => ?_, .of_eq e, by simp; omega, by rw [e]; omega⟩
  rw [List.mem_singleton.mp ht]
  exact back_ok (back_ok (row_ok h hl) (by simp only [dep]; omega)) (by simp only [dep]; omega)
theorem rep_nil {α : Type} : ∀ m : Nat, (List.replicate m ([] : List α)).flatten = []
  | 0 => rfl
  | m + 1 => by rw [List.replicate_succ, List.flatten_cons, rep_nil m]; rfl
theorem idle_worth (k : Nat) : worth movM [] (.times (.row []) k) = [] := by
  simp only [worth, worthL]
  exact rep_nil k
theorem blk_twice (h : ∀ m ∈ cs, Deed n m) (h1 : 1 ≤ cs.length) {d : Mv} (hd : Deed n d) {k : Nat} (hk : k ≤ 10 ^ 30) : BlkTm n (cs.map Tm.doo ++ [.doo d, .times (.row []) k, .doo d]) cs := by
  have e : mvs (cs.map Tm.doo ++ [Tm.doo d, .times (.row []) k, .doo d]) = cs ++ [d, d] := by
    rw [mvs_app, mvs_do]
    congr 1
    unfold mvs
    rw [List.map_cons, List.map_cons, List.map_cons, List.map_nil, idle_worth]
    simp only [worth]
    rfl
  refine ⟨fun t ht => ?_, ?_, by rw [List.length_append, List.length_map]; simp; omega, by rw [e, List.length_append]; simp; omega⟩
  · rcases List.mem_append.mp ht with c | c
    · exact (blk_do h).tm t c
    · simp only [List.mem_cons, List.not_mem_nil, or_false] at c
      rcases c with rfl | rfl | rfl
      · exact do_ok hd
      · refine ⟨?_, ?_, ?_⟩
        · simp only [okTm, okTms]
          exact ⟨hk, by simp, trivial⟩
        · simp only [dep, depL]
          omega
        · simp only [fewM, fewMs]
          refine ⟨?_, ?_, trivial⟩
          · rw [idle_worth]
            exact Nat.zero_le _
          · simp only [worth, worthL]
            exact Nat.zero_le _
      · exact do_ok hd
  · rw [e]
    have := (Sim.refl (n := n) (a := cs)).app (sim_twice hd)
    rwa [List.append_nil] at this
theorem even_worth (d : Mv) (k : Nat) : worth movM [] (.times (.doo d) k) = List.replicate k d := by
  simp only [worth]
  show (List.replicate k [d]).flatten = _
  induction k with
  | zero => rfl
  | succ k ih => rw [List.replicate_succ, List.flatten_cons, ih]; rfl
theorem blk_even (h : ∀ m ∈ cs, Deed n m) (h1 : 1 ≤ cs.length) {d : Mv} (hd : Deed n d) {k : Nat} (hk : k ≤ 2) : BlkTm n (cs.map Tm.doo ++ [.times (.doo d) (2 * k), .row []]) cs := by
  have e : mvs (cs.map Tm.doo ++ [Tm.times (.doo d) (2 * k), .row []]) = cs ++ List.replicate (2 * k) d := by
    rw [mvs_app, mvs_do]
    congr 1
    unfold mvs
    rw [List.map_cons, List.map_cons, List.map_nil, even_worth]
    simp only [worth, worthL]
    show [List.replicate (2 * k) d, ([] : List (List Mv)).flatten].flatten = _
    simp
  refine ⟨fun t ht => ?_, ?_, by rw [List.length_append, List.length_map]; simp; omega, by rw [e, List.length_append, List.length_replicate]; omega⟩
  · rcases List.mem_append.mp ht with c | c
    · exact (blk_do h).tm t c
    · simp only [List.mem_cons, List.not_mem_nil, or_false] at c
      rcases c with rfl | rfl
      · refine ⟨?_, ?_, ?_⟩
        · simp only [okTm]
          exact ⟨Nat.le_trans (by omega : 2 * k ≤ 4) (by decide +kernel), hd⟩
        · simp only [dep]
          omega
        · simp only [fewM]
          refine ⟨?_, trivial⟩
          rw [even_worth, List.length_replicate]
          omega
      · refine ⟨?_, ?_, ?_⟩
        · simp only [okTm, okTms]
          exact ⟨by simp, trivial⟩
        · simp only [dep, depL]
          omega
        · simp only [fewM, fewMs]
          refine ⟨?_, trivial⟩
          simp only [worth, worthL]
          exact Nat.zero_le _
  · rw [e]
    have := (Sim.refl (n := n) (a := cs)).app (sim_even hd k)
    rwa [List.append_nil] at this
/-! ### the program -/
def dressP (ps : List Mv) (ts : List Tm) (cut : Nat) : List Tm := ps.map Tm.doo ++ [.row (ts.take cut), .row (ts.drop cut), .row [.part ps.length, .part (ps.length + 1)]]
theorem ws_do : ∀ (ps : List Mv) (ws : List (List Mv)), wsAll movM (ps.map Tm.doo) ws = ws ++ ps.map fun m => [m]
  | [], ws => by simp [wsAll]
  | m :: ps, ws => by
    show wsAll movM (ps.map Tm.doo) (ws ++ [worth movM ws (.doo m)]) = _
    rw [ws_do ps]
    simp only [worth]
    show ws ++ [[m]] ++ _ = _
    simp
theorem dress_fin {ps : List Mv} {ts : List Tm} {ms : List Mv} {cut : Nat} (hps : ∀ m ∈ ps, Deed n m) (hl : ps.length ≤ 2) (B : BlkTm n ts ms) (hm : ms.length ≤ 90) :
    PrOk (Deed n) 400 5 (dressP ps ts cut) ∧ Sim n (progW movM (dressP ps ts cut)) ms ∧ (∀ (i : Nat) t, (dressP ps ts cut)[i]? = some t → fewM (wsAll movM ((dressP ps ts cut).take i) []) t) ∧ (progW movM (dressP ps ts cut)).length ≤ 5000 := by
  have okA : okTms (Deed n) 400 0 (ts.take cut) := okTms_of fun t ht => (B.tm t (List.take_subset _ _ ht)).ok
  have okB : okTms (Deed n) 400 0 (ts.drop cut) := okTms_of fun t ht => (B.tm t (List.drop_subset _ _ ht)).ok
  have hfew := B.few
  have hlen := B.len
  have cat : mvs (ts.take cut) ++ mvs (ts.drop cut) = mvs ts := by rw [← mvs_app, List.take_append_drop]
  have catl := congrArg List.length cat
  rw [List.length_append] at catl
  have dpl : ∀ us : List Tm, (∀ t ∈ us, t ∈ ts) → depL us ≤ 4 := by
    intro us
    induction us with
    | nil => intro _; simp [depL]
    | cons u us ih =>
      intro h
      simp only [depL]
      exact Nat.max_le.mpr ⟨(B.tm u (h u List.mem_cons_self)).dp, ih fun x hx => h x (List.mem_cons_of_mem _ hx)⟩
  have fwl : ∀ (ws : List (List Mv)) (us : List Tm), (∀ t ∈ us, t ∈ ts) → fewMs ws us := fun ws us h => fewMs_of fun t ht => np_few t (B.tm t (h t ht)).ok (B.tm t (h t ht)).fw
  have subA : ∀ t ∈ ts.take cut, t ∈ ts := fun t ht => List.take_subset _ _ ht
  have subB : ∀ t ∈ ts.drop cut, t ∈ ts := fun t ht => List.drop_subset _ _ ht
  have get : ∀ (i : Nat) t, (dressP ps ts cut)[i]? = some t → (∃ m, m ∈ ps ∧ t = .doo m) ∨ t = .row (ts.take cut) ∨ t = .row (ts.drop cut) ∨ (i = ps.length + 2 ∧ t = .row [.part ps.length, .part (ps.length + 1)]) := fun i t h => by
    unfold dressP at h
    by_cases c : i < (ps.map Tm.doo).length
    · rw [List.getElem?_append_left c] at h
      obtain ⟨m, hm, e⟩ := List.mem_map.mp (List.mem_of_getElem? h)
      exact .inl ⟨m, hm, e.symm⟩
    · rw [List.getElem?_append_right (by omega)] at h
      rw [List.length_map] at h c
      rcases hi : i - ps.length with _ | _ | _ | j
      · rw [hi] at h
        exact .inr (.inl (Option.some.inj h).symm)
      · rw [hi] at h
        exact .inr (.inr (.inl (Option.some.inj h).symm))
      · rw [hi] at h
        exact .inr (.inr (.inr ⟨by omega, (Option.some.inj h).symm⟩))
      · rw [hi] at h
        simp at h
  have e3 : wsAll movM (dressP ps ts cut) [] = ps.map (fun m => [m]) ++ [mvs (ts.take cut), mvs (ts.drop cut), mvs ts] := by
    unfold dressP
    rw [wsAll_app, ws_do, List.nil_append]
    generalize hW : (ps.map fun m : Mv => [m]) = W
    have hWl : W.length = ps.length := by rw [← hW, List.length_map]
    have eC : ∀ a b : List Mv, worth movM (W ++ [a] ++ [b]) (.row [.part ps.length, .part (ps.length + 1)]) = a ++ b := fun a b => by
      have g1 : (W ++ [a] ++ [b]).getD ps.length [] = a := by
        rw [List.append_assoc, List.getD_eq_getElem?_getD, List.getElem?_append_right (by omega), hWl, Nat.sub_self]
        rfl
      have g2 : (W ++ [a] ++ [b]).getD (ps.length + 1) [] = b := by
        rw [List.append_assoc, List.getD_eq_getElem?_getD, List.getElem?_append_right (by omega), hWl, show ps.length + 1 - ps.length = 1 by omega]
        rfl
      simp only [worth, worthL]
      show [(W ++ [a] ++ [b]).getD ps.length [], (W ++ [a] ++ [b]).getD (ps.length + 1) []].flatten = a ++ b
      rw [g1, g2]
      simp
    simp only [wsAll]
    rw [worth_row okA, worth_row okB, eC, cat]
    simp
  have e4 : progW movM (dressP ps ts cut) = mvs ts := by
    unfold progW
    rw [e3]
    simp
  have hpl : (dressP ps ts cut).length = ps.length + 3 := by
    unfold dressP
    rw [List.length_append, List.length_map]
    rfl
  refine ⟨⟨by omega, by omega, fun i t h => ?_⟩, by rw [e4]; exact B.sim, fun i t h => ?_, by rw [e4]; omega⟩
  · rcases get i t h with ⟨m, hm, rfl⟩ | rfl | rfl | ⟨rfl, rfl⟩
    · refine ⟨?_, by simp only [dep]; omega⟩
      simp only [okTm]
      exact hps m hm
    · have := dpl _ subA
      refine ⟨?_, by simp only [dep]; omega⟩
      refine okTm_mono (fun _ h => h) (Nat.le_refl _) (Nat.zero_le _) _ ?_
      simp only [okTm]
      exact ⟨by rw [List.length_take]; omega, okA⟩
    · have := dpl _ subB
      refine ⟨?_, by simp only [dep]; omega⟩
      refine okTm_mono (fun _ h => h) (Nat.le_refl _) (Nat.zero_le _) _ ?_
      simp only [okTm]
      exact ⟨by rw [List.length_drop]; omega, okB⟩
    · refine ⟨?_, by simp only [dep, depL]; omega⟩
      simp only [okTm, okTms]
      exact ⟨by simp, by omega, by omega, trivial⟩
  · rcases get i t h with ⟨m, hm, rfl⟩ | rfl | rfl | ⟨rfl, rfl⟩
    · simp only [fewM]
    · simp only [fewM]
      refine ⟨?_, fwl _ _ subA⟩
      rw [worth_row okA]
      omega
    · simp only [fewM]
      refine ⟨?_, fwl _ _ subB⟩
      rw [worth_row okB]
      omega
    · simp only [fewM, fewMs]
      refine ⟨?_, trivial, trivial, trivial⟩
      have e5 := wsAll_take movM h
      rw [List.take_of_length_le (by omega), e3] at e5
      have e6 := congrArg (fun w => w.getLastD []) e5
      simp only [List.getLastD_concat] at e6
      rw [← e6]
      have : (ps.map (fun m : Mv => [m]) ++ [mvs (ts.take cut), mvs (ts.drop cut), mvs ts]).getLastD [] = mvs ts := by simp
      rw [this]
      omega
end
end Kr
namespace Kr
open PySem PySem.Spec PyProof.Rows L2
local macro_rules | `(tactic| walk_at "bq") => `(tactic| repeat' (first | with_reducible refine bqa_nil ?_ | with_reducible refine bqa_cons ?_ | with_reducible refine bq_tup0 ?_ | with_reducible refine bq_tup1 ?_ | with_reducible refine bq_tup2 ?_ | with_reducible refine bq_tup3 ?_ | with_reducible refine bq_str ?_ | with_reducible refine bq_c ?_ | with_reducible refine bn_c ?_ | with_reducible refine bn_op ?_))
theorem tms_flatM (ts : List Tm) : flatTA (ts.map tmD) = true := by
  have := tms_flat ts
  rwa [tmDs_map] at this
theorem cut_mid {xs : List V} {i s : Nat} (h : i ≤ xs.length) : cutV xs (some (i : Int)) (some ((i : Int) + (s : Int))) = (xs.drop i).take s := by
  unfold cutV
  rw [HT.sIx_nat, show ((i : Int) + (s : Int)) = ((i + s : Nat) : Int) by omega, HT.sIx_nat, Nat.min_eq_left h]
  by_cases c : i + s ≤ xs.length
  · rw [Nat.min_eq_left c, show i + s - i = s by omega]
  · rw [Nat.min_eq_right (by omega), List.take_of_length_le (by rw [List.length_drop]; omega), List.take_of_length_le (by rw [List.length_drop]; omega)]
structure LD (n : Nat) (p l : Addr) (H : Hp) (mo : Addr) (xs : List V) (ms : List Mv) (T : Addr) (us : List V) (ts : List Tm) (G : Hp) : Prop where
  D : Deck G p l
  E : Ext p l H G
  hmo : hid p l G mo = some (.lst xs)
  mv : DqA G xs (ms.map deedD)
  hT : hid p l G T = some (.lst us)
  qu : DqA G us (ts.map tmD)
section
variable {n : Nat} {p l : Addr} {H G G' : Hp} {mo T : Addr} {xs us : List V} {ms : List Mv} {ts : List Tm}
theorem LD.deck (h : LD n p l H mo xs ms T us ts G) (D : Deck G' p l) (E : Ext p l G G') : LD n p l H mo xs ms T us ts G' := ⟨D, Same.trans h.E E, E _ _ h.hmo, DqA.upT (TS.deck h.D E) (deeds_flat' _) h.mv, E _ _ h.hT, DqA.upT (TS.deck h.D E) (tms_flatM _) h.qu⟩
theorem LD.up (h : LD n p l H mo xs ms T us ts G) (s : Same G G') : LD n p l H mo xs ms T us ts G' := h.deck (h.D.up s) (Ext.of s)
end
/-- the block, behind k of the tests -/
structure BkS (n : Nat) (p l : Addr) (S : Addr) (cs : List Mv) (k w : Nat) (G : Hp) : Prop where
  ex : ∃ (vs : List V) (bs : List Tm), hid p l G S = some (.lst vs) ∧ DqA G vs (bs.map tmD) ∧ BlkTm n bs cs ∧ (k ≤ w → bs = cs.map .doo)
theorem BkS.deck {n : Nat} {p l S : Addr} {cs : List Mv} {k w : Nat} {G G' : Hp} (h : BkS n p l S cs k w G) (D : Deck G p l) (E : Ext p l G G') : BkS n p l S cs k w G' := by
  obtain ⟨vs, bs, h1, h2, h3, h4⟩ := h.ex
  exact ⟨vs, bs, E _ _ h1, DqA.upT (TS.deck D E) (tms_flatM _) h2, h3, h4⟩
theorem BkS.next {n : Nat} {p l S : Addr} {cs : List Mv} {k w : Nat} {G : Hp} (h : BkS n p l S cs k w G) : BkS n p l S cs (k + 1) w G := by
  obtain ⟨vs, bs, h1, h2, h3, h4⟩ := h.ex
  exact ⟨vs, bs, h1, h2, h3, fun z => h4 (by omega)⟩
theorem BkS.new {n : Nat} {p l S : Addr} {cs : List Mv} {w : Nat} {G : Hp} {v : V} {t : Tm} (D : Deck G p l) (nS : G S = none) (q : Dq G v (tmD t)) (B : BlkTm n [t] cs) : BkS n p l S cs (w + 1) w (upd G S (.lst [v])) := by
  obtain ⟨n1, n2⟩ := D.new nS
  exact ⟨[v], [t], hid_upd n1 n2, .one (q.up (same_new nS)), B, fun z => by omega⟩
section
variable {P : Program} {w : World} {K : PySem.W.Frag} {mg : Str → Option Value} {base : Heap}
def spDressed : Sp := fun vs H Q _ => ∃ (p l : Addr) (n : Nat) (mo : Addr) (xs : List V) (ms : List Mv), vs = [.ref p, .int (n : Int), .ref mo] ∧ Deck H p l ∧ 3 ≤ n ∧ n ≤ 6 ∧ hid p l H mo = some (.lst xs) ∧ DqA H xs (ms.map deedD) ∧ (∀ m ∈ ms, Deed n m) ∧ ms.length ≤ 90 ∧ ∀ H' v ts, Deck H' p l → Ext p l H H' → Dq H' v (.tuple (ts.map tmD)) → PrOk (Deed n) 400 5 ts → Sim n (progW movM ts) ms → (∀ (i : Nat) t, ts[i]? = some t → fewM (wsAll movM (ts.take i) []) t) → (progW movM ts).length ≤ 5000 → Q v H'
abbrev n_lDressed : List Str := ["box", "n", "moves", "terms", "at", "way", "size", "some", "deed", "parts", "turn", "cut", "here"]
theorem sc_lDressed : FnScope n_lDressed ["box", "n", "moves"] (defScope sLDressed) := ⟨rfl, rfl, rfl, by decide +kernel, rfl, by decide +kernel, by decide +kernel⟩
theorem o_lDressed (D0 : Df K mg "_law_dressed" sLDressed ["box", "n", "moves"]) (B : Bi mg) (dr : Ok P w K mg base 1 "_law_draw" ["box", "many"] spDraw) (dd : Ok P w K mg base 3 "_law_deed" ["box", "n"] spDeed) : Ok P w K mg base 4 "_law_dressed" ["box", "n", "moves"] spDressed := by
  refine D0.ok fun f fd F => F.ok sc_lDressed (fun vs H Q E h => ?_) (fun cdv A outer s H vs Q E hr h => ?_)
  · obtain ⟨_, _, _, _, _, _, rfl, _⟩ := h
    rfl
  · obtain ⟨p, l, n, mo, xs, ms, rfl, Dk, n0, n1, hmo, hxs, hde, hlen, q⟩ := h
    have hr_dr := hr.mono (show 1 ≤ 3 by omega)
    have hr_dd := hr.mono (show 3 ≤ 3 by omega)
    have hu : (cxOf CX0 P w K mg base n_lDressed "_law_dressed" (defScope sLDressed) f cdv A outer s H E).A.units + 64 < cLine := hr.units
    have hu1 := hu_of hr
    refine ⟨_, pss_cons (ps_par (i := 3) (j := 4) rfl sc_lDressed.nd rfl rfl (by decide) rfl rfl (pa_cons (pe_lst pa_nil) (pa_cons pe_int pa_nil)) (by rfl))
      (pss_cons (ps_while PassesOwn.never (pt_cmpR op_lt (pv 4) (pe_callB call_len_seq (by rfl) B.len boot_len (pa_cons (pv 2) pa_nil)) (nomark _))
        (pss_cons (ps_par (i := 5) (j := 6) rfl sc_lDressed.nd rfl rfl (by decide) rfl rfl (pa_cons (pe_fn dr hr_dr (by rfl) (pa_cons (pv 0) (pa_cons pe_int pa_nil))) (pa_cons (pe_op op_add pe_int (pe_fn dr hr_dr (by rfl) (pa_cons (pv 0) (pa_cons pe_int pa_nil)))) pa_nil)) (by rfl))
        (pss_cons (ps_setLc (i := 7) (own := [("deed", 8)]) (g := gName 8) (tt := tYes) rfl sc_lDressed.nd rfl rfl (sw_true rfl rfl rfl (by decide +kernel)) (pi_list (pe_slice sl_list (pv 2) (po_some (pv 4)) (po_some (pe_op op_add (pv 4) (pv 6))))) (blkOk_by (own := [("deed", 8)]) (N := n_lDressed) (sc := defScope sLDressed) (by decide +kernel)) (fun _ _ _ _ _ => pg_name (i := 8) sc_lDressed.nd rfl (.inl rfl)) (fun _ _ _ _ _ => pts_nil) (fun _ _ _ _ _ => (pe_tup (pa_cons pe_str (pa_cons (pv 8) pa_nil)))))
        (pss_cons (ps_set (i := 4) sc_lDressed.nd rfl (.inl rfl) (pe_op op_add (pv 4) (pv 6)))
        (pss_cons (ps_if (pt_cmpR op_eq (pv 5) pe_int (nomark _)) (pss_one (ps_set (i := 7) sc_lDressed.nd rfl (.inl rfl) (pe_lst (pa_cons (pe_tup (pa_cons pe_str (pa_cons (pe_callTy call_tuple_of (by rfl) B.tuple (by decide +kernel) (pa_cons (pv 7) pa_nil)) pa_nil))) pa_nil)))) pss_nil)
        (pss_cons (ps_if (pt_cmpR op_eq (pv 5) pe_int (nomark _)) (pss_one (ps_set (i := 7) sc_lDressed.nd rfl (.inl rfl) (pe_lst (pa_cons (pe_tup (pa_cons pe_str (pa_cons (pe_tup (pa_cons pe_str (pa_cons (pe_callTy call_tuple_of (by rfl) B.tuple (by decide +kernel) (pa_cons (pe_revL (pv 7)) pa_nil)) pa_nil))) pa_nil))) pa_nil)))) pss_nil)
        (pss_cons (ps_if (pt_cmpR op_eq (pv 5) pe_int (nomark _)) (pss_one (ps_set (i := 7) sc_lDressed.nd rfl (.inl rfl) (pe_lst (pa_cons (pe_tup (pa_cons pe_str (pa_cons (pe_tup (pa_cons pe_str (pa_cons (pe_tup (pa_cons pe_str (pa_cons (pe_callTy call_tuple_of (by rfl) B.tuple (by decide +kernel) (pa_cons (pv 7) pa_nil)) pa_nil))) pa_nil))) pa_nil))) pa_nil)))) pss_nil)
        (pss_cons (ps_if (pt_cmpR op_eq (pv 5) pe_int (nomark _)) (pss_cons (ps_set (i := 8) sc_lDressed.nd rfl (.inl rfl) (pe_tup (pa_cons pe_str (pa_cons (pe_fn dd hr_dd (by rfl) (pa_cons (pv 0) (pa_cons (pv 1) pa_nil))) pa_nil))))
          (pss_one (ps_set (i := 7) sc_lDressed.nd rfl (.inl rfl) (pe_op op_cat (pv 7) (pe_lst (pa_cons (pv 8) (pa_cons (pe_tup (pa_cons pe_str (pa_cons (pe_tup (pa_cons pe_str (pa_cons (pe_tup pa_nil) pa_nil))) (pa_cons (pe_op op_pow pe_int pe_int) pa_nil)))) (pa_cons (pv 8) pa_nil)))))))) pss_nil)
        (pss_cons (ps_if (pt_cmpR op_eq (pv 5) pe_int (nomark _)) (pss_one (ps_set (i := 7) sc_lDressed.nd rfl (.inl rfl) (pe_op op_cat (pv 7) (pe_lst (pa_cons (pe_tup (pa_cons pe_str (pa_cons (pe_tup (pa_cons pe_str (pa_cons (pe_fn dd hr_dd (by rfl) (pa_cons (pv 0) (pa_cons (pv 1) pa_nil))) pa_nil))) (pa_cons (pe_op op_mul pe_int (pe_fn dr hr_dr (by rfl) (pa_cons (pv 0) (pa_cons pe_int pa_nil)))) pa_nil)))) (pa_cons (pe_tup (pa_cons pe_str (pa_cons (pe_tup pa_nil) pa_nil))) pa_nil)))))) pss_nil)
        (pss_one (ps_set (i := 3) sc_lDressed.nd rfl (.inl rfl) (pe_op op_cat (pv 3) (pv 7)))))))))))))
      (pss_cons (ps_set (i := 9) sc_lDressed.nd rfl (.inl rfl) (pe_callTy call_tuple_of (by rfl) B.tuple (by decide +kernel) (pa_cons (pe_lc (own := [("turn", 10)]) (g := gName 10) (tt := tYes) rfl sc_lDressed.nd (pi_range1 (by rfl) B.range (pa_cons (pe_fn dr hr_dr (by rfl) (pa_cons (pv 0) (pa_cons pe_int pa_nil))) pa_nil)) (blkOk_by (own := [("turn", 10)]) (N := n_lDressed) (sc := defScope sLDressed) (by decide +kernel)) (fun _ _ _ _ _ => pg_name (i := 10) sc_lDressed.nd rfl (.inl rfl)) (fun _ _ _ _ _ => pts_nil) (fun _ _ _ _ _ => (pe_tup (pa_cons pe_str (pa_cons (pe_fn dd hr_dd (by rfl) (pa_cons (pv 0) (pa_cons (pv 1) pa_nil))) pa_nil))))) pa_nil)))
      (pss_cons (ps_set (i := 11) sc_lDressed.nd rfl (.inl rfl) (pe_fn dr hr_dr (by rfl) (pa_cons (pv 0) (pa_cons (pe_op op_add (pe_callB call_len_seq (by rfl) B.len boot_len (pa_cons (pv 3) pa_nil)) pe_int) pa_nil))))
      (pss_cons (ps_set (i := 12) sc_lDressed.nd rfl (.inl rfl) (pe_callB call_len_seq (by rfl) B.len boot_len (pa_cons (pv 9) pa_nil)))
      (pss_cons (ps_set (i := 9) sc_lDressed.nd rfl (.inl rfl) (pe_op op_catA (pv 9) (pe_tup (pa_cons (pe_tup (pa_cons pe_str (pa_cons (pe_callTy call_tuple_of (by rfl) B.tuple (by decide +kernel) (pa_cons (pe_slice sl_list (pv 3) po_none (po_some (pv 11))) pa_nil)) pa_nil))) (pa_cons (pe_tup (pa_cons pe_str (pa_cons (pe_callTy call_tuple_of (by rfl) B.tuple (by decide +kernel) (pa_cons (pe_slice sl_list (pv 3) (po_some (pv 11)) po_none) pa_nil)) pa_nil))) pa_nil)))))
      (pss_one (ps_ret (pe_op op_catA (pv 9) (pe_tup (pa_cons (pe_tup (pa_cons pe_str (pa_cons (pe_tup (pa_cons (pe_tup (pa_cons pe_str (pa_cons (pv 12) pa_nil))) (pa_cons (pe_tup (pa_cons pe_str (pa_cons (pe_op op_add (pv 12) pe_int) pa_nil))) pa_nil))) pa_nil))) pa_nil)))))))))), ?_⟩
    have hxl : xs.length = ms.length := by rw [hxs.len, List.length_map]
    refine ⟨by show 0 ≤ sizeLine; decide, fun T nT => ⟨_, _, rfl, ?_⟩⟩
    obtain ⟨nTp, nTl⟩ := Dk.new nT
    have s0 := same_new (o := .lst []) nT
    have L0 : LD n p l H mo xs ms T [] [] (upd H T (.lst [])) := ⟨Dk.up s0, Ext.of s0, Ext.of s0 _ _ hmo, hxs.up s0, hid_upd nTp nTl, .nil⟩
    generalize upd H T (.lst []) = H0 at L0
    clear s0 nTp nTl nT
    refine ⟨fun m σ G => ∃ (a : Nat) (T : Addr) (us : List V) (ts : List Tm) (v5 v6 v7 v8 : Option V), m = ms.length - a ∧ σ = [some (.ref p), some (.int (n : Int)), some (.ref mo), some (.ref T), some (.int (a : Int)), v5, v6, v7, v8, none, none, none, none] ∧ LD n p l H mo xs ms T us ts G ∧ BlkTm n ts (ms.take a), ⟨_, 0, T, [], [], _, _, _, _, rfl, rfl, L0, by rw [List.take_zero]; exact .nil⟩, ?_⟩
    clear L0 H0 T
    rintro m σ G ⟨a, T, us, ts, v5, v6, v7, v8, rfl, rfl, L, B⟩
    refine ⟨.int (a : Int), rfl, .ref mo, rfl, mo, xs, rfl, .inl (SqL.of (hid_same p l G _ _ L.hmo)), _, _, rfl, rfl, _, rfl, ite2 (fun c => ?_) (fun c => ?_)⟩
    · have c : ((a : Nat) : Int) < ((xs.length : Nat) : Int) := of_decide_eq_true c
      have ha : a < ms.length := by omega
      refine ⟨fun σ G => ∃ (a2 : Nat) (T : Addr) (us : List V) (ts : List Tm) (v5 v6 v7 v8 : Option V), a < a2 ∧ σ = [some (.ref p), some (.int (n : Int)), some (.ref mo), some (.ref T), some (.int (a2 : Int)), v5, v6, v7, v8, none, none, none, none] ∧ LD n p l H mo xs ms T us ts G ∧ BlkTm n ts (ms.take a2), fun σ' G' ⟨a2, T, us, ts, v5, v6, v7, v8, h1, h2, h3, h4⟩ => ⟨ms.length - a2, by omega, a2, T, us, ts, v5, v6, v7, v8, rfl, h2, h3, h4⟩, ?_⟩
      refine ⟨.ref p, rfl, p, l, 7, rfl, L.D, by decide, by decide, fun G1 w D1 E1 w0 w1 => ⟨.ref p, rfl, p, l, 3, rfl, D1, by decide, by decide, fun G2 r D2 E2 r0 r1 => ⟨_, _, rfl, rfl, _, _, rfl, ?_⟩⟩⟩
      have L2 := (L.deck D1 E1).deck D2 E2
      obtain ⟨w, rfl⟩ : ∃ w' : Nat, w = (w' : Int) := ⟨w.toNat, by omega⟩
      obtain ⟨s, hs, s1, s3⟩ : ∃ s : Nat, 1 + r = (s : Int) ∧ 1 ≤ s ∧ s ≤ 3 := ⟨(1 + r).toNat, by omega, by omega, by omega⟩
      dsimp only
      rw [hs]
      clear L D1 E1 D2 E2 r0 r1 hs w0
      have hcl : ((ms.drop a).take s).length ≤ 3 := by rw [List.length_take]; omega
      have hc1 : 1 ≤ ((ms.drop a).take s).length := by rw [List.length_take, List.length_drop]; omega
      have hdc : ∀ m ∈ (ms.drop a).take s, Deed n m := fun m hm => hde m (List.drop_subset _ _ (List.take_subset _ _ hm))
      have happ : ms.take (a + s) = ms.take a ++ (ms.drop a).take s := List.take_add
      generalize hcs : (ms.drop a).take s = cs at hcl hc1 hdc happ
      refine sq_asg ?_
      refine ⟨.ref mo, rfl, .int (a : Int), rfl, (a : Int), rfl, .int (a : Int), rfl, .int (s : Int), rfl, _, _, rfl, rfl, _, rfl, mo, xs, rfl, SqL.of (hid_same p l _ _ _ L2.hmo), fun c nc => ?_⟩
      rw [cut_mid (by omega)]
      have qc : DqA G2 ((xs.drop a).take s) (cs.map deedD) := by
        have := (L2.mv.drop a).take s
        rwa [← List.map_drop, ← List.map_take, hcs] at this
      have sc := same_new (o := .lst ((xs.drop a).take s)) nc
      have L3 := L2.up sc
      have qc3 := qc.up sc
      have hc3 := upd_same (H := G2) (a := c) (o := .lst ((xs.drop a).take s))
      generalize upd G2 c (.lst ((xs.drop a).take s)) = G3 at L3 qc3 hc3
      clear L2 sc qc nc
      generalize (xs.drop a).take s = ys at qc3 hc3
      have hyl : ys.length = cs.length := by rw [qc3.len, List.length_map]
      refine ⟨c, rfl, ⟨_, SqL.of hc3⟩, fun S nS => ?_⟩
      refine lc_it (walk_list (K := K) (a := c) (xs := ys)) (fun j G1 => ∃ zs : List V, G1 S = some (.lst zs) ∧ Same G3 G1 ∧ zs.length = j ∧ DqA G1 zs (((cs.take j).map Tm.doo).map tmD)) ⟨[], upd_same, same_new nS, rfl, .nil⟩ (fun j G1 _ ⟨_, _, sm, _⟩ => SqL.of (sm _ _ hc3)) ?_ ?_
      · rintro j x _ G4 hj ⟨zs, hS, sm, hzl, qz⟩ ⟨rfl, hx⟩
        obtain ⟨d0, hd0, qd⟩ := (qc3.up sm).get hx
        rw [List.getElem?_map] at hd0
        obtain ⟨m, hm, rfl⟩ := Option.map_eq_some_iff.mp hd0
        refine ⟨rfl, ?_⟩
        dsimp only [tYes]
        rw [if_pos rfl]
        refine ⟨x, rfl, by show 2 ≤ sizeLine; decide, fun t nt => ?_⟩
        have st := same_new (o := .tup [.str "do", x]) nt
        have hS2 := st _ _ hS
        have tS : TS (upd G4 t (.tup [.str "do", x])) (upd (upd G4 t (.tup [.str "do", x])) S (.lst (zs ++ [.ref t]))) := TS.lst hS2
        refine ⟨zs, hS2, szm (by omega), zs ++ [.ref t], upd_same, fun b o hb => ?_, by rw [List.length_append, hzl]; rfl, ?_⟩
        · rw [upd_ne (ne_of_none hb nS)]
          exact st _ _ (sm _ _ hb)
        · rw [List.take_add_one, hm]
          show DqA _ _ (((cs.take j ++ [m]).map Tm.doo).map tmD)
          rw [List.map_append, List.map_append]
          refine DqA.app (DqA.upT tS (tms_flatM _) (qz.up st)) (.one (Dq.upT tS (tm_flat (.doo m)) ?_))
          simp only [tmD]
          exact .tup upd_same (.cons (.str _) (.cons (qd.up st) .nil))
      · rintro G4 ⟨zs, hS, sm, hzl, qz⟩
        rw [hyl, List.take_length] at qz
        have L4 := L3.up sm
        obtain ⟨nSp, nSl⟩ := L3.D.new nS
        have K0 : BkS n p l S cs 0 w G4 := ⟨zs, cs.map Tm.doo, by rw [hid_ne nSp nSl]; exact hS, qz, blk_do hdc, fun _ => rfl⟩
        clear qz hS hzl sm L3 qc3 hc3 nSp nSl nS
        refine sq_asg ⟨.int (a : Int), rfl, .int (s : Int), rfl, _, _, rfl, rfl, ?_⟩
        have ea : ((a : Nat) : Int) + ((s : Nat) : Int) = ((a + s : Nat) : Int) := by omega
        dsimp only
        rw [ea]
        have raw : ∀ {k : Nat} {S : Addr} {G : Hp}, BkS n p l S cs k k G → ∃ vs : List V, hid p l G S = some (.lst vs) ∧ DqA G vs ((cs.map Tm.doo).map tmD) := fun h => by
          obtain ⟨vs, bs, h1, h2, h3, h4⟩ := h.ex
          rw [h4 (Nat.le_refl _)] at h2
          exact ⟨vs, h1, h2⟩
        -- 0
        refine sq_if ⟨.int (w : Int), rfl, rfl, _, rfl, ?_⟩
        refine ifS_join (R := fun σ G => ∃ (S : Addr) (v8 : Option V), σ = [some (.ref p), some (.int (n : Int)), some (.ref mo), some (.ref T), some (.int ((a + s : Nat) : Int)), some (.int (w : Int)), some (.int (s : Int)), some (.ref S), v8, none, none, none, none] ∧ LD n p l H mo xs ms T us ts G ∧ BkS n p l S cs 1 w G) ?_ (fun c D' kD => ?_) (fun _ D' kD => kD _ _ ⟨S, _, rfl, L4, K0.next⟩)
        rotate_left
        · obtain rfl : w = 0 := by have := V.int.inj (of_decide_eq_true c); omega
          obtain ⟨vs, hS, qv⟩ := raw K0
          refine one_asg ⟨.ref S, rfl, S, vs, rfl, .inl ⟨SqL.of (hid_same p l _ _ _ hS), fun t nt => ⟨by show 2 ≤ sizeLine; decide, fun t2 nt2 => ⟨by show 1 ≤ sizeLine; decide, fun b nb => ?_⟩⟩⟩⟩
          have x1 := same_new (o := .tup vs) nt
          have x2 := same_new (o := .tup [.str "row", .ref t]) nt2
          refine kD _ _ ⟨b, _, rfl, L4.up ((x1.trans x2).trans (same_new nb)), BkS.new (L4.D.up (x1.trans x2)) nb ?_ (blk_row hdc hcl hc1)⟩
          simp only [tmD]
          rw [tmDs_map]
          exact .tup upd_same (.cons (.str _) (.cons (.tup (x2 _ _ upd_same) (qv.up (x1.trans x2))) .nil))
        clear K0 L4 S
        rintro σ G5 ⟨S, v8, rfl, L4, K0⟩
        dsimp only [tNext]
        -- 1
        refine sq_if ⟨.int (w : Int), rfl, rfl, _, rfl, ?_⟩
        refine ifS_join (R := fun σ G => ∃ (S : Addr) (v8 : Option V), σ = [some (.ref p), some (.int (n : Int)), some (.ref mo), some (.ref T), some (.int ((a + s : Nat) : Int)), some (.int (w : Int)), some (.int (s : Int)), some (.ref S), v8, none, none, none, none] ∧ LD n p l H mo xs ms T us ts G ∧ BkS n p l S cs 2 w G) ?_ (fun c D' kD => ?_) (fun _ D' kD => kD _ _ ⟨S, _, rfl, L4, K0.next⟩)
        rotate_left
        · obtain rfl : w = 1 := by have := V.int.inj (of_decide_eq_true c); omega
          obtain ⟨vs, hS, qv⟩ := raw K0
          refine one_asg ⟨.ref S, rfl, S, vs, rfl, SqL.of (hid_same p l _ _ _ hS), fun z nz => ⟨z, _, rfl, .inl ⟨SqL.of upd_same, fun t nt => ⟨by show 2 ≤ sizeLine; decide, fun t2 nt2 => ⟨by show 2 ≤ sizeLine; decide, fun t3 nt3 => ⟨by show 1 ≤ sizeLine; decide, fun b nb => ?_⟩⟩⟩⟩⟩⟩
          have x0 := same_new (o := .lst vs.reverse) nz
          have x1 := same_new (o := .tup vs.reverse) nt
          have x2 := same_new (o := .tup [.str "row", .ref t]) nt2
          have x3 := same_new (o := .tup [.str "back", .ref t2]) nt3
          have x03 := x0.trans (x1.trans (x2.trans x3))
          refine kD _ _ ⟨b, _, rfl, L4.up (x03.trans (same_new nb)), BkS.new (L4.D.up x03) nb ?_ (blk_back hdc hcl hc1)⟩
          simp only [tmD]
          rw [tmDs_map]
          have qr := qv.rev
          rw [← List.map_reverse] at qr
          exact .tup upd_same (.cons (.str _) (.cons (.tup (x3 _ _ upd_same) (.cons (.str _) (.cons (.tup ((x2.trans x3) _ _ upd_same) (qr.up x03)) .nil))) .nil))
        clear K0 L4 S
        rintro σ G6 ⟨S, v8, rfl, L4, K0⟩
        dsimp only [tNext]
        -- 2
        refine sq_if ⟨.int (w : Int), rfl, rfl, _, rfl, ?_⟩
        refine ifS_join (R := fun σ G => ∃ (S : Addr) (v8 : Option V), σ = [some (.ref p), some (.int (n : Int)), some (.ref mo), some (.ref T), some (.int ((a + s : Nat) : Int)), some (.int (w : Int)), some (.int (s : Int)), some (.ref S), v8, none, none, none, none] ∧ LD n p l H mo xs ms T us ts G ∧ BkS n p l S cs 3 w G) ?_ (fun c D' kD => ?_) (fun _ D' kD => kD _ _ ⟨S, _, rfl, L4, K0.next⟩)
        rotate_left
        · obtain rfl : w = 2 := by have := V.int.inj (of_decide_eq_true c); omega
          obtain ⟨vs, hS, qv⟩ := raw K0
          refine one_asg ⟨.ref S, rfl, S, vs, rfl, .inl ⟨SqL.of (hid_same p l _ _ _ hS), fun t nt => ⟨by show 2 ≤ sizeLine; decide, fun t2 nt2 => ⟨by show 2 ≤ sizeLine; decide, fun t3 nt3 => ⟨by show 2 ≤ sizeLine; decide, fun t4 nt4 => ⟨by show 1 ≤ sizeLine; decide, fun b nb => ?_⟩⟩⟩⟩⟩⟩
          have x1 := same_new (o := .tup vs) nt
          have x2 := same_new (o := .tup [.str "row", .ref t]) nt2
          have x3 := same_new (o := .tup [.str "back", .ref t2]) nt3
          have x4 := same_new (o := .tup [.str "back", .ref t3]) nt4
          have x14 := x1.trans (x2.trans (x3.trans x4))
          refine kD _ _ ⟨b, _, rfl, L4.up (x14.trans (same_new nb)), BkS.new (L4.D.up x14) nb ?_ (blk_bb hdc hcl hc1)⟩
          simp only [tmD]
          rw [tmDs_map]
          exact .tup upd_same (.cons (.str _) (.cons (.tup (x4 _ _ upd_same) (.cons (.str _) (.cons (.tup ((x3.trans x4) _ _ upd_same) (.cons (.str _) (.cons (.tup ((x2.trans (x3.trans x4)) _ _ upd_same) (qv.up x14)) .nil))) .nil))) .nil))
        clear K0 L4 S
        rintro σ G7 ⟨S, v8, rfl, L4, K0⟩
        dsimp only [tNext]
        -- 3
        refine sq_if ⟨.int (w : Int), rfl, rfl, _, rfl, ?_⟩
        refine ifS_join (R := fun σ G => ∃ (S : Addr) (v8 : Option V), σ = [some (.ref p), some (.int (n : Int)), some (.ref mo), some (.ref T), some (.int ((a + s : Nat) : Int)), some (.int (w : Int)), some (.int (s : Int)), some (.ref S), v8, none, none, none, none] ∧ LD n p l H mo xs ms T us ts G ∧ BkS n p l S cs 4 w G) ?_ (fun c D' kD => ?_) (fun _ D' kD => kD _ _ ⟨S, _, rfl, L4, K0.next⟩)
        rotate_left
        · obtain rfl : w = 3 := by have := V.int.inj (of_decide_eq_true c); omega
          refine sq_asg (bq_at (F := frD p l) (H := G7) (R := fun d => ∃ m, d = tmD (.doo m) ∧ Deed n m) ?_ L4.D fun G8 v d D8 E8 qd fd hd => ?_)
          · walk_at "bq"
            refine (bq_deed rfl rfl n0 n1).mono fun d ⟨m, e, hm⟩ => ?_
            walk_at "bq"
            exact ⟨m, by rw [e]; simp only [tmD], hm⟩
          obtain ⟨m, rfl, hm⟩ := hd
          have D8 : Deck G8 p l := D8
          have E8 : Ext p l G7 G8 := E8
          have K8 := K0.deck L4.D E8
          have L8 := L4.deck D8 E8
          obtain ⟨vs, hS, qv⟩ := raw K8
          refine one_asg ⟨.ref S, rfl, ?_⟩
          refine bq_lst (F := frD p l) (H := G8) (S := fun ds => ∃ k : Nat, k ≤ 10 ^ 30 ∧ ds = [tmD (.doo m), tmD (.times (.row []) k), tmD (.doo m)]) (n := 3) ?_ D8 Ext.rfl (by decide) fun G9 b us9 ds D9 E9 q9 l9 f9 h9 nb => ?_
          · walk_at "bq"
            refine bq_var D8 rfl qd fd ?_
            walk_at "bq"
            refine bq_int (bn_opC (N := fun x => ∃ k : Nat, k ≤ 10 ^ 30 ∧ x = (k : Int)) (bn_c (bn_c ⟨⟨by decide, by decide, by decide⟩, 10 ^ 30, Nat.le_refl _, by decide +kernel⟩))) fun x ⟨k, hk, hx⟩ => ?_
            walk_at "bq"
            refine bq_var D8 rfl qd fd ?_
            walk_at "bq"
            refine ⟨k, hk, ?_⟩
            rw [hx]
            simp only [tmD, tmDs]
          have D9 : Deck G9 p l := D9
          have E9 : Ext p l G8 G9 := E9
          obtain ⟨k, hk, rfl⟩ := h9
          have L9 := L8.deck D9 E9
          have qv9 := DqA.upT (TS.deck D8 E9) (tms_flatM _) qv
          have xb := same_new (o := .lst us9) nb
          refine ⟨S, b, vs, us9, rfl, rfl, xb _ _ (hid_same p l _ _ _ (E9 _ _ hS)), upd_same, sz (by rw [qv.len, q9.len, l9, List.length_map, List.length_map]; omega), fun z nz => ?_⟩
          have xz := same_new (o := .lst (vs ++ us9)) nz
          have xx := xb.trans xz
          obtain ⟨nzp, nzl⟩ := (D9.up xb).new nz
          refine kD _ _ ⟨z, _, rfl, L9.up xx, ⟨vs ++ us9, _, hid_upd nzp nzl, ?_, blk_twice hdc hc1 hm hk, fun y => by omega⟩⟩
          rw [List.map_append]
          exact (qv9.up xx).app (q9.up xx)
        clear K0 L4 S
        rintro σ G8 ⟨S, v8, rfl, L4, K0⟩
        dsimp only [tNext]
        -- 4
        refine sq_if ⟨.int (w : Int), rfl, rfl, _, rfl, ?_⟩
        refine ifS_join (R := fun σ G => ∃ (S : Addr) (v8 : Option V), σ = [some (.ref p), some (.int (n : Int)), some (.ref mo), some (.ref T), some (.int ((a + s : Nat) : Int)), some (.int (w : Int)), some (.int (s : Int)), some (.ref S), v8, none, none, none, none] ∧ LD n p l H mo xs ms T us ts G ∧ BkS n p l S cs 5 w G) ?_ (fun c D' kD => ?_) (fun _ D' kD => kD _ _ ⟨S, _, rfl, L4, K0.next⟩)
        rotate_left
        · obtain rfl : w = 4 := by have := V.int.inj (of_decide_eq_true c); omega
          obtain ⟨vs, hS, qv⟩ := raw K0
          refine one_asg ⟨.ref S, rfl, ?_⟩
          refine bq_lst (F := frD p l) (H := G8) (S := fun ds => ∃ (m : Mv) (k : Nat), Deed n m ∧ k ≤ 2 ∧ ds = [tmD (.times (.doo m) (2 * k)), tmD (.row [])]) (n := 2) ?_ L4.D Ext.rfl (by decide) fun G9 b us9 ds D9 E9 q9 l9 f9 h9 nb => ?_
          · walk_at "bq"
            refine (bq_deed rfl rfl n0 n1).mono fun d ⟨m, e, hm⟩ => ?_
            walk_at "bq"
            refine bq_int (bn_opC (N := fun x => ∃ k : Nat, k ≤ 2 ∧ x = ((2 * k : Nat) : Int)) (bn_c (bn_draw rfl (bn_c ⟨by decide, by decide, fun r h0 h1 => ⟨.inl ⟨by decide, by decide⟩, r.toNat, by omega, by omega⟩⟩)))) fun x ⟨k, hk, hx⟩ => ?_
            walk_at "bq"
            refine ⟨m, k, hm, hk, ?_⟩
            rw [e, hx]
            simp only [tmD, tmDs]
          have D9 : Deck G9 p l := D9
          have E9 : Ext p l G8 G9 := E9
          obtain ⟨m, k, hm, hk, rfl⟩ := h9
          have L9 := L4.deck D9 E9
          have qv9 := DqA.upT (TS.deck L4.D E9) (tms_flatM _) qv
          have xb := same_new (o := .lst us9) nb
          refine ⟨S, b, vs, us9, rfl, rfl, xb _ _ (hid_same p l _ _ _ (E9 _ _ hS)), upd_same, sz (by rw [qv.len, q9.len, l9, List.length_map, List.length_map]; omega), fun z nz => ?_⟩
          have xz := same_new (o := .lst (vs ++ us9)) nz
          have xx := xb.trans xz
          obtain ⟨nzp, nzl⟩ := (D9.up xb).new nz
          refine kD _ _ ⟨z, _, rfl, L9.up xx, ⟨vs ++ us9, _, hid_upd nzp nzl, ?_, blk_even hdc hc1 hm hk, fun y => by omega⟩⟩
          rw [List.map_append]
          exact (qv9.up xx).app (q9.up xx)
        clear K0 L4 S
        rintro σ G9 ⟨S, v8, rfl, L4, K0⟩
        dsimp only [tNext]
        obtain ⟨vs, bs, hS, qv, Bb, _⟩ := K0.ex
        have hB := B.app Bb
        rw [← happ] at hB
        have hfew := hB.few
        have htl : (ms.take (a + s)).length ≤ 90 := by rw [List.length_take]; omega
        rw [List.length_append] at hfew
        refine one_asg ⟨.ref T, rfl, .ref S, rfl, T, S, us, vs, rfl, rfl, hid_same p l _ _ _ L4.hT, hid_same p l _ _ _ hS, sz (by rw [L4.qu.len, qv.len, List.length_map, List.length_map]; omega), fun z nz => ?_⟩
        have xz := same_new (o := .lst (us ++ vs)) nz
        obtain ⟨nzp, nzl⟩ := L4.D.new nz
        have L5 := L4.up xz
        refine ⟨a + s, z, us ++ vs, ts ++ bs, _, _, _, _, by omega, rfl, ⟨L5.D, L5.E, L5.hmo, L5.mv, hid_upd nzp nzl, ?_⟩, hB⟩
        rw [List.map_append]
        exact L5.qu.app (qv.up xz)
    · have c : ¬ ((a : Nat) : Int) < ((xs.length : Nat) : Int) := fun z => c (decide_eq_true z)
      rw [List.take_of_length_le (by omega)] at B
      dsimp only [tNext]
      have hfew := B.few
      have hul : us.length = ts.length := by rw [L.qu.len, List.length_map]
      refine sq_asg ⟨.ref p, rfl, p, l, 3, rfl, L.D, by decide, by decide, fun G1 r D1 E1 r0 r1 => ?_⟩
      obtain ⟨k, rfl⟩ : ∃ k : Nat, r = (k : Int) := ⟨r.toNat, by omega⟩
      have hk2 : k ≤ 2 := by omega
      have L1 := L.deck D1 E1
      clear L D1 E1 r0 r1
      refine ⟨(k : Int), rfl, by omega, by omega, fun D nD => ?_⟩
      rw [Int.toNat_natCast]
      refine bq_lcR nD (p := p) (l := l) (σ := [some (.ref p), some (.int (n : Int)), some (.ref mo), some (.ref T), some (.int (a : Int)), v5, v6, v7, v8, none, none, none, none]) (vs := [10]) (g := 10) (m := k) (R := fun d => ∃ md, d = tmD (.doo md) ∧ Deed n md) (by omega) L1.D (fun _ => rfl) (fun k hk => ?_) fun G4 us4 ds4 D4 E4 nDp nDl hD qu4 hl4 fu4 hds4 => ?_
      · walk_at "bq"
        refine (bq_deed rfl rfl n0 n1).mono fun d ⟨md, e, hd⟩ => ?_
        walk_at "bq"
        exact ⟨md, by rw [e]; simp only [tmD], hd⟩
      have L4 := L1.deck D4 E4
      clear L1 nD
      have get : ∀ ds : List PyData, (∀ d ∈ ds, ∃ md, d = tmD (.doo md) ∧ Deed n md) → ∃ ps : List Mv, ds = (ps.map Tm.doo).map tmD ∧ ps.length = ds.length ∧ ∀ m ∈ ps, Deed n m := by
        intro ds
        induction ds with
        | nil => intro _; exact ⟨[], rfl, rfl, fun _ h => nomatch h⟩
        | cons d ds ih =>
          intro h
          obtain ⟨md, rfl, hd⟩ := h d List.mem_cons_self
          obtain ⟨ps, rfl, h2, h3⟩ := ih fun x hx => h x (List.mem_cons_of_mem _ hx)
          exact ⟨md :: ps, rfl, by simp, fun m hm => (List.mem_cons.mp hm).elim (fun e => e ▸ hd) (h3 m)⟩
      obtain ⟨ps, rfl, hpl, hpd⟩ := get ds4 hds4
      refine ⟨D, us4, rfl, .inl ⟨SqL.of hD, fun t nt => ?_⟩⟩
      have st := same_new (o := .tup us4) nt
      have L5 := L4.up st
      have qp := qu4.up st
      have ht := upd_same (H := G4) (a := t) (o := .tup us4)
      generalize upd G4 t (.tup us4) = G5 at L5 qp ht
      clear L4 qu4 st nt hD D4 E4 fu4 hds4
      have hpu : us4.length = ps.length := by rw [qp.len, List.length_map, List.length_map]
      refine sq_asg ⟨.ref p, rfl, .ref T, rfl, T, us, rfl, .inl (SqL.of (hid_same p l _ _ _ L5.hT)), _, _, rfl, rfl, p, l, _, rfl, L5.D, by omega, by omega, fun G6 r D6 E6 r0 r1 => ?_⟩
      obtain ⟨cut, rfl⟩ : ∃ k : Nat, r = (k : Int) := ⟨r.toNat, by omega⟩
      have L6 := L5.deck D6 E6
      have ht6 := TS.deck L5.D E6 _ _ ht
      have qp6 := DqA.upT (TS.deck L5.D E6) (tms_flatM _) qp
      clear L5 D6 E6 ht qp r0
      refine sq_asg ⟨.ref t, rfl, t, us4, rfl, .inr (SqT.of ht6), ?_⟩
      have hTT : ∀ {G : Hp}, Same G6 G → G T = some (.lst us) := fun s => s _ _ (hid_same p l _ _ _ L6.hT)
      refine sq_asg ⟨.ref t, rfl, .ref T, rfl, .int (cut : Int), rfl, (cut : Int), rfl, T, us, rfl, SqL.of (hTT (Same.refl _)), fun a1 na1 => ⟨a1, _, rfl, .inl ⟨SqL.of upd_same, fun b1 nb1 => ⟨by show 2 ≤ sizeLine; decide, fun d1 nd1 => ?_⟩⟩⟩⟩
      rw [cut_to (by omega)]
      have x1 := same_new (o := .lst (us.take cut)) na1
      rw [cut_to (by omega)] at nb1 nd1
      have x2 := same_new (o := .tup (us.take cut)) nb1
      have x3 := same_new (o := .tup [.str "row", .ref b1]) nd1
      have x13 := x1.trans (x2.trans x3)
      have q1 : Dq (upd (upd (upd G6 a1 (.lst (us.take cut))) b1 (.tup (us.take cut))) d1 (.tup [.str "row", .ref b1])) (.ref d1) (tmD (.row (ts.take cut))) := by
        simp only [tmD]
        rw [tmDs_map, List.map_take]
        exact .tup upd_same (.cons (.str _) (.cons (.tup (x3 _ _ upd_same) ((L6.qu.take cut).up x13)) .nil))
      generalize upd (upd (upd G6 a1 (.lst (us.take cut))) b1 (.tup (us.take cut))) d1 (.tup [.str "row", .ref b1]) = G7 at x13 q1
      clear x1 x2 x3 na1 nb1 nd1
      refine ⟨.ref T, rfl, .int (cut : Int), rfl, (cut : Int), rfl, T, us, rfl, SqL.of (hTT x13), fun a2 na2 => ⟨a2, _, rfl, .inl ⟨SqL.of upd_same, fun b2 nb2 => ⟨by show 2 ≤ sizeLine; decide, fun d2 nd2 => ⟨by show 2 ≤ sizeLine; decide, fun e ne => ?_⟩⟩⟩⟩⟩
      rw [cut_from (by omega)] at nb2 nd2 ne ⊢
      have y1 := same_new (o := .lst (us.drop cut)) na2
      have y2 := same_new (o := .tup (us.drop cut)) nb2
      have y3 := same_new (o := .tup [.str "row", .ref b2]) nd2
      have y4 := same_new (o := .tup [.ref d1, .ref d2]) ne
      have y14 := y1.trans (y2.trans (y3.trans y4))
      have q2 : DqA (upd (upd (upd (upd G7 a2 (.lst (us.drop cut))) b2 (.tup (us.drop cut))) d2 (.tup [.str "row", .ref b2])) e (.tup [.ref d1, .ref d2])) [.ref d1, .ref d2] [tmD (.row (ts.take cut)), tmD (.row (ts.drop cut))] := by
        refine .cons (q1.up y14) (.cons ?_ .nil)
        simp only [tmD]
        rw [tmDs_map, List.map_drop]
        exact .tup (y4 _ _ upd_same) (.cons (.str _) (.cons (.tup ((y3.trans y4) _ _ upd_same) ((L6.qu.drop cut).up (x13.trans y14))) .nil))
      have he := upd_same (H := upd (upd (upd G7 a2 (.lst (us.drop cut))) b2 (.tup (us.drop cut))) d2 (.tup [.str "row", .ref b2])) (a := e) (o := .tup [.ref d1, .ref d2])
      have z14 := x13.trans y14
      generalize upd (upd (upd (upd G7 a2 (.lst (us.drop cut))) b2 (.tup (us.drop cut))) d2 (.tup [.str "row", .ref b2])) e (.tup [.ref d1, .ref d2]) = G8 at q2 he z14
      clear y1 y2 y3 y4 y14 na2 nb2 nd2 ne x13 q1
      refine catA_k (z14 _ _ ht6) he (by rw [hpu]; show _ + 2 ≤ _; omega) fun pv G9 s9 hpv => ?_
      have L9 := L6.up (z14.trans s9)
      have qp9 := (qp6.up (z14.trans s9)).app (q2.up s9)
      clear q2 he z14 qp6 ht6 s9
      refine one_ret ⟨.ref pv, rfl, ?_⟩
      refine bq_at (F := frD p l) (H := G9) (R := fun d => d = .tuple [tmD (.row [.part ps.length, .part (ps.length + 1)])]) ?_ L9.D fun GA x d DA EA qx fx hx => ?_
      · walk_at "bq"
        refine bq_ivar rfl ?_
        walk_at "bq"
        refine bq_int (bn_op (N := fun x => x = ((ps.length + 1 : Nat) : Int)) (bn_var rfl (bn_c (by rw [hpu]; omega)))) fun x hx => ?_
        walk_at "bq"
        rw [hx, hpu]
        simp only [tmD, tmDs]
      subst hx
      have DA : Deck GA p l := DA
      have EA : Ext p l G9 GA := EA
      obtain ⟨xa, zs, rfl, hxa, qz⟩ := qx.tup_inv
      have fl : flatTA ((ps.map Tm.doo).map tmD ++ [tmD (.row (ts.take cut)), tmD (.row (ts.drop cut))]) = true := by
        have := tms_flatM (ps.map Tm.doo ++ [.row (ts.take cut), .row (ts.drop cut)])
        rwa [List.map_append] at this
      have qpA := DqA.upT (TS.deck L9.D EA) fl qp9
      have hpvA := TS.deck L9.D EA _ _ hpv
      refine catA_k hpvA hxa (by rw [List.length_append, hpu, qz.len]; simp; omega) fun rv GB sB hrv => ?_
      obtain ⟨f1, f2, f3, f4⟩ := dress_fin (cut := cut) hpd (by omega) B hlen
      have LB := (L9.deck DA EA).up sB
      refine q GB _ (dressP ps ts cut) LB.D LB.E (.tup hrv ?_) f1 f2 f3 f4
      have qq := (qpA.up sB).app (qz.up sB)
      unfold dressP
      rw [List.map_append]
      simpa using qq
end
end Kr
namespace Kr
open PySem PySem.Spec PyProof.Rows L2
theorem cut_fromA {xs : List V} {i : Nat} : cutV xs (some (i : Int)) none = xs.drop i := by
  by_cases h : i ≤ xs.length
  · exact cut_from h
  · unfold cutV
    rw [HT.sIx_none, HT.sIx_nat, Nat.min_eq_right (by omega), List.drop_length, List.drop_eq_nil_of_le (by omega)]
    exact List.take_nil
local macro_rules | `(tactic| walk_at "bq") => `(tactic| repeat' (first | with_reducible refine bqa_nil ?_ | with_reducible refine bqa_cons ?_ | with_reducible refine bq_tup0 ?_ | with_reducible refine bq_tup1 ?_ | with_reducible refine bq_tup2 ?_ | with_reducible refine bq_tup3 ?_ | with_reducible refine bq_str ?_ | with_reducible refine bq_c ?_ | with_reducible refine bn_c ?_ | with_reducible refine bn_op ?_))
section
variable {P : Program} {w : World} {K : PySem.W.Frag} {mg : Str → Option Value} {base : Heap}
def spSpoilt : Sp := fun vs H Q _ => ∃ (p l : Addr) (n : Nat) (mo : Addr) (xs : List V) (ms : List Mv), vs = [.ref p, .int (n : Int), .ref mo] ∧ Deck H p l ∧ 3 ≤ n ∧ n ≤ 6 ∧ hid p l H mo = some (.lst xs) ∧ DqA H xs (ms.map deedD) ∧ (∀ m ∈ ms, Deed n m) ∧ ms.length ≤ 1000 ∧ ∀ (H' : Hp) (r : Addr) (ys : List V) (ms' : List Mv), Deck H' p l → Ext p l H H' → hid p l H' r = some (.lst ys) → DqA H' ys (ms'.map deedD) → (∀ m ∈ ms', Deed n m) → ms'.length ≤ ms.length + 1 → Q (.ref r) H'
abbrev n_lSpoilt : List Str := ["box", "n", "moves", "spot", "way"]
theorem sc_lSpoilt : FnScope n_lSpoilt ["box", "n", "moves"] (defScope sLSpoilt) := ⟨rfl, rfl, rfl, by decide +kernel, rfl, by decide +kernel, by decide +kernel⟩
theorem o_lSpoilt (D0 : Df K mg "_law_spoilt" sLSpoilt ["box", "n", "moves"]) (B : Bi mg) (dr : Ok P w K mg base 1 "_law_draw" ["box", "many"] spDraw) (dd : Ok P w K mg base 3 "_law_deed" ["box", "n"] spDeed) : Ok P w K mg base 4 "_law_spoilt" ["box", "n", "moves"] spSpoilt := by
  refine D0.ok fun f fd F => F.ok sc_lSpoilt (fun vs H Q E h => ?_) (fun cdv A outer s H vs Q E hr h => ?_)
  · obtain ⟨_, _, _, _, _, _, rfl, _⟩ := h
    rfl
  · obtain ⟨p, l, n, mo, xs, ms, rfl, Dk, n0, n1, hmo, hxs, hde, hlen, q⟩ := h
    have hr_dr := hr.mono (show 1 ≤ 3 by omega)
    have hr_dd := hr.mono (show 3 ≤ 3 by omega)
    have hu : (cxOf CX0 P w K mg base n_lSpoilt "_law_spoilt" (defScope sLSpoilt) f cdv A outer s H E).A.units + 64 < cLine := hr.units
    have hu1 := hu_of hr
    refine ⟨_, pss_cons (ps_par (i := 3) (j := 4) rfl sc_lSpoilt.nd rfl rfl (by decide) rfl rfl (pa_cons (pe_fn dr hr_dr (by rfl) (pa_cons (pv 0) (pa_cons (pe_op op_add (pe_callB call_len_seq (by rfl) B.len boot_len (pa_cons (pv 2) pa_nil)) pe_int) pa_nil))) (pa_cons (pe_fn dr hr_dr (by rfl) (pa_cons (pv 0) (pa_cons pe_int pa_nil))) pa_nil)) (by rfl))
      (pss_cons (ps_if (pt_cmpR op_eq (pv 4) pe_int (nomark _)) (pss_one (ps_ret (pe_op op_cat (pe_slice sl_list (pv 2) po_none (po_some (pv 3))) (pe_slice sl_list (pv 2) (po_some (pe_op op_add (pv 3) pe_int)) po_none)))) pss_nil)
      (pss_one (ps_ret (pe_op op_cat (pe_op op_cat (pe_slice sl_list (pv 2) po_none (po_some (pv 3))) (pe_lst (pa_cons (pe_fn dd hr_dd (by rfl) (pa_cons (pv 0) (pa_cons (pv 1) pa_nil))) pa_nil))) (pe_slice sl_list (pv 2) (po_some (pe_op op_add (pv 3) (pe_ifExp (pt_cmpR op_eq (pv 4) pe_int (nomark _)) pe_int pe_int))) po_none))))), ?_⟩
    have hxl : xs.length = ms.length := by rw [hxs.len, List.length_map]
    refine ⟨.ref p, rfl, .ref mo, rfl, mo, xs, rfl, .inl (SqL.of (hid_same p l _ _ _ hmo)), _, _, rfl, rfl, p, l, _, rfl, Dk, by omega, by omega, fun G1 r D1 E1 r0 r1 => ⟨.ref p, rfl, p, l, 3, rfl, D1, by decide, by decide, fun G2 wy D2 E2 w0 w1 => ⟨_, _, rfl, ?_⟩⟩⟩
    obtain ⟨i, rfl⟩ : ∃ k : Nat, r = (k : Int) := ⟨r.toNat, by omega⟩
    have hi : i ≤ xs.length := by omega
    have E12 : Ext p l H G2 := Same.trans E1 E2
    have hmo2 := E12 _ _ hmo
    have hxs2 := DqA.upT (TS.deck Dk E12) (deeds_flat' _) hxs
    clear hmo hxs E1 E2 D1 r0 r1
    have ei : ((i : Nat) : Int) + 1 = ((i + 1 : Nat) : Int) := by omega
    dsimp only
    refine sq_if ⟨.int wy, rfl, rfl, _, rfl, ite2 (fun c => ?_) (fun c => ?_)⟩
    · refine one_ret ⟨.ref mo, rfl, .int (i : Int), rfl, (i : Int), rfl, mo, xs, rfl, SqL.of (hid_same p l _ _ _ hmo2), fun a na => ⟨.ref mo, rfl, .int (i : Int), rfl, _, _, rfl, rfl, _, rfl, mo, xs, rfl, SqL.of (same_new na _ _ (hid_same p l _ _ _ hmo2)), fun b nb => ?_⟩⟩
      dsimp only at nb ⊢
      rw [cut_to hi] at nb ⊢
      rw [ei, cut_fromA]
      have x1 := same_new (o := .lst (xs.take i)) na
      have x2 := same_new (o := .lst (xs.drop (i + 1))) nb
      have h1 := x2 _ _ (upd_same (H := G2) (a := a) (o := .lst (xs.take i)))
      refine ⟨a, b, _, _, rfl, rfl, h1, upd_same, sz (by rw [List.length_take, List.length_drop]; omega), fun z nz => ?_⟩
      have x3 := same_new (o := .lst (xs.take i ++ xs.drop (i + 1))) nz
      have s13 := x1.trans (x2.trans x3)
      obtain ⟨nzp, nzl⟩ := (D2.up (x1.trans x2)).new nz
      refine q _ z _ (ms.take i ++ ms.drop (i + 1)) (D2.up s13) (Same.trans E12 (Ext.of s13)) (hid_upd nzp nzl) ?_ (fun m hm => ?_) (by rw [List.length_append, List.length_take, List.length_drop]; omega)
      · rw [List.map_append, List.map_take, List.map_drop]
        exact ((hxs2.take i).app (hxs2.drop (i + 1))).up s13
      · exact (List.mem_append.mp hm).elim (fun h => hde m (List.take_subset _ _ h)) fun h => hde m (List.drop_subset _ _ h)
    · dsimp only [tNext]
      refine one_ret ⟨.ref mo, rfl, .int (i : Int), rfl, (i : Int), rfl, mo, xs, rfl, SqL.of (hid_same p l _ _ _ hmo2), fun a na => ?_⟩
      rw [cut_to hi]
      have x1 := same_new (o := .lst (xs.take i)) na
      have ha := upd_same (H := G2) (a := a) (o := .lst (xs.take i))
      obtain ⟨nap, nal⟩ := D2.new na
      have DA := D2.up x1
      have EA : Ext p l H _ := Same.trans E12 (Ext.of x1)
      have hmoA := Ext.of (p := p) (l := l) x1 _ _ hmo2
      have hxsA := hxs2.up x1
      generalize upd G2 a (.lst (xs.take i)) = GA at ha DA EA hmoA hxsA
      clear x1 na hmo2 hxs2 D2 E12
      refine bq_lst (F := frD p l) (H := GA) (S := fun ds => ∃ m, ds = [deedD m] ∧ Deed n m) (n := 1) ?_ DA Ext.rfl (by decide) fun G3 b us3 ds D3 E3 q3 l3 f3 h3 nb => ?_
      · walk_at "bq"
        refine (bq_deed rfl rfl n0 n1).mono fun d ⟨m, e, hm⟩ => ?_
        walk_at "bq"
        exact ⟨m, by rw [e], hm⟩
      obtain ⟨m, rfl, hm⟩ := h3
      have D3 : Deck G3 p l := D3
      have E3 : Ext p l GA G3 := E3
      have x2 := same_new (o := .lst us3) nb
      have hl3 : us3.length = 1 := by rw [q3.len]; rfl
      refine ⟨a, b, _, us3, rfl, rfl, x2 _ _ (E3.at_ nap nal ha), upd_same, sz (by rw [List.length_take, hl3]; omega), fun z nz => ?_⟩
      have x3 := same_new (o := .lst (xs.take i ++ us3)) nz
      have hz := upd_same (H := upd G3 b (.lst us3)) (a := z) (o := .lst (xs.take i ++ us3))
      have hxs3 := DqA.upT (TS.deck DA E3) (deeds_flat' _) hxsA
      have qz : DqA (upd (upd G3 b (.lst us3)) z (.lst (xs.take i ++ us3))) (xs.take i ++ us3) ((ms.take i).map deedD ++ [deedD m]) := by
        rw [List.map_take]
        exact ((hxs3.take i).app q3).up (x2.trans x3)
      have Dz := D3.up (x2.trans x3)
      have Ez : Ext p l H (upd (upd G3 b (.lst us3)) z (.lst (xs.take i ++ us3))) := Same.trans EA (Same.trans E3 (Ext.of (x2.trans x3)))
      have hmoz := Ext.of (p := p) (l := l) (x2.trans x3) _ _ (E3 _ _ hmoA)
      have hxsz := hxs3.up (x2.trans x3)
      generalize upd (upd G3 b (.lst us3)) z (.lst (xs.take i ++ us3)) = GZ at hz qz Dz Ez hmoz hxsz
      clear hxs3 x3 nz x2 nb q3 E3 D3 hmoA hxsA
      refine ⟨.ref mo, rfl, .int (i : Int), rfl, .int wy, rfl, rfl, _, rfl, ifE_join (R := fun v G => G = GZ ∧ ∃ e : Nat, e ≤ 1 ∧ v = .int (e : Int)) ?_ (fun _ Q' k => k _ _ ⟨rfl, 1, by omega, rfl⟩) (fun _ Q' k => k _ _ ⟨rfl, 0, by omega, rfl⟩)⟩
      rintro v G ⟨rfl, e, he, rfl⟩
      refine ⟨_, _, rfl, rfl, _, rfl, mo, xs, rfl, SqL.of (hid_same p l _ _ _ hmoz), fun c nc => ?_⟩
      have ee : ((i : Nat) : Int) + ((e : Nat) : Int) = ((i + e : Nat) : Int) := by omega
      dsimp only
      rw [ee, cut_fromA]
      have x4 := same_new (o := .lst (xs.drop (i + e))) nc
      refine ⟨z, c, _, _, rfl, rfl, x4 _ _ hz, upd_same, sz (by rw [List.length_append, List.length_take, List.length_drop, hl3]; omega), fun y ny => ?_⟩
      have x5 := same_new (o := .lst (xs.take i ++ us3 ++ xs.drop (i + e))) ny
      obtain ⟨nyp, nyl⟩ := (Dz.up x4).new ny
      have s45 := x4.trans x5
      refine q _ y _ (ms.take i ++ [m] ++ ms.drop (i + e)) (Dz.up s45) (Same.trans Ez (Ext.of s45)) (hid_upd nyp nyl) ?_ (fun x hx => ?_) (by rw [List.length_append, List.length_append, List.length_take, List.length_drop]; show _ + 1 + _ ≤ _; omega)
      · rw [List.map_append, List.map_append, List.map_drop]
        exact (qz.app (hxsz.drop (i + e))).up s45
      · rcases List.mem_append.mp hx with h | h
        · rcases List.mem_append.mp h with h | h
          · exact hde x (List.take_subset _ _ h)
          · rw [List.mem_singleton.mp h]; exact hm
        · exact hde x (List.drop_subset _ _ h)
end
end Kr
namespace Kr
open PySem PySem.Spec PyProof.Rows L2
theorem cut_midA {xs : List V} {i s : Nat} : cutV xs (some (i : Int)) (some ((i : Int) + (s : Int))) = (xs.drop i).take s := by
  by_cases h : i ≤ xs.length
  · exact cut_mid h
  · unfold cutV
    rw [HT.sIx_nat, show ((i : Int) + (s : Int)) = ((i + s : Nat) : Int) by omega, HT.sIx_nat, Nat.min_eq_right (by omega), Nat.min_eq_right (by omega), List.drop_length, List.drop_eq_nil_of_le (by omega), List.take_nil, List.take_nil]
structure LS (n : Nat) (p l : Addr) (H : Hp) (ms : List Mv) (F : Addr) (ys : List V) (ks : List Mv) (G : Hp) : Prop where
  D : Deck G p l
  E : Ext p l H G
  hF : hid p l G F = some (.lst ys)
  qy : DqA G ys (ks.map deedD)
  de : ∀ m ∈ ks, Deed n m
  len : ks.length = ms.length
  sim : Sim n ks ms
section
variable {n : Nat} {p l : Addr} {H G G' : Hp} {F : Addr} {ys : List V} {ms ks : List Mv}
theorem LS.deck (h : LS n p l H ms F ys ks G) (D : Deck G' p l) (E : Ext p l G G') : LS n p l H ms F ys ks G' := ⟨D, Same.trans h.E E, E _ _ h.hF, DqA.upT (TS.deck h.D E) (deeds_flat' _) h.qy, h.de, h.len, h.sim⟩
theorem LS.up (h : LS n p l H ms F ys ks G) (s : Same G G') : LS n p l H ms F ys ks G' := h.deck (h.D.up s) (Ext.of s)
theorem LS.yl (h : LS n p l H ms F ys ks G) : ys.length = ms.length := by rw [h.qy.len, List.length_map, h.len]
end
theorem swap_split {ks : List Mv} {s : Nat} {m k : Mv} (h1 : ks[s]? = some m) (h2 : ks[s + 1]? = some k) : ks = ks.take s ++ ([m, k] ++ ks.drop (s + 2)) := by
  have e1 : ks = ks.take s ++ ks.drop s := (List.take_append_drop s ks).symm
  have l1 := (List.getElem?_eq_some_iff.mp h1).1
  have l2 := (List.getElem?_eq_some_iff.mp h2).1
  have d1 : ks.drop s = ks[s] :: ks.drop (s + 1) := List.drop_eq_getElem_cons l1
  have d2 : ks.drop (s + 1) = ks[s + 1] :: ks.drop (s + 2) := List.drop_eq_getElem_cons l2
  have g1 : ks[s] = m := by rw [List.getElem?_eq_getElem l1] at h1; exact Option.some.inj h1
  have g2 : ks[s + 1] = k := by rw [List.getElem?_eq_getElem l2] at h2; exact Option.some.inj h2
  have e : ks.drop s = m :: k :: ks.drop (s + 2) := by rw [d1, d2, g1, g2]
  rw [e] at e1
  exact e1
section
variable {P : Program} {w : World} {K : PySem.W.Frag} {mg : Str → Option Value} {base : Heap}
def spStirred : Sp := fun vs H Q _ => ∃ (p l : Addr) (n : Nat) (mo : Addr) (xs : List V) (ms : List Mv), vs = [.ref p, .ref mo] ∧ Deck H p l ∧ hid p l H mo = some (.lst xs) ∧ DqA H xs (ms.map deedD) ∧ (∀ m ∈ ms, Deed n m) ∧ n ≤ 6 ∧ ms.length ≤ 1000 ∧ ∀ (H' : Hp) (r : Addr) (ys : List V) (ms' : List Mv), Deck H' p l → Ext p l H H' → hid p l H' r = some (.lst ys) → DqA H' ys (ms'.map deedD) → (∀ m ∈ ms', Deed n m) → ms'.length = ms.length → Sim n ms' ms → Q (.ref r) H'
abbrev n_lStirred : List Str := ["box", "moves", "found", "turn", "spot", "one", "other", "x"]
theorem sc_lStirred : FnScope n_lStirred ["box", "moves"] (defScope sLStirred) := ⟨rfl, rfl, rfl, by decide +kernel, rfl, by decide +kernel, by decide +kernel⟩
theorem o_lStirred (D0 : Df K mg "_law_stirred" sLStirred ["box", "moves"]) (B : Bi mg) (dr : Ok P w K mg base 1 "_law_draw" ["box", "many"] spDraw) : Ok P w K mg base 2 "_law_stirred" ["box", "moves"] spStirred := by
  refine D0.ok fun f fd F => F.ok sc_lStirred (fun vs H Q E h => ?_) (fun cdv A outer s H vs Q E hr h => ?_)
  · obtain ⟨_, _, _, _, _, _, rfl, _⟩ := h
    rfl
  · obtain ⟨p, l, n, mo, xs, ms, rfl, Dk, hmo, hxs, hde, n1, hlen, q⟩ := h
    have hr_dr := hr.mono (show 1 ≤ 1 by omega)
    have hu : (cxOf CX0 P w K mg base n_lStirred "_law_stirred" (defScope sLStirred) f cdv A outer s H E).A.units + 64 < cLine := hr.units
    have hu1 := hu_of hr
    refine ⟨_, pss_cons (ps_set (i := 2) sc_lStirred.nd rfl (.inl rfl) (pe_callTy call_list_of (by rfl) B.list (by decide +kernel) (pa_cons (pv 1) pa_nil)))
      (pss_cons (ps_for PassesOwn.never rfl (pi_range1 (by rfl) B.range (pa_cons (pe_op op_mul pe_int (pe_callB call_len_seq (by rfl) B.len boot_len (pa_cons (pv 2) pa_nil))) pa_nil)) (pg_name (i := 3) sc_lStirred.nd rfl (.inl rfl))
        (pss_cons (ps_set (i := 4) sc_lStirred.nd rfl (.inl rfl) (pe_ifExp (pt_cmpR op_gt (pe_callB call_len_seq (by rfl) B.len boot_len (pa_cons (pv 2) pa_nil)) pe_int (nomark _)) (pe_fn dr hr_dr (by rfl) (pa_cons (pv 0) (pa_cons (pe_op op_sub (pe_callB call_len_seq (by rfl) B.len boot_len (pa_cons (pv 2) pa_nil)) pe_int) pa_nil))) pe_int))
        (pss_one (ps_for PassesOwn.never rfl (pi_zip (by rfl) B.zip (pa_cons (pe_slice sl_list (pv 2) (po_some (pv 4)) (po_some (pe_op op_add (pv 4) pe_int))) (pa_cons (pe_slice sl_list (pv 2) (po_some (pe_op op_add (pv 4) pe_int)) (po_some (pe_op op_add (pv 4) pe_int))) pa_nil))) (pg_tup rfl (pgs_cons (pg_name (i := 5) sc_lStirred.nd rfl (.inr rfl)) (pgs_cons (pg_name (i := 6) sc_lStirred.nd rfl (.inr rfl)) pgs_nil)))
          (pss_one (ps_if (pt_cmpR (op_eqN hu) (pe_op op_cat (pe_lc (own := [("x", 7)]) (g := gName 7) rfl sc_lStirred.nd (pi_tup (pe_slice sl_tupA (pv 5) (po_some pe_int) po_none)) (blkOk_by (own := [("x", 7)]) (N := n_lStirred) (sc := defScope sLStirred) (by decide +kernel)) (fun _ _ _ _ _ => pg_name (i := 7) sc_lStirred.nd rfl (.inl rfl)) (fun _ _ _ _ _ => pts_one (pt_cmpR (r := rIn K false) op_in_seq (pv 7) (pe_op (r := rCatA K) op_catA (pe_ix (r := rIxT K) ix_tup (pv 6) pe_int (fun _ _ => rfl)) (pe_slice (r := rSlA K) sl_tupA (pv 6) (po_some pe_int) po_none)) rfl)) (fun _ _ _ _ _ => pe_int)) (pe_lc (own := [("x", 7)]) (g := gName 7) rfl sc_lStirred.nd (pi_tup (pe_slice sl_tupA (pv 6) (po_some pe_int) po_none)) (blkOk_by (own := [("x", 7)]) (N := n_lStirred) (sc := defScope sLStirred) (by decide +kernel)) (fun _ _ _ _ _ => pg_name (i := 7) sc_lStirred.nd rfl (.inl rfl)) (fun _ _ _ _ _ => pts_one (pt_cmpR (r := rIn K false) op_in_seq (pv 7) (pe_ix (r := rIxT K) ix_tup (pv 5) pe_int (fun _ _ => rfl)) rfl)) (fun _ _ _ _ _ => pe_int))) (pe_lst pa_nil) (nomark _)) (pss_one (ps_set (i := 2) sc_lStirred.nd rfl (.inl rfl) (pe_op op_cat (pe_op op_cat (pe_slice sl_list (pv 2) po_none (po_some (pv 4))) (pe_lst (pa_cons (pv 6) (pa_cons (pv 5) pa_nil)))) (pe_slice sl_list (pv 2) (po_some (pe_op op_add (pv 4) pe_int)) po_none)))) pss_nil))))))
      (pss_one (ps_ret (pv 2)))), ?_⟩
    have hxl : xs.length = ms.length := by rw [hxs.len, List.length_map]
    refine sq_asg ⟨.ref mo, rfl, mo, xs, rfl, .inl (SqL.of (hid_same p l _ _ _ hmo)), fun F nF => ?_⟩
    obtain ⟨nFp, nFl⟩ := Dk.new nF
    have s0 := same_new (o := .lst xs) nF
    have L0 : LS n p l H ms F xs ms (upd H F (.lst xs)) := ⟨Dk.up s0, Ext.of s0, hid_upd nFp nFl, hxs.up s0, hde, rfl, Sim.refl⟩
    generalize upd H F (.lst xs) = H0 at L0
    clear s0 nF nFp nFl
    refine ⟨.ref F, rfl, F, xs, rfl, .inl (SqL.of (hid_same p l _ _ _ L0.hF)), _, _, rfl, rfl, .inl ⟨by decide, by decide⟩, _, rfl, by omega, by omega, for_it walk_rg (fun i σ G => ∃ (F : Addr) (ys : List V) (ks : List Mv) (v3 v4 v5 v6 : Option V), σ = [some (.ref p), some (.ref mo), some (.ref F), v3, v4, v5, v6, none] ∧ LS n p l H ms F ys ks G) ⟨F, xs, ms, _, _, _, _, rfl, L0⟩ (fun _ _ _ _ _ => trivial) ?_ ?_⟩
    rotate_left
    · rintro σ G ⟨F, ys, ks, v3, v4, v5, v6, rfl, L⟩
      exact ⟨.ref F, rfl, q G F ys ks L.D L.E L.hF L.qy L.de L.len L.sim⟩
    clear L0 F
    rintro i x σ _ G hi ⟨F, ys, ks, v3, v4, v5, v6, rfl, L⟩ ⟨rfl, rfl⟩
    have hyl := L.yl
    refine sq_asg ⟨.ref F, rfl, F, ys, rfl, .inl (SqL.of (hid_same p l _ _ _ L.hF)), _, _, rfl, rfl, _, rfl, ifE_join (R := fun v G' => ∃ s : Nat, v = .int (s : Int) ∧ s ≤ ys.length ∧ LS n p l H ms F ys ks G') ?_ (fun c Q' k => ?_) (fun _ Q' k => k _ _ ⟨0, rfl, Nat.zero_le _, L⟩)⟩
    rotate_left
    · have c : (1 : Int) < ((ys.length : Nat) : Int) := of_decide_eq_true c
      exact ⟨.ref p, rfl, .ref F, rfl, F, ys, rfl, .inl (SqL.of (hid_same p l _ _ _ L.hF)), _, _, rfl, rfl, p, l, _, rfl, L.D, by omega, by omega, fun G' r D' E' r0 r1 => k _ _ ⟨r.toNat, by rw [Int.toNat_of_nonneg r0], by omega, L.deck D' E'⟩⟩
    rintro v G0 ⟨s, rfl, hsl, L0⟩
    clear L
    refine ⟨.ref F, rfl, .int (s : Int), rfl, (s : Int), rfl, .int (s : Int), rfl, _, _, rfl, rfl, _, rfl, F, ys, rfl, SqL.of (hid_same p l _ _ _ L0.hF), fun a na => ?_⟩
    have e1 : cutV ys (some (s : Int)) (some ((s : Int) + 1)) = (ys.drop s).take 1 := cut_midA (s := 1)
    rw [e1]
    have x1 := same_new (o := .lst ((ys.drop s).take 1)) na
    have ha := upd_same (H := G0) (a := a) (o := .lst ((ys.drop s).take 1))
    have L1 := L0.up x1
    generalize upd G0 a (.lst ((ys.drop s).take 1)) = G1 at ha L1
    clear x1 na L0 e1
    refine ⟨.ref F, rfl, .int (s : Int), rfl, _, _, rfl, rfl, _, rfl, .int (s : Int), rfl, _, _, rfl, rfl, _, rfl, F, ys, rfl, SqL.of (hid_same p l _ _ _ L1.hF), fun b nb => ?_⟩
    have e2 : cutV ys (some ((s : Int) + 1)) (some ((s : Int) + 2)) = (ys.drop (s + 1)).take 1 := by
      have := cut_midA (xs := ys) (i := s + 1) (s := 1)
      rw [← this, show ((s : Int) + 1) = ((s + 1 : Nat) : Int) by omega, show ((s : Int) + 2) = (((s + 1 : Nat) : Int) + ((1 : Nat) : Int)) by omega]
    have x2 := same_new (o := .lst (cutV ys (some ((s : Int) + 1)) (some ((s : Int) + 2)))) nb
    have hb := upd_same (H := G1) (a := b) (o := .lst (cutV ys (some ((s : Int) + 1)) (some ((s : Int) + 2))))
    have ha2 := x2 _ _ ha
    have L2 := L1.up x2
    clear x2 nb L1 ha
    refine ⟨a, b, _, _, rfl, SqL.of ha2, SqL.of hb, ?_⟩
    refine for_it (walk_zip (n := min ((ys.drop s).take 1).length (cutV ys (some ((s : Int) + 1)) (some ((s : Int) + 2))).length) rfl) (fun j σ G => ∃ (F' : Addr) (ys' : List V) (ks' : List Mv) (v5 v6 : Option V), σ = [some (.ref p), some (.ref mo), some (.ref F'), some (.int (i : Int)), some (.int (s : Int)), v5, v6, none] ∧ LS n p l H ms F' ys' ks' G ∧ Same (upd G1 b (.lst (cutV ys (some ((s : Int) + 1)) (some ((s : Int) + 2))))) G ∧ (j = 0 → F' = F ∧ ys' = ys ∧ ks' = ks)) ⟨F, ys, ks, _, _, rfl, L2, Same.refl _, fun _ => ⟨rfl, rfl, rfl⟩⟩ (fun _ _ _ _ ⟨_, _, _, _, _, _, _, sm, _⟩ => ⟨SqL.of (sm _ _ ha2), SqL.of (sm _ _ hb)⟩) ?_ ?_
    rotate_left
    · rintro σ G ⟨F', ys', ks', v5, v6, rfl, L', _, _⟩
      exact ⟨F', ys', ks', _, _, _, _, rfl, L'⟩
    rintro j _ σ G3 _ hj ⟨F', ys', ks', v5, v6, rfl, L3, sm, h0⟩ ⟨t, x, y, rfl, nt, rfl, g1, g2⟩
    have hj0 : j = 0 := by
      have : min ((ys.drop s).take 1).length (cutV ys (some ((s : Int) + 1)) (some ((s : Int) + 2))).length ≤ 1 := by
        refine Nat.le_trans (Nat.min_le_left _ _) ?_
        rw [List.length_take]
        exact Nat.min_le_left _ _
      omega
    subst hj0
    obtain ⟨rfl, rfl, rfl⟩ := h0 rfl
    have gx : ys'[s]? = some x := by simpa using g1
    have gy : ys'[s + 1]? = some y := by
      rw [e2] at g2
      have g2 : ((ys'.drop (s + 1)).take 1)[0]? = some y := g2
      rw [List.getElem?_take, if_pos (by decide), List.getElem?_drop] at g2
      exact g2
    clear g1 g2 hj h0
    obtain ⟨d1, hd1, qx⟩ := L3.qy.get gx
    obtain ⟨d2, hd2, qk⟩ := L3.qy.get gy
    rw [List.getElem?_map] at hd1 hd2
    obtain ⟨m, hm, rfl⟩ := Option.map_eq_some_iff.mp hd1
    obtain ⟨k, hk, rfl⟩ := Option.map_eq_some_iff.mp hd2
    have dm := L3.de m (List.mem_of_getElem? hm)
    have dk := L3.de k (List.mem_of_getElem? hk)
    have st := same_new (o := .tup [x, y]) nt
    have L4 := L3.up st
    have sm4 := sm.trans st
    obtain ⟨da, qa, rfl, hda, hqa⟩ := deed_inv (qx.up st)
    obtain ⟨db, qb, rfl, hdb, hqb⟩ := deed_inv (qk.up st)
    have ht4 := upd_same (H := G3) (a := t) (o := .tup [.ref da, .ref db])
    refine ⟨t, _, rfl, SqT.of ht4, rfl, .ref da, [.ref db], rfl, .ref db, [], rfl, rfl, ?_⟩
    generalize upd G3 t (.tup [.ref da, .ref db]) = G4 at L4 sm4 hda hqa hdb hqb
    clear L3 sm st nt qx qk ht4 hd1 hd2
    -- places of one in other
    refine ⟨.ref da, rfl, 1, rfl, ?_⟩
    dsimp only [tNoPart]
    refine sliceA_k hda fun u1 G5 s5 hu1 => ⟨u1, rfl, ⟨_, SqT.of hu1⟩, fun D1 nD1 => ?_⟩
    have L5 := L4.up s5
    have hda5 := s5 _ _ hda
    have hqa5 := s5 _ _ hqa
    have hdb5 := s5 _ _ hdb
    have hqb5 := s5 _ _ hqb
    have sm5 := sm4.trans s5
    clear L4 hda hqa hdb hqb sm4 s5
    refine lc_it (walk_tup (K := K) (a := u1) (xs := lv [m.2.1, m.2.2])) (fun j G => ∃ zs : List V, G D1 = some (.lst zs) ∧ Same G5 G ∧ zs.length ≤ j ∧ zs.isEmpty = ([m.2.1, m.2.2].take j).all (fun x => decide (x ∉ k.1 ++ [k.2.1, k.2.2]))) ⟨[], upd_same, same_new nD1, Nat.le_refl _, rfl⟩ (fun _ _ _ ⟨_, _, s, _⟩ => SqT.of (s _ _ hu1)) ?_ ?_
    · rintro j x _ G6 hj ⟨zs, hD, s6, hzl, hze⟩ ⟨rfl, hx⟩
      obtain ⟨z, hz, rfl⟩ : ∃ z, [m.2.1, m.2.2][j]? = some z ∧ V.int (z : Nat) = x := by
        unfold lv at hx
        rw [List.getElem?_map] at hx
        cases e : [m.2.1, m.2.2][j]? with
        | none => rw [e] at hx; cases hx
        | some y => rw [e] at hx; exact ⟨y, rfl, Option.some.inj hx⟩
      have hj2 : j < 2 := (List.getElem?_eq_some_iff.mp hz).1
      have tk : ([m.2.1, m.2.2].take (j + 1)).all (fun x => decide (x ∉ k.1 ++ [k.2.1, k.2.2])) = (([m.2.1, m.2.2].take j).all (fun x => decide (x ∉ k.1 ++ [k.2.1, k.2.2])) && decide (z ∉ k.1 ++ [k.2.1, k.2.2])) := by
        rw [List.take_add_one, hz, List.all_append]
        simp
      refine ⟨rfl, .int z, rfl, .ref db, rfl, ⟨db, _, (0 : Int), .ref qb, rfl, rfl, SqT.of (s6 _ _ hdb5), rfl, .ref db, rfl, 1, rfl, ?_⟩⟩
      dsimp only [tNoPart]
      refine sliceA_k (s6 _ _ hdb5) fun u2 G7 s7 hu2 => ?_
      refine catA_k (xs := lv k.1) (ys := [.int (k.2.1 : Nat), .int (k.2.2 : Nat)]) (s7 _ _ (s6 _ _ hqb5)) hu2 (by rw [lv_len]; have := dk.asc.len; show _ + 2 ≤ _; omega) fun u3 G8 s8 hu3 => ?_
      have hu3' : G8 u3 = some (.tup (lv (k.1 ++ [k.2.1, k.2.2]))) := by
        rw [hu3]
        unfold lv
        rw [List.map_append]
        rfl
      refine ⟨u3, _, rfl, .inr (SqT.of hu3'), rfl, lv_fl _, _, rfl, ?_⟩
      rw [inV_lot]
      have s68 := s6.trans (s7.trans s8)
      have hD8 := (s7.trans s8) _ _ hD
      by_cases c : z ∈ k.1 ++ [k.2.1, k.2.2]
      · rw [decide_eq_true c]
        refine iteT ⟨zs, hD8, szl (by omega), zs ++ [.int 1], upd_same, fun b o hb => ?_, by rw [List.length_append]; show _ + 1 ≤ _; omega, ?_⟩
        · rw [upd_ne (ne_of_none hb nD1)]
          exact s68 _ _ hb
        · rw [tk, decide_eq_false (fun h => h c), Bool.and_false]
          cases zs <;> rfl
      · rw [decide_eq_false c]
        refine iteF ⟨zs, hD8, s68, by omega, ?_⟩
        rw [tk, decide_eq_true c, Bool.and_true]
        exact hze
    rintro G6 ⟨zs1, hD1, s6, hz1, he1⟩
    have el : (lv [m.2.1, m.2.2]).length = 2 := rfl
    rw [el] at hz1 he1
    have L6 := L5.up s6
    have hda6 := s6 _ _ hda5
    have hqa6 := s6 _ _ hqa5
    have hdb6 := s6 _ _ hdb5
    have sm6 := sm5.trans s6
    clear L5 hda5 hqa5 hdb5 hqb5 sm5 s6 hu1
    refine ⟨.ref db, rfl, 1, rfl, ?_⟩
    dsimp only [tNoPart]
    refine sliceA_k hdb6 fun u2 G7 s7 hu2 => ⟨u2, rfl, ⟨_, SqT.of hu2⟩, fun D2 nD2 => ?_⟩
    have L7 := L6.up s7
    have hda7 := s7 _ _ hda6
    have hqa7 := s7 _ _ hqa6
    have hD17 := s7 _ _ hD1
    have sm7 := sm6.trans s7
    clear L6 hda6 hqa6 hdb6 sm6 s7 hD1
    refine lc_it (walk_tup (K := K) (a := u2) (xs := lv [k.2.1, k.2.2])) (fun j G => ∃ zs : List V, G D2 = some (.lst zs) ∧ Same G7 G ∧ zs.length ≤ j ∧ zs.isEmpty = ([k.2.1, k.2.2].take j).all (fun x => decide (x ∉ m.1))) ⟨[], upd_same, same_new nD2, Nat.le_refl _, rfl⟩ (fun _ _ _ ⟨_, _, s, _⟩ => SqT.of (s _ _ hu2)) ?_ ?_
    · rintro j x _ G6 hj ⟨zs, hD, s6, hzl, hze⟩ ⟨rfl, hx⟩
      obtain ⟨z, hz, rfl⟩ : ∃ z, [k.2.1, k.2.2][j]? = some z ∧ V.int (z : Nat) = x := by
        unfold lv at hx
        rw [List.getElem?_map] at hx
        cases e : [k.2.1, k.2.2][j]? with
        | none => rw [e] at hx; cases hx
        | some y => rw [e] at hx; exact ⟨y, rfl, Option.some.inj hx⟩
      have hj2 : j < 2 := (List.getElem?_eq_some_iff.mp hz).1
      have tk : ([k.2.1, k.2.2].take (j + 1)).all (fun x => decide (x ∉ m.1)) = (([k.2.1, k.2.2].take j).all (fun x => decide (x ∉ m.1)) && decide (z ∉ m.1)) := by
        rw [List.take_add_one, hz, List.all_append]
        simp
      refine ⟨rfl, .int z, rfl, .ref da, rfl, da, _, (0 : Int), .ref qa, rfl, rfl, SqT.of (s6 _ _ hda7), rfl, qa, _, rfl, .inr (SqT.of (s6 _ _ hqa7)), rfl, lv_fl _, _, rfl, ?_⟩
      rw [inV_lot]
      by_cases c : z ∈ m.1
      · rw [decide_eq_true c]
        refine iteT ⟨zs, hD, szl (by omega), zs ++ [.int 1], upd_same, fun b o hb => ?_, by rw [List.length_append]; show _ + 1 ≤ _; omega, ?_⟩
        · rw [upd_ne (ne_of_none hb nD2)]
          exact s6 _ _ hb
        · rw [tk, decide_eq_false (fun h => h c), Bool.and_false]
          cases zs <;> rfl
      · rw [decide_eq_false c]
        refine iteF ⟨zs, hD, s6, by omega, ?_⟩
        rw [tk, decide_eq_true c, Bool.and_true]
        exact hze
    rintro G8 ⟨zs2, hD2, s8, hz2, he2⟩
    have el2 : (lv [k.2.1, k.2.2]).length = 2 := rfl
    rw [el2] at hz2 he2
    have L8 := L7.up s8
    have hD18 := s8 _ _ hD17
    have sm8 := sm7.trans s8
    clear L7 hda7 hqa7 sm7 s8 hD17 hu2
    refine ⟨D1, D2, zs1, zs2, rfl, rfl, hD18, hD2, sz (by omega), fun w nw => ⟨by show 0 ≤ sizeLine; decide, fun e ne => ⟨w, e, zs1 ++ zs2, rfl, rfl, same_new ne _ _ upd_same, upd_same, _, rfl, ?_⟩⟩⟩
    have x1 := same_new (o := .lst (zs1 ++ zs2)) nw
    have x2 := same_new (o := .lst []) ne
    have L9 := L8.up (x1.trans x2)
    have sm9 := sm8.trans (x1.trans x2)
    generalize upd (upd G8 w (.lst (zs1 ++ zs2))) e (.lst []) = G9 at L9 sm9
    clear L8 sm8 x1 x2 nw ne hD18 hD2
    cases hc : (zs1 ++ zs2).isEmpty with
    | false => exact iteF ⟨_, _, _, _, _, rfl, L9, sm9, fun h => absurd h (by omega)⟩
    | true =>
      refine iteT ?_
      have hz1e : zs1 = [] ∧ zs2 = [] := by
        rw [List.isEmpty_iff, List.append_eq_nil_iff] at hc
        exact hc
      rw [hz1e.1] at he1
      rw [hz1e.2] at he2
      have o1 : ∀ x ∈ [m.2.1, m.2.2], x ∉ k.1 ++ [k.2.1, k.2.2] := fun x hx => of_decide_eq_true (List.all_eq_true.mp he1.symm x hx)
      have o2 : ∀ x ∈ [k.2.1, k.2.2], x ∉ m.1 := fun x hx => of_decide_eq_true (List.all_eq_true.mp he2.symm x hx)
      have off : Off2 m k := by
        have a1 := o1 m.2.1 (by simp)
        have b1 := o1 m.2.2 (by simp)
        have a2 := o2 k.2.1 (by simp)
        have b2 := o2 k.2.2 (by simp)
        simp only [List.mem_append, List.mem_cons, List.not_mem_nil, or_false, not_or] at a1 b1
        exact ⟨a1.1, b1.1, a2, b2, a1.2.1, a1.2.2, b1.2.1, b1.2.2⟩
      have hF9 := hid_same p l _ _ _ L9.hF
      have hys : s + 1 < ys'.length := (List.getElem?_eq_some_iff.mp gy).1
      have hks : ks'.length = ys'.length := by rw [L9.qy.len, List.length_map]
      refine one_asg ⟨.ref F', rfl, .int (s : Int), rfl, (s : Int), rfl, F', ys', rfl, SqL.of hF9, fun z1 nz1 => ?_⟩
      rw [cut_to (by omega)]
      have y1 := same_new (o := .lst (ys'.take s)) nz1
      refine ⟨.ref db, rfl, .ref da, rfl, by show 2 ≤ sizeLine; decide, fun z2 nz2 => ?_⟩
      have y2 := same_new (o := .lst [.ref db, .ref da]) nz2
      refine ⟨z1, z2, _, _, rfl, rfl, y2 _ _ upd_same, upd_same, sz (by rw [List.length_take]; have := L9.yl; show _ + 2 ≤ _; omega), fun z3 nz3 => ?_⟩
      have y3 := same_new (o := .lst (ys'.take s ++ [.ref db, .ref da])) nz3
      have y13 := y1.trans (y2.trans y3)
      have h3 := upd_same (H := upd (upd G9 z1 (.lst (ys'.take s))) z2 (.lst [.ref db, .ref da])) (a := z3) (o := .lst (ys'.take s ++ [.ref db, .ref da]))
      generalize upd (upd (upd G9 z1 (.lst (ys'.take s))) z2 (.lst [.ref db, .ref da])) z3 (.lst (ys'.take s ++ [.ref db, .ref da])) = GA at y13 h3
      clear y1 y2 y3 nz1 nz2 nz3
      refine ⟨.ref F', rfl, .int (s : Int), rfl, _, _, rfl, rfl, _, rfl, F', ys', rfl, SqL.of (y13 _ _ hF9), fun z4 nz4 => ?_⟩
      have es : ((s : Nat) : Int) + 2 = ((s + 2 : Nat) : Int) := by omega
      dsimp only at nz4 ⊢
      rw [es, cut_fromA]
      have y4 := same_new (o := .lst (ys'.drop (s + 2))) nz4
      refine ⟨z3, z4, _, _, rfl, rfl, y4 _ _ h3, upd_same, sz (by rw [List.length_append, List.length_take, List.length_drop]; have := L9.yl; show _ + 2 + _ ≤ _; omega), fun z5 nz5 => ?_⟩
      have y5 := same_new (o := .lst (ys'.take s ++ [.ref db, .ref da] ++ ys'.drop (s + 2))) nz5
      have y15 := y13.trans (y4.trans y5)
      have LA := L9.up y15
      obtain ⟨n5p, n5l⟩ := (L9.D.up (y13.trans y4)).new nz5
      have esp := swap_split hm hk
      obtain ⟨e1, he1', q1⟩ := L9.qy.get gx
      obtain ⟨e2', he2', q2⟩ := L9.qy.get gy
      rw [List.getElem?_map, hm] at he1'
      rw [List.getElem?_map, hk] at he2'
      cases Option.some.inj he1'
      cases Option.some.inj he2'
      refine ⟨z5, _, ks'.take s ++ [k, m] ++ ks'.drop (s + 2), _, _, rfl, ⟨LA.D, LA.E, hid_upd n5p n5l, ?_, fun x hx => ?_, ?_, ?_⟩, sm9.trans y15, fun h => absurd h (by omega)⟩
      · rw [List.map_append, List.map_append, List.map_take, List.map_drop]
        exact ((L9.qy.take s).app (.cons q2 (.cons q1 .nil)) |>.app (L9.qy.drop (s + 2))).up y15
      · rcases List.mem_append.mp hx with h | h
        · rcases List.mem_append.mp h with h | h
          · exact L9.de x (List.take_subset _ _ h)
          · simp only [List.mem_cons, List.not_mem_nil, or_false] at h
            rcases h with rfl | rfl
            · exact dk
            · exact dm
        · exact L9.de x (List.drop_subset _ _ h)
      · rw [← L9.len]
        simp only [List.length_append, List.length_take, List.length_drop, List.length_cons, List.length_nil]
        omega
      · have sw : Sim n (ks'.take s ++ ([k, m] ++ ks'.drop (s + 2))) (ks'.take s ++ ([m, k] ++ ks'.drop (s + 2))) := Sim.refl.app ((sim_swap dm dk off).symm.app Sim.refl)
        rw [← esp, ← List.append_assoc] at sw
        exact sw.trans L9.sim
end
end Kr
namespace Kr
open PySem PySem.Spec PyProof.Rows L2
section
variable {P : Program} {w : World} {K : PySem.W.Frag} {mg : Str → Option Value} {base : Heap}
def spApart : Sp := fun vs H Q _ => ∃ (p l : Addr) (n : Nat), vs = [.ref p, .int (n : Int)] ∧ Deck H p l ∧ 4 ≤ n ∧ n ≤ 6 ∧ ∀ H' a b c m k, Deck H' p l → Ext p l H H' → H' a = some (.tup [b, c]) → Dq H' b (deedD m) → Dq H' c (deedD k) → Deed n m → Deed n k → Off2 m k → Q (.ref a) H'
abbrev n_lApart : List Str := ["box", "n", "mixed", "one", "x", "other"]
theorem sc_lApart : FnScope n_lApart ["box", "n"] (defScope sLApart) := ⟨rfl, rfl, rfl, by decide +kernel, rfl, by decide +kernel, by decide +kernel⟩
theorem o_lApart (D0 : Df K mg "_law_apart" sLApart ["box", "n"]) (B : Bi mg) (dr : Ok P w K mg base 1 "_law_draw" ["box", "many"] spDraw) (mx : Ok P w K mg base 2 "_law_mixed" ["box", "items"] spMixV) : Ok P w K mg base 3 "_law_apart" ["box", "n"] spApart := by
  refine D0.ok fun f fd F => F.ok sc_lApart (fun vs H Q E h => ?_) (fun cdv A outer s H vs Q E hr h => ?_)
  · obtain ⟨_, _, _, rfl, _⟩ := h
    rfl
  · obtain ⟨p, l, n, rfl, Dk, n0, n1, q⟩ := h
    have hr_dr := hr.mono (show 1 ≤ 2 by omega)
    have hr_mx := hr.mono (show 2 ≤ 2 by omega)
    have hu : (cxOf CX0 P w K mg base n_lApart "_law_apart" (defScope sLApart) f cdv A outer s H E).A.units + 64 < cLine := hr.units
    have hu1 := hu_of hr
    refine ⟨_, pss_cons (ps_set (i := 2) sc_lApart.nd rfl (.inl rfl) (pe_fn mx hr_mx (by rfl) (pa_cons (pv 0) (pa_cons (pe_listRg rfl (by rfl) B.list (prg_1 (by rfl) B.range (pv 1))) pa_nil))))
      (pss_cons (ps_set (i := 3) sc_lApart.nd rfl (.inl rfl) (pe_callTy call_tuple_of (by rfl) B.tuple (by decide +kernel) (pa_cons (pe_callB cr_sortedI (by rfl) B.sorted (by decide +kernel) (pa_cons (pe_lc (own := [("x", 4)]) (g := gName 4) rfl sc_lApart.nd (pi_list (pe_slice sl_list (pv 2) (po_some pe_int) po_none)) (blkOk_by (own := [("x", 4)]) (N := n_lApart) (sc := defScope sLApart) (by decide +kernel)) (fun _ _ _ _ _ => pg_name (i := 4) sc_lApart.nd rfl (.inl rfl)) (fun _ _ _ _ _ => pts_one (pt_cmpR op_eq (pe_fn dr hr_dr (by rfl) (pa_cons (pv 0) (pa_cons pe_int pa_nil))) pe_int (nomark _))) (fun _ _ _ _ _ => (pv 4))) pa_nil)) pa_nil)))
      (pss_cons (ps_set (i := 5) sc_lApart.nd rfl (.inl rfl) (pe_callTy call_tuple_of (by rfl) B.tuple (by decide +kernel) (pa_cons (pe_callB cr_sortedI (by rfl) B.sorted (by decide +kernel) (pa_cons (pe_lc (own := [("x", 4)]) (g := gName 4) rfl sc_lApart.nd (pi_list (pe_slice sl_list (pv 2) (po_some pe_int) po_none)) (blkOk_by (own := [("x", 4)]) (N := n_lApart) (sc := defScope sLApart) (by decide +kernel)) (fun _ _ _ _ _ => pg_name (i := 4) sc_lApart.nd rfl (.inl rfl)) (fun _ _ _ _ _ => pts_one (pt_cmpR op_eq (pe_fn dr hr_dr (by rfl) (pa_cons (pv 0) (pa_cons pe_int pa_nil))) pe_int (nomark _))) (fun _ _ _ _ _ => (pv 4))) pa_nil)) pa_nil)))
      (pss_one (ps_ret (pe_tup (pa_cons (pe_op op_catA (pe_tup (pa_cons (pv 3) pa_nil)) (pe_callTy call_tuple_of (by rfl) B.tuple (by decide +kernel) (pa_cons (pe_callB cr_sortedI (by rfl) B.sorted (by decide +kernel) (pa_cons (pe_slice sl_list (pv 2) po_none (po_some pe_int)) pa_nil)) pa_nil))) (pa_cons (pe_op op_catA (pe_tup (pa_cons (pv 5) pa_nil)) (pe_callTy call_tuple_of (by rfl) B.tuple (by decide +kernel) (pa_cons (pe_callB cr_sortedI (by rfl) B.sorted (by decide +kernel) (pa_cons (pe_slice sl_list (pv 2) (po_some pe_int) (po_some pe_int)) pa_nil)) pa_nil))) pa_nil))))))), ?_⟩
    refine sq_asg ⟨.ref p, rfl, .int (n : Int), rfl, (n : Int), rfl, RgOk.of_le (Int.le_refl _) (by omega) (by decide) (by omega), fun b nb => ?_⟩
    rw [rg_ups]
    obtain ⟨e4, D4, hid4⟩ := new_dq (o := .lst ((ups n).map V.int)) Dk nb
    have hul : (ups n).length = n := by unfold ups; rw [List.length_map, List.length_range]
    refine ⟨p, l, b, _, rfl, D4, hid4, by rw [List.length_map, hul]; omega, fun G5 f5 ys D5 E45 nf5 hf5 hp => ?_⟩
    obtain ⟨zs, rfl, hpz⟩ := ints_perm hp
    have hzl : zs.length = n := by rw [hpz.length_eq, hul]
    have E5 : Ext p l H G5 := Same.trans e4 E45
    clear e4 D4 hid4 nb nf5 E45 hp
    have hnd : zs.Nodup := hpz.symm.nodup (by
      unfold ups
      exact List.pairwise_map.mpr (List.nodup_range.imp fun h z => h (by omega)))
    have dis : ∀ x : Int, (x ∈ zs.take 2 → x ∉ (zs.drop 2).take 2 ∧ x ∉ zs.drop 4) ∧ (x ∈ (zs.drop 2).take 2 → x ∉ zs.drop 4) := by
      have e1 : zs = zs.take 2 ++ ((zs.drop 2).take 2 ++ zs.drop 4) := by
        have h2 : zs.drop 4 = (zs.drop 2).drop 2 := by rw [List.drop_drop]
        rw [h2, List.take_append_drop, List.take_append_drop]
      have h := hnd
      rw [e1, List.nodup_append] at h
      have h2 := h.2.1
      rw [List.nodup_append] at h2
      exact fun x => ⟨fun hx => ⟨fun hy => h.2.2 x hx x (List.mem_append_left _ hy) rfl, fun hy => h.2.2 x hx x (List.mem_append_right _ hy) rfl⟩, fun hx hy => h2.2.2 x hx x hy rfl⟩
    refine sq_asg ⟨.ref f5, rfl, 4, rfl, f5, _, rfl, SqL.of (hid_same p l _ _ _ hf5), fun c nc => ?_⟩
    rw [show cutV (zs.map V.int) (some 4) none = (zs.drop 4).map V.int from by rw [List.map_drop]; exact cut_fromA (i := 4)]
    have sc := same_new (o := .lst ((zs.drop 4).map V.int)) nc
    obtain ⟨ncp, ncl⟩ := D5.new nc
    have hc := hid_upd (p := p) (l := l) (H := G5) (o := .lst ((zs.drop 4).map V.int)) ncp ncl
    have Da := D5.up sc
    have Ea : Ext p l G5 _ := Ext.of sc
    generalize upd G5 c (.lst ((zs.drop 4).map V.int)) = Ga at hc Da Ea
    clear sc nc ncp ncl
    refine ⟨c, rfl, ⟨_, SqL.of (hid_same p l _ _ _ hc)⟩, fun D nD => ?_⟩
    obtain ⟨nDp, nDl⟩ := Da.new nD
    refine lc_it (walk_list (K := K) (a := c) (xs := (zs.drop 4).map V.int)) (fun j G1 => ∃ ws : List Int, G1 D = some (.lst (ws.map V.int)) ∧ Deck G1 p l ∧ Ext p l Ga G1 ∧ ws.length ≤ j ∧ ws.Sublist ((zs.drop 4).take j)) ⟨[], upd_same, Da.mut nDp nDl, Ext.mut Ext.rfl nD, Nat.le_refl _, List.Sublist.refl _⟩ (fun j G1 _ ⟨_, _, _, EG, _⟩ => SqL.of (hid_same p l _ _ _ (EG _ _ hc))) ?_ ?_
    · rintro j x _ Gb hj ⟨ws, hD, DG, EG, hwl, hsub⟩ ⟨rfl, hx⟩
      rw [List.getElem?_map] at hx
      obtain ⟨z, hz, rfl⟩ := Option.map_eq_some_iff.mp hx
      have hjl : j < 10 := by
        have := (List.getElem?_eq_some_iff.mp hz).1
        rw [List.length_drop, hzl] at this
        omega
      refine ⟨rfl, .ref p, rfl, p, l, 2, rfl, DG, by decide, by decide, fun Gc r Dc Ec r0 r1 => ⟨rfl, _, rfl, ?_⟩⟩
      have hDc := Ext.at_ Ec nDp nDl hD
      have tk : (zs.drop 4).take (j + 1) = (zs.drop 4).take j ++ [z] := by rw [List.take_add_one, hz]; rfl
      refine ite2 (fun _ => ?_) (fun _ => ?_)
      · refine ⟨.int z, rfl, _, hDc, szm (by rw [List.length_map]; omega), ws ++ [z], by rw [upd_same, List.map_append]; rfl, Dc.mut nDp nDl, Ext.mut (Same.trans EG Ec) nD, by rw [List.length_append]; show _ + 1 ≤ _; omega, ?_⟩
        rw [tk]
        exact hsub.append (List.Sublist.refl _)
      · refine ⟨ws, hDc, Dc, Same.trans EG Ec, by omega, ?_⟩
        rw [tk]
        exact hsub.trans (List.sublist_append_left _ _)
    rintro Gb ⟨ws, hD, DG, EG, hwl, hsub⟩
    have hsub1 : ws.Sublist (zs.drop 4) := hsub.trans (List.take_sublist _ _)
    refine ⟨D, ws, rfl, SqL.of hD, fun us d2 hpu hso nd2 => ⟨d2, _, rfl, .inl ⟨SqL.of upd_same, fun t1 nt => ?_⟩⟩⟩
    obtain ⟨l1, rfl, hA1⟩ := drawn_piece hpz (hsub1.trans (List.drop_sublist _ _)) hpu hso
    have hm1 : ∀ x ∈ l1, ((x : Nat) : Int) ∈ zs.drop 4 := fun x hx => hsub1.subset (hpu.subset (List.mem_map.mpr ⟨x, hx, rfl⟩))
    have sx := (same_new (o := .lst ((l1.map fun (x : Nat) => (x : Int)).map V.int)) nd2).trans (same_new (o := .tup ((l1.map fun (x : Nat) => (x : Int)).map V.int)) nt)
    have ht1 := upd_same (H := upd Gb d2 (.lst ((l1.map fun (x : Nat) => (x : Int)).map V.int))) (a := t1) (o := .tup ((l1.map fun (x : Nat) => (x : Int)).map V.int))
    have Eab : Ext p l G5 _ := Same.trans Ea (Same.trans EG (Ext.of sx))
    have D6 := DG.up sx
    have E6 : Ext p l H _ := Same.trans E5 Eab
    have hf6 := Eab _ _ hf5
    have tS6 := TS.deck D5 Eab
    generalize upd (upd Gb d2 (.lst ((l1.map fun (x : Nat) => (x : Int)).map V.int))) t1 (.tup ((l1.map fun (x : Nat) => (x : Int)).map V.int)) = G6 at ht1 D6 E6 hf6 tS6
    clear sx nt nd2 hpu hso hD DG EG hsub hwl hc Da Ea nD nDp nDl Eab
    refine sq_asg ⟨.ref f5, rfl, 4, rfl, f5, _, rfl, SqL.of (hid_same p l _ _ _ hf6), fun c nc => ?_⟩
    rw [show cutV (zs.map V.int) (some 4) none = (zs.drop 4).map V.int from by rw [List.map_drop]; exact cut_fromA (i := 4)]
    have sc := same_new (o := .lst ((zs.drop 4).map V.int)) nc
    obtain ⟨ncp, ncl⟩ := D6.new nc
    have hc := hid_upd (p := p) (l := l) (H := G6) (o := .lst ((zs.drop 4).map V.int)) ncp ncl
    have Da := D6.up sc
    have Ea : Ext p l G6 _ := Ext.of sc
    generalize upd G6 c (.lst ((zs.drop 4).map V.int)) = Ga at hc Da Ea
    clear sc nc ncp ncl
    refine ⟨c, rfl, ⟨_, SqL.of (hid_same p l _ _ _ hc)⟩, fun D nD => ?_⟩
    obtain ⟨nDp, nDl⟩ := Da.new nD
    refine lc_it (walk_list (K := K) (a := c) (xs := (zs.drop 4).map V.int)) (fun j G1 => ∃ ws : List Int, G1 D = some (.lst (ws.map V.int)) ∧ Deck G1 p l ∧ Ext p l Ga G1 ∧ ws.length ≤ j ∧ ws.Sublist ((zs.drop 4).take j)) ⟨[], upd_same, Da.mut nDp nDl, Ext.mut Ext.rfl nD, Nat.le_refl _, List.Sublist.refl _⟩ (fun j G1 _ ⟨_, _, _, EG, _⟩ => SqL.of (hid_same p l _ _ _ (EG _ _ hc))) ?_ ?_
    · rintro j x _ Gb hj ⟨ws, hD, DG, EG, hwl, hsub⟩ ⟨rfl, hx⟩
      rw [List.getElem?_map] at hx
      obtain ⟨z, hz, rfl⟩ := Option.map_eq_some_iff.mp hx
      have hjl : j < 10 := by
        have := (List.getElem?_eq_some_iff.mp hz).1
        rw [List.length_drop, hzl] at this
        omega
      refine ⟨rfl, .ref p, rfl, p, l, 2, rfl, DG, by decide, by decide, fun Gc r Dc Ec r0 r1 => ⟨rfl, _, rfl, ?_⟩⟩
      have hDc := Ext.at_ Ec nDp nDl hD
      have tk : (zs.drop 4).take (j + 1) = (zs.drop 4).take j ++ [z] := by rw [List.take_add_one, hz]; rfl
      refine ite2 (fun _ => ?_) (fun _ => ?_)
      · refine ⟨.int z, rfl, _, hDc, szm (by rw [List.length_map]; omega), ws ++ [z], by rw [upd_same, List.map_append]; rfl, Dc.mut nDp nDl, Ext.mut (Same.trans EG Ec) nD, by rw [List.length_append]; show _ + 1 ≤ _; omega, ?_⟩
        rw [tk]
        exact hsub.append (List.Sublist.refl _)
      · refine ⟨ws, hDc, Dc, Same.trans EG Ec, by omega, ?_⟩
        rw [tk]
        exact hsub.trans (List.sublist_append_left _ _)
    rintro Gb ⟨ws, hD, DG, EG, hwl, hsub⟩
    have hsub2 : ws.Sublist (zs.drop 4) := hsub.trans (List.take_sublist _ _)
    refine ⟨D, ws, rfl, SqL.of hD, fun us d2 hpu hso nd2 => ⟨d2, _, rfl, .inl ⟨SqL.of upd_same, fun t2 nt => ?_⟩⟩⟩
    obtain ⟨l2, rfl, hA2⟩ := drawn_piece hpz (hsub2.trans (List.drop_sublist _ _)) hpu hso
    have hm2 : ∀ x ∈ l2, ((x : Nat) : Int) ∈ zs.drop 4 := fun x hx => hsub2.subset (hpu.subset (List.mem_map.mpr ⟨x, hx, rfl⟩))
    have sx := (same_new (o := .lst ((l2.map fun (x : Nat) => (x : Int)).map V.int)) nd2).trans (same_new (o := .tup ((l2.map fun (x : Nat) => (x : Int)).map V.int)) nt)
    have ht2 := upd_same (H := upd Gb d2 (.lst ((l2.map fun (x : Nat) => (x : Int)).map V.int))) (a := t2) (o := .tup ((l2.map fun (x : Nat) => (x : Int)).map V.int))
    have Eab : Ext p l G6 _ := Same.trans Ea (Same.trans EG (Ext.of sx))
    have D7 := DG.up sx
    have ht1 := ht1
    have E7 : Ext p l H _ := Same.trans E6 Eab
    have hf7 := Eab _ _ hf6
    have tS7 := TS.deck D6 Eab
    generalize upd (upd Gb d2 (.lst ((l2.map fun (x : Nat) => (x : Int)).map V.int))) t2 (.tup ((l2.map fun (x : Nat) => (x : Int)).map V.int)) = G7 at ht2 D7 E7 hf7 tS7
    clear sx nt nd2 hpu hso hD DG EG hsub hwl hc Da Ea nD nDp nDl Eab
    have ht17 := tS7 _ _ ht1
    dsimp only
    refine one_ret ?_
    refine ⟨.ref t1, rfl, by show 1 ≤ sizeLine; decide, fun o1 no => ?_⟩
    have so := same_new (o := .tup [.ref t1]) no
    refine ⟨.ref f5, rfl, 2, rfl, f5, _, rfl, SqL.of (so _ _ (hid_same p l _ _ _ hf7)), fun c nc => ?_⟩
    rw [show cutV (zs.map V.int) none (some 2) = (zs.take 2).map V.int from by rw [List.map_take]; exact cut_to (i := 2) (by rw [List.length_map]; omega)]
    have sc := same_new (o := .lst ((zs.take 2).map V.int)) nc
    refine ⟨c, _, rfl, SqL.of upd_same, fun us d2 hpu hso nd2 => ⟨d2, _, rfl, .inl ⟨SqL.of upd_same, fun u1 nu => ?_⟩⟩⟩
    obtain ⟨q1, rfl, hQ1⟩ := drawn_piece hpz (List.take_sublist _ _) hpu hso
    have hql : q1.length = 2 := by
      have := hpu.length_eq
      rw [List.length_map] at this
      rw [this]
      simp only [List.length_take, List.length_drop, hzl]
      omega
    have hqm1 : ∀ x ∈ q1, ((x : Nat) : Int) ∈ zs.take 2 := fun x hx => hpu.subset (List.mem_map.mpr ⟨x, hx, rfl⟩)
    obtain ⟨a1, b1, rfl⟩ : ∃ x y, q1 = [x, y] := by
      match q1, hql with
      | [x, y], _ => exact ⟨x, y, rfl⟩
    have sd := same_new (o := .lst (([a1, b1].map fun (x : Nat) => (x : Int)).map V.int)) nd2
    have su := same_new (o := .tup (([a1, b1].map fun (x : Nat) => (x : Int)).map V.int)) nu
    refine catA_k (xs := [.ref t1]) (ys := [.int (a1 : Nat), .int (b1 : Nat)]) ((sc.trans (sd.trans su)) _ _ upd_same) upd_same (by show 1 + 2 ≤ 100000; decide) fun w1 G8 s8 hw1 => ?_
    have sy1 := so.trans (sc.trans (sd.trans (su.trans s8)))
    have D8 := D7.up sy1
    have E8 : Ext p l H _ := Same.trans E7 (Ext.of sy1)
    have hf8 := Ext.of (p := p) (l := l) sy1 _ _ hf7
    clear so sc sd su no nc nd2 nu hpu hso hql
    refine ⟨.ref t2, rfl, by show 1 ≤ sizeLine; decide, fun o2 no => ?_⟩
    have so := same_new (o := .tup [.ref t2]) no
    refine ⟨.ref f5, rfl, 2, rfl, 4, rfl, f5, _, rfl, SqL.of (so _ _ (hid_same p l _ _ _ hf8)), fun c nc => ?_⟩
    rw [show cutV (zs.map V.int) (some 2) (some 4) = ((zs.drop 2).take 2).map V.int from by rw [List.map_take, List.map_drop]; exact cut_mid (i := 2) (s := 2) (by rw [List.length_map]; omega)]
    have sc := same_new (o := .lst (((zs.drop 2).take 2).map V.int)) nc
    refine ⟨c, _, rfl, SqL.of upd_same, fun us d2 hpu hso nd2 => ⟨d2, _, rfl, .inl ⟨SqL.of upd_same, fun u2 nu => ?_⟩⟩⟩
    obtain ⟨q2, rfl, hQ2⟩ := drawn_piece hpz ((List.take_sublist _ _).trans (List.drop_sublist _ _)) hpu hso
    have hql2 : q2.length = 2 := by
      have := hpu.length_eq
      rw [List.length_map] at this
      rw [this]
      simp only [List.length_take, List.length_drop, hzl]
      omega
    have hqm2 : ∀ x ∈ q2, ((x : Nat) : Int) ∈ (zs.drop 2).take 2 := fun x hx => hpu.subset (List.mem_map.mpr ⟨x, hx, rfl⟩)
    obtain ⟨a2, b2, rfl⟩ : ∃ x y, q2 = [x, y] := by
      match q2, hql2 with
      | [x, y], _ => exact ⟨x, y, rfl⟩
    have sd := same_new (o := .lst (([a2, b2].map fun (x : Nat) => (x : Int)).map V.int)) nd2
    have su := same_new (o := .tup (([a2, b2].map fun (x : Nat) => (x : Int)).map V.int)) nu
    refine catA_k (xs := [.ref t2]) (ys := [.int (a2 : Nat), .int (b2 : Nat)]) ((sc.trans (sd.trans su)) _ _ upd_same) upd_same (by show 1 + 2 ≤ 100000; decide) fun w2 G9 s9 hw2 => ?_
    have sy2 := so.trans (sc.trans (sd.trans (su.trans s9)))
    have D9 := D8.up sy2
    have E9 : Ext p l H _ := Same.trans E8 (Ext.of sy2)
    have hf9 := Ext.of (p := p) (l := l) sy2 _ _ hf8
    refine ⟨by show 2 ≤ sizeLine; decide, fun R nR => ?_⟩
    have sR := same_new (o := .tup [.ref w1, .ref w2]) nR
    have h1 := hQ1.1
    have h2 := hQ2.1
    have p1 : a1 < b1 := by simpa using h1
    have p2 : a2 < b2 := by simpa using h2
    have r1 := (hQ1.2 b1 (by simp)).2
    have r2 := (hQ2.2 b2 (by simp)).2
    have m1a := hqm1 a1 (by simp)
    have m1b := hqm1 b1 (by simp)
    have m2a := hqm2 a2 (by simp)
    have m2b := hqm2 b2 (by simp)
    have ne : ∀ {x y : Nat}, ((x : Nat) : Int) ∈ zs.take 2 → ((y : Nat) : Int) ∈ (zs.drop 2).take 2 → x ≠ y := fun hx hy e => by
      subst e
      exact ((dis _).1 hx).1 hy
    have hd1 : Deed n (l1, a1, b1) := ⟨hA1, p1, by show b1 < n; omega, fun h => ((dis _).1 m1a).2 (hm1 _ h), fun h => ((dis _).1 m1b).2 (hm1 _ h)⟩
    have hd2 : Deed n (l2, a2, b2) := ⟨hA2, p2, by show b2 < n; omega, fun h => (dis _).2 m2a (hm2 _ h), fun h => (dis _).2 m2b (hm2 _ h)⟩
    have ho : Off2 (l1, a1, b1) (l2, a2, b2) := ⟨fun h => ((dis _).1 m1a).2 (hm2 _ h), fun h => ((dis _).1 m1b).2 (hm2 _ h), fun h => (dis _).2 m2a (hm1 _ h), fun h => (dis _).2 m2b (hm1 _ h), ne m1a m2a, ne m1a m2b, ne m1b m2a, ne m1b m2b⟩
    refine q _ R (.ref w1) (.ref w2) _ _ (D9.up sR) (Same.trans E9 (Ext.of sR)) upd_same ?_ ?_ hd1 hd2 ho
    · have h3 := (sy2.trans sR) _ _ hw1
      have h4 : upd G9 R (.tup [.ref w1, .ref w2]) t1 = some (.tup (lv l1)) := by
        rw [(sy1.trans (sy2.trans sR)) _ _ ht17, List.map_map]
        rfl
      exact .tup h3 (.cons (lot_at h4) (.cons (.int _) (.cons (.int _) .nil)))
    · have h3 := sR _ _ hw2
      have h4 : upd G9 R (.tup [.ref w1, .ref w2]) t2 = some (.tup (lv l2)) := by
        rw [(sy1.trans (sy2.trans sR)) _ _ ht2, List.map_map]
        rfl
      exact .tup h3 (.cons (lot_at h4) (.cons (.int _) (.cons (.int _) .nil)))
end
end Kr
namespace Kr
open PySem PySem.Spec PyProof.Rows L2
def spLaw (K : PySem.W.Frag) : Sp := fun vs H Q _ => ∃ (a : Addr) (ns : List Int), vs = [.ref a] ∧ SqL K H a (ns.map V.int) ∧ ns.length ≤ 63 ∧ ∀ H', Q (.bl true) H'
theorem lints_dp {K : PySem.W.Frag} {H : Hp} {a : Addr} {ss : List Int} (h : H a = some (.lst (ss.map V.int))) : Dp K H (.ref a) (.list (ss.map .int)) := .lst (SqL.of h) (DqA.dp (flatTA_of fun d hd => by
  obtain ⟨x, _, rfl⟩ := List.mem_map.mp hd
  rfl) (DqA.ints ss))
theorem lints_shaped (ss : List Int) : SeqAt.shaped (.list (ss.map .int)) = true := by
  have h3 := dep_ints1 ss
  unfold SeqAt.shaped
  simp only [PyData.canLay0, PyData.depth, lay_ints1 ss, Bool.true_and, decide_eq_true_eq]
  exact decide_eq_true (by omega)
theorem lints_eqv (a b : List Int) : PyData.eqv (.list (a.map .int)) (.list (b.map .int)) = decide (a = b) := by
  simp only [PyData.eqv]
  exact ints_eqv a b
theorem joinC {c : TT} {σ : L2.St} {H : Hp} {Q : Bool → Hp → Prop} (R : Bool → Hp → Prop) (h : ∀ b G, R b G → Q b G) (hc : ∀ Q' : Bool → Hp → Prop, (∀ b G, R b G → Q' b G) → c σ H Q') : c σ H Q := hc Q h
theorem one_if {c : TT} {t e : L2.TS} {D : Ends} {σ : L2.St} {H : Hp} (h : c σ H fun b H1 => if b = true then t D σ H1 else e D σ H1) : tIfS c t e D σ H := h
theorem sm_st {ss : List Int} (h : ∀ z ∈ ss, 0 ≤ z ∧ z < 100) (hl : ss.length ≤ 6) : Sm 2 ((140 + 1) * 6) (stD ss) := Sm.tup (fun d hd => by
  obtain ⟨x, hx, rfl⟩ := List.mem_map.mp hd
  have := h x hx
  exact Sm.int (Nat.lt_of_le_of_lt (show x.natAbs ≤ 100 by omega) (by decide))) (by rw [List.length_map]; exact hl)
theorem st_flat (ss : List Int) : flatT (stD ss) = true := by
  have : flatTA (ss.map PyData.int) = true := flatTA_of fun d hd => by
    obtain ⟨x, _, rfl⟩ := List.mem_map.mp hd
    rfl
  simpa [stD, flatT] using this
/-- lots in a new list stand apart from the deck -/
theorem ev_hid {p l : Addr} {n : Nat} (hn : n ≤ 6) {G : Hp} (D : Deck G p l) {v : V} (h : Dq G v (.list ((allL n).map lotD))) : ∃ (a : Addr) (us : List V), v = .ref a ∧ hid p l G a = some (.lst us) ∧ DqA G us ((allL n).map lotD) := by
  cases h with
  | @lst a us _ e q =>
  obtain ⟨ds, st, h1, h2, h3⟩ := D.ex
  have hp : a ≠ p := ne_of e h1 (by intro z; cases z)
  have hl : a ≠ l := fun z => by
    subst z
    rw [e] at h2
    have e2 : us = ds.map V.int := by
      injection h2 with z
      injection z
    subst e2
    have h0 := all_head n (by omega)
    cases hA : allL n with
    | nil => rw [hA] at h0; cases h0
    | cons x r =>
      rw [hA] at q
      cases ds with
      | nil => cases q
      | cons y ds =>
        cases q with
        | cons h t =>
          unfold lotD at h
          cases h
  exact ⟨a, us, rfl, by rw [hid_ne hp hl]; exact e, q⟩
theorem prog_flat (ts : List Tm) : flatT (.tuple (ts.map tmD)) = true := by
  have := tms_flat ts
  rw [tmDs_map] at this
  simpa [flatT] using this
theorem tabs_eqv : ∀ a b : List (List Int), PyData.eqvAll (a.map entD) (b.map entD) = decide (a = b)
  | [], [] => by simp [PyData.eqvAll]
  | [], _ :: _ => by simp [PyData.eqvAll]
  | _ :: _, [] => by simp [PyData.eqvAll]
  | x :: a, y :: b => by
    simp only [List.map_cons, PyData.eqvAll, ent_eqv, tabs_eqv a b]
    rw [Bool.eq_iff_iff]
    simp
theorem tab_eqv (T U : List (List Int)) : PyData.eqv (tabD T) (tabD U) = decide (T = U) := by
  simp only [tabD, PyData.eqv]
  exact tabs_eqv T U
theorem st_shaped (ss : List Int) : SeqAt.shaped (entD ss) = true := by
  have h3 := dep_ints1 ss
  unfold SeqAt.shaped
  simp only [entD, PyData.canLay0, PyData.depth, lay_ints1 ss, Bool.true_and, decide_eq_true_eq]
  omega
/-- a program and its deeds -/
structure PM (n : Nat) (G : Hp) (v : V) (ts : List Tm) (ms : List Mv) : Prop where
  q : Dq G v (.tuple (ts.map tmD))
  ok : PrOk (Deed n) 400 5 ts
  mv : progW movM ts = ms
  de : ∀ m ∈ ms, Deed n m
theorem PM.upT {n : Nat} {G G' : Hp} {v : V} {ts : List Tm} {ms : List Mv} (h : PM n G v ts ms) (s : TS G G') : PM n G' v ts ms := ⟨Dq.upT s (prog_flat _) h.q, h.ok, h.mv, h.de⟩
/-- a list of deeds beside the deck -/
structure ML (n : Nat) (p l : Addr) (G : Hp) (a : Addr) (xs : List V) (ms : List Mv) : Prop where
  at_ : hid p l G a = some (.lst xs)
  q : DqA G xs (ms.map deedD)
  de : ∀ m ∈ ms, Deed n m
section
variable {n : Nat} {p l a : Addr} {G G' : Hp} {xs : List V} {ms : List Mv}
theorem ML.deck (h : ML n p l G a xs ms) (D : Deck G p l) (E : Ext p l G G') : ML n p l G' a xs ms := ⟨E _ _ h.at_, DqA.upT (TS.deck D E) (deeds_flat' _) h.q, h.de⟩
theorem ML.up (h : ML n p l G a xs ms) (s : Same G G') : ML n p l G' a xs ms := ⟨Ext.of s _ _ h.at_, h.q.up s, h.de⟩
theorem ML.lst (h : ML n p l G a xs ms) : G a = some (.lst xs) := hid_same p l _ _ _ h.at_
theorem ML.len (h : ML n p l G a xs ms) : xs.length = ms.length := by rw [h.q.len, List.length_map]
end
theorem progW_mem {α : Type} {M : Mea α} {ts : List Tm} (h : 0 < ts.length) : progW M ts ∈ wsAll M ts [] := by
  have hl : (wsAll M ts []).length = ts.length := by rw [wsAll_len]; show 0 + _ = _; omega
  unfold progW
  rw [List.getLastD_eq_getLast?, List.getLast?_eq_getElem?, List.getElem?_eq_getElem (by omega)]
  exact List.getElem_mem _
theorem ws_pre {α : Type} {M : Mea α} {a : α} : ∀ (ts : List Tm) (ws : List α), a ∈ ws → a ∈ wsAll M ts ws
  | [], _, h => h
  | _ :: ts, _, h => ws_pre ts _ (List.mem_append_left _ h)
theorem law_prog {n : Nat} (hn : n ≤ 6) {ts : List Tm} {most : Nat} (h : PrOk (Deed n) 10 4 ts) (hk : ∀ t ∈ ts, timK 3 t) (hc : ∀ a ∈ wsAll cntM ts [], a ≤ most) (hm : most ≤ 120) :
    PrOk (Deed n) 400 5 ts ∧ (∀ (i : Nat) t, ts[i]? = some t → fewM (wsAll movM (ts.take i) []) t) ∧ (progW movM ts).length ≤ most ∧ ∀ m ∈ progW movM ts, Deed n m := by
  have hp' : PrOk (fun _ => True) 10 4 ts := h.mono (fun _ _ => trivial) (Nat.le_refl _) (Nat.le_refl _)
  have hmov : ∀ a ∈ wsAll movM ts [], a.length ≤ most := fun a ha => by
    have e := RelM.wsAll rel_cnt hp' ts.length (Nat.le_refl _)
    rw [List.take_length] at e
    exact rel_bound e hc a ha
  refine ⟨h.mono (fun _ h => h) (by decide) (by decide), fun i t ht => ?_, hmov _ (progW_mem h.ne), (RelM.progW (rel_tab hn) h).2⟩
  obtain ⟨a, b⟩ := h.tm i t ht
  refine few_of (fun a ha => ?_) t a (hk t (List.mem_of_getElem? ht)) b
  refine Nat.le_trans (hmov a ?_) hm
  rw [← List.take_append_drop i ts, wsAll_app]
  exact ws_pre _ _ ha
theorem PrOk.snoc {D : Mv → Prop} {r n : Nat} {p : List Tm} {t : Tm} (h : PrOk D r n p) (ht : okTm D r p.length t) (hd : dep t ≤ n) (hl : p.length < 400) : PrOk D r n (p ++ [t]) := by
  refine ⟨by rw [List.length_append]; have := h.ne; omega, by rw [List.length_append]; show _ + 1 ≤ _; omega, fun i u hu => ?_⟩
  rcases Nat.lt_trichotomy i p.length with c | c | c
  · rw [List.getElem?_append_left c] at hu
    exact h.tm i u hu
  · subst c
    rw [List.getElem?_append_right (Nat.le_refl _), Nat.sub_self] at hu
    cases Option.some.inj hu
    exact ⟨ht, hd⟩
  · rw [List.getElem?_eq_none (by rw [List.length_append]; show _ + 1 ≤ _; omega)] at hu
    cases hu
theorem two_more {ts : List Tm} (h : 0 < ts.length) (m k : Mv) : progW movM (ts ++ [.row [.part (ts.length - 1), .doo m, .doo k]]) = progW movM ts ++ [m, k] := by
  have hal : (wsAll movM ts []).length = ts.length := by rw [wsAll_len]; show 0 + _ = _; omega
  have e : (wsAll movM ts []).getD (ts.length - 1) [] = progW movM ts := by
    unfold progW
    rw [List.getLastD_eq_getLast?, List.getLast?_eq_getElem?, hal, List.getD_eq_getElem?_getD]
    rfl
  have e2 : progW movM (ts ++ [.row [.part (ts.length - 1), .doo m, .doo k]]) = worth movM (wsAll movM ts []) (.row [.part (ts.length - 1), .doo m, .doo k]) := by
    unfold progW
    rw [wsAll_app]
    show (wsAll movM ts [] ++ [_]).getLastD _ = _
    rw [List.getLastD_eq_getLast?, List.getLast?_append]
    rfl
  rw [e2]
  simp only [worth, worthL]
  show [(wsAll movM ts []).getD (ts.length - 1) [], [m], [k]].flatten = _
  rw [e]
  simp
/-- what stays -/
structure A18 (n : Nat) (p l : Addr) (pv : V) (ts : List Tm) (mo : Addr) (xs : List V) (ms : List Mv) (v2 : V) (ts2 : List Tm) (ms2 : List Mv) (t1 t2 : V) (G : Hp) : Prop where
  D : Deck G p l
  P : PM n G pv ts ms
  M : ML n p l G mo xs ms
  S : PM n G v2 ts2 ms2
  q1 : Dq G t1 (tabD (madeT n ms))
  q2 : Dq G t2 (tabD (madeT n ms2))
section
variable {n : Nat} {p l mo : Addr} {pv v2 t1 t2 : V} {ts ts2 : List Tm} {xs : List V} {ms ms2 : List Mv} {G G' : Hp}
theorem A18.deck (h : A18 n p l pv ts mo xs ms v2 ts2 ms2 t1 t2 G) (D : Deck G' p l) (E : Ext p l G G') : A18 n p l pv ts mo xs ms v2 ts2 ms2 t1 t2 G' :=
  ⟨D, h.P.upT (TS.deck h.D E), h.M.deck h.D E, h.S.upT (TS.deck h.D E), Dq.upT (TS.deck h.D E) (tab_flat _) h.q1, Dq.upT (TS.deck h.D E) (tab_flat _) h.q2⟩
theorem A18.up (h : A18 n p l pv ts mo xs ms v2 ts2 ms2 t1 t2 G) (s : Same G G') : A18 n p l pv ts mo xs ms v2 ts2 ms2 t1 t2 G' := h.deck (h.D.up s) (Ext.of s)
theorem hid_mut {U a : Addr} {o x : HO} (h : hid p l G a = some x) (n : a ≠ U) : hid p l (upd G U o) a = some x := by
  obtain ⟨h1, h2, h3⟩ := hid_some h
  rw [hid_ne h1 h2, upd_ne n]
  exact h3
theorem A18.mut (h : A18 n p l pv ts mo xs ms v2 ts2 ms2 t1 t2 G) {U : Addr} {zs ws : List V} (hU : hid p l G U = some (.lst zs)) (nm : mo ≠ U) : A18 n p l pv ts mo xs ms v2 ts2 ms2 t1 t2 (upd G U (.lst ws)) := by
  obtain ⟨h1, h2, h3⟩ := hid_some hU
  have ts := TS.lst (ys := ws) h3
  exact ⟨h.D.mut h1 h2, h.P.upT ts, ⟨hid_mut h.M.at_ nm, DqA.upT ts (deeds_flat' _) h.M.q, h.M.de⟩, h.S.upT ts, Dq.upT ts (tab_flat _) h.q1, Dq.upT ts (tab_flat _) h.q2⟩
end
/-- the numbers of entries that differ -/
def numsU (T U : List (List Int)) (j : Nat) : List Int := ((List.range j).filter fun x => !decide (T.getD x [] = U.getD x [])).map fun (x : Nat) => (x : Int)
theorem nums_same {T U : List (List Int)} {j : Nat} (h : T.getD j [] = U.getD j []) : numsU T U (j + 1) = numsU T U j := by
  unfold numsU
  rw [List.range_succ, List.filter_append, List.filter_cons, decide_eq_true h]
  simp
theorem nums_more {T U : List (List Int)} {j : Nat} (h : T.getD j [] ≠ U.getD j []) : numsU T U (j + 1) = numsU T U j ++ [(j : Int)] := by
  unfold numsU
  rw [List.range_succ, List.filter_append, List.filter_cons, decide_eq_false h, List.map_append]
  simp
theorem nums_len (T U : List (List Int)) (j : Nat) : (numsU T U j).length ≤ j := by
  unfold numsU
  rw [List.length_map]
  refine Nat.le_trans (List.length_filter_le _ _) ?_
  rw [List.length_range]
  exact Nat.le_refl _
theorem nums_nil {T U : List (List Int)} {k : Nat} (h1 : T.length = k) (h2 : U.length = k) : decide (T = U) = ((numsU T U k).map V.int).isEmpty := by
  rw [Bool.eq_iff_iff, decide_eq_true_iff, List.isEmpty_iff]
  unfold numsU
  rw [List.map_eq_nil_iff, List.map_eq_nil_iff, List.filter_eq_nil_iff]
  constructor
  · rintro rfl x _
    simp
  · intro h
    refine List.ext_getElem (h1.trans h2.symm) fun i a b => ?_
    have := h i (List.mem_range.mpr (by omega))
    simp only [Bool.not_eq_true', decide_eq_false_iff_not, Classical.not_not] at this
    rw [List.getD_eq_getElem?_getD, List.getD_eq_getElem?_getD, List.getElem?_eq_getElem a, List.getElem?_eq_getElem b] at this
    exact this
local macro_rules | `(tactic| walk_at "bq") => `(tactic| repeat' (first | with_reducible refine bqa_nil ?_ | with_reducible refine bqa_cons ?_ | with_reducible refine bq_tup1 ?_ | with_reducible refine bq_tup2 ?_ | with_reducible refine bq_tup3 ?_ | with_reducible refine bq_str ?_ | with_reducible refine bq_c ?_ | with_reducible refine bn_c ?_ | with_reducible refine bn_op ?_))
section
variable {P : Program} {w : World} {K : PySem.W.Frag} {mg : Str → Option Value} {base : Heap}
abbrev n_Law : List Str := ["script", "box", "turn", "n", "most", "program", "moves", "way", "further", "one", "other", "last", "second", "unlike", "number", "keys", "standing", "told", "due"]
theorem sc_Law : FnScope n_Law ["script"] (defScope sLaw) := ⟨rfl, rfl, rfl, by decide +kernel, rfl, by decide +kernel, by decide +kernel⟩
theorem ok_law {f : Addr} {fd : FuncData} (F : Fun K "law" "law" sLaw f fd) (B : Bi mg) {CT : Addr} (dk : Ok P w K mg base 1 "_law_box" ["script"] (spDeck K)) (dr : Ok P w K mg base 1 "_law_draw" ["box", "many"] spDraw) (pk : Ok P w K mg base 2 "_law_pick" ["box", "items"] spPick) (pr : Ok P w K mg base 8 "_law_program" ["box", "n", "most"] spProgP) (am : Ok P w K mg base 6 "_law_all_moves" ["program"] spAllMoves) (to : OkN P w K mg base 15 "table_of" ["n", "program"] ["program", "n"] (spTableOf 5)) (ev : Ok P w K mg base 1 "_law_every" ["n"] spEvery) (st : Ok P w K mg base 2 "_law_standing" ["box", "n", "keys"] spStandP) (th : Ok P w K mg base 1 "_law_through" ["standing", "moves"] spThrough) (ru : OkN P w K mg base 8 "run" ["n", "program", "standing"] ["standing", "program", "n"] (calmSp (spRun CT 5))) (ap : Ok P w K mg base 3 "_law_apart" ["box", "n"] spApart) (sr : Ok P w K mg base 2 "_law_stirred" ["box", "moves"] spStirred) (sp : Ok P w K mg base 4 "_law_spoilt" ["box", "n", "moves"] spSpoilt) (ds : Ok P w K mg base 4 "_law_dressed" ["box", "n", "moves"] spDressed) : FnG P w K mg base CX0 20 f fd ["script"] (spLaw K) := by
  refine okG F sc_Law (fun vs H Q E h => ?_) (fun cdv A outer s H vs Q E hg hr h => ?_)
  · obtain ⟨_, _, rfl, _⟩ := h
    rfl
  · obtain ⟨sa, ns, rfl, hS, hlen, q⟩ := h
    have hr_dk := hr.mono (show 1 ≤ 19 by omega)
    have hr_dr := hr.mono (show 1 ≤ 19 by omega)
    have hr_pk := hr.mono (show 2 ≤ 19 by omega)
    have hr_pr := hr.mono (show 8 ≤ 19 by omega)
    have hr_am := hr.mono (show 6 ≤ 19 by omega)
    have hr_to := hr.mono (show 15 ≤ 19 by omega)
    have hr_ev := hr.mono (show 1 ≤ 19 by omega)
    have hr_st := hr.mono (show 2 ≤ 19 by omega)
    have hr_th := hr.mono (show 1 ≤ 19 by omega)
    have hr_ru := hr.mono (show 8 ≤ 19 by omega)
    have hr_ap := hr.mono (show 3 ≤ 19 by omega)
    have hr_sr := hr.mono (show 2 ≤ 19 by omega)
    have hr_sp := hr.mono (show 4 ≤ 19 by omega)
    have hr_ds := hr.mono (show 4 ≤ 19 by omega)
    have hu : (cxOf CX0 P w K mg base n_Law "law" (defScope sLaw) f cdv A outer s H E).A.units + 64 < cLine := hr.units
    have hu1 := hu_of hr
    have cr := call_repr (X := (cxOf CX0 P w K mg base n_Law "law" (defScope sLaw) f cdv A outer s H E).nox) hg hr.units
    refine ⟨_, pss_cons (ps_set (i := 1) sc_Law.nd rfl (.inl rfl) (pe_fn dk hr_dk (by rfl) (pa_cons (pv 0) pa_nil)))
      (pss_cons (ps_for PassesOwn.never rfl (pi_range1 (by rfl) B.range (pa_cons pe_int pa_nil)) (pg_name (i := 2) sc_Law.nd rfl (.inl rfl))
        (pss_cons (ps_set (i := 3) sc_Law.nd rfl (.inl rfl) (pe_ifExp (pt_cmpR op_eq (pv 2) pe_int (nomark _)) (pe_fn pk hr_pk (by rfl) (pa_cons (pv 1) (pa_cons (pe_lst (pa_cons pe_int (pa_cons pe_int (pa_cons pe_int (pa_cons pe_int (pa_cons pe_int (pa_cons pe_int (pa_cons pe_int (pa_cons pe_int pa_nil))))))))) pa_nil))) (pe_op op_add pe_int (pe_fn dr hr_dr (by rfl) (pa_cons (pv 1) (pa_cons pe_int pa_nil))))))
        (pss_cons (ps_set (i := 4) sc_Law.nd rfl (.inl rfl) (pe_ix ix_list (pe_lst (pa_cons pe_int (pa_cons pe_int (pa_cons pe_int (pa_cons pe_int pa_nil))))) (pe_op op_sub (pv 3) pe_int) (fun _ _ => rfl)))
        (pss_cons (ps_set (i := 5) sc_Law.nd rfl (.inl rfl) (pe_fn pr hr_pr (by rfl) (pa_cons (pv 1) (pa_cons (pv 3) (pa_cons (pv 4) pa_nil)))))
        (pss_cons (ps_par (i := 6) (j := 7) rfl sc_Law.nd rfl rfl (by decide) rfl rfl (pa_cons (pe_fn am hr_am (by rfl) (pa_cons (pv 5) pa_nil)) (pa_cons (pe_fn dr hr_dr (by rfl) (pa_cons (pv 1) (pa_cons pe_int pa_nil))) pa_nil)) (by rfl))
        (pss_cons (ps_set (i := 8) sc_Law.nd rfl (.inl rfl) (pv 6))
        (pss_cons (ps_if (pt_cmpR op_gt (pv 3) pe_int (nomark _)) (pss_cons (ps_asg (pe_fn ap hr_ap (by rfl) (pa_cons (pv 1) (pa_cons (pv 3) pa_nil))) (pg_tup rfl (pgs_cons (pg_name (i := 9) sc_Law.nd rfl (.inr rfl)) (pgs_cons (pg_name (i := 10) sc_Law.nd rfl (.inr rfl)) pgs_nil))))
          (pss_cons (ps_set (i := 11) sc_Law.nd rfl (.inl rfl) (pe_tup (pa_cons pe_str (pa_cons (pe_tup (pa_cons (pe_tup (pa_cons pe_str (pa_cons (pe_op op_sub (pe_callB call_len_seq (by rfl) B.len boot_len (pa_cons (pv 5) pa_nil)) pe_int) pa_nil))) (pa_cons (pe_tup (pa_cons pe_str (pa_cons (pv 9) pa_nil))) (pa_cons (pe_tup (pa_cons pe_str (pa_cons (pv 10) pa_nil))) pa_nil)))) pa_nil))))
          (pss_one (ps_par3 (i := 5) (j := 8) (l := 6) rfl sc_Law.nd rfl rfl rfl (by decide) (by decide) (by decide) rfl rfl rfl (pa_cons (pe_op op_catA (pv 5) (pe_tup (pa_cons (pv 11) pa_nil))) (pa_cons (pe_op op_cat (pv 6) (pe_lst (pa_cons (pv 10) (pa_cons (pv 9) pa_nil)))) (pa_cons (pe_op op_cat (pv 6) (pe_lst (pa_cons (pv 9) (pa_cons (pv 10) pa_nil)))) pa_nil))) (by rfl))))) pss_nil)
        (pss_cons (ps_set (i := 8) sc_Law.nd rfl (.inl rfl) (pe_fn sr hr_sr (by rfl) (pa_cons (pv 1) (pa_cons (pv 8) pa_nil))))
        (pss_cons (ps_if (pt_cmpR op_eq (pv 7) pe_int (nomark _)) (pss_one (ps_set (i := 8) sc_Law.nd rfl (.inl rfl) (pe_fn sp hr_sp (by rfl) (pa_cons (pv 1) (pa_cons (pv 3) (pa_cons (pv 8) pa_nil)))))) pss_nil)
        (pss_cons (ps_set (i := 12) sc_Law.nd rfl (.inl rfl) (pe_ifExp (pt_cmpR op_lt (pv 7) pe_int (nomark _)) (pe_fn ds hr_ds (by rfl) (pa_cons (pv 1) (pa_cons (pv 3) (pa_cons (pv 8) pa_nil)))) (pe_fn pr hr_pr (by rfl) (pa_cons (pv 1) (pa_cons (pv 3) (pa_cons (pv 4) pa_nil))))))
        (pss_cons (ps_asg (pe_tup (pa_cons (pe_fn to.ok hr_to (by rfl) (pa_cons (pv 3) (pa_cons (pv 5) pa_nil))) (pa_cons (pe_fnN to hr_to (by rfl) (pk_cons (pv 12) (pk_cons (pv 3) pk_nil))) pa_nil))) (pg_tup rfl (pgs_cons (pg_name (i := 9) sc_Law.nd rfl (.inr rfl)) (pgs_cons (pg_name (i := 10) sc_Law.nd rfl (.inr rfl)) pgs_nil))))
        (pss_cons (ps_set (i := 13) sc_Law.nd rfl (.inl rfl) (pe_lst pa_nil))
        (pss_cons (ps_for PassesOwn.never rfl (pi_enum (by rfl) B.enumerate (pa_cons (pe_fn ev hr_ev (by rfl) (pa_cons (pv 3) pa_nil)) pa_nil)) (pg_tup rfl (pgs_cons (pg_name (i := 14) sc_Law.nd rfl (.inl rfl)) (pgs_cons (pg_name (i := 15) sc_Law.nd rfl (.inl rfl)) pgs_nil)))
          (pss_cons (ps_set (i := 16) sc_Law.nd rfl (.inl rfl) (pe_fn st hr_st (by rfl) (pa_cons (pv 1) (pa_cons (pv 3) (pa_cons (pv 15) pa_nil)))))
          (pss_cons (ps_set (i := 17) sc_Law.nd rfl (.inl rfl) (pe_lst (pa_cons (pe_fn ru.ok hr_ru (by rfl) (pa_cons (pv 3) (pa_cons (pv 5) (pa_cons (pv 16) pa_nil)))) (pa_cons (pe_fnN ru hr_ru (by rfl) (pk_cons (pv 16) (pk_cons (pv 12) (pk_cons (pv 3) pk_nil)))) pa_nil))))
          (pss_cons (ps_set (i := 18) sc_Law.nd rfl (.inl rfl) (pe_lst (pa_cons (pe_fn th hr_th (by rfl) (pa_cons (pv 16) (pa_cons (pv 6) pa_nil))) (pa_cons (pe_fn th hr_th (by rfl) (pa_cons (pv 16) (pa_cons (pe_fn am hr_am (by rfl) (pa_cons (pv 12) pa_nil)) pa_nil))) pa_nil))))
          (pss_cons (ps_if (pt_cmpR op_ne (pe_callB cr (by rfl) B.repr (by decide +kernel) (pa_cons (pv 17) pa_nil)) (pe_callB cr (by rfl) B.repr (by decide +kernel) (pa_cons (pv 18) pa_nil)) (nomark _)) (pss_one (ps_ret pe_bl)) pss_nil)
          (pss_one (ps_if (pt_cmpR (op_neD hu) (pe_ix ix_list (pv 17) pe_int (fun _ _ => rfl)) (pe_ix ix_list (pv 17) pe_int (fun _ _ => rfl)) (nomark _)) (pss_one (ps_expr (pe_bm PySem.F.plainAttrs_list PySem.F.slot_list_append PySem.F.type_list_append mt_append (pv 13) (pa_cons (pv 14) pa_nil)))) pss_nil)))))))
        (pss_cons (ps_if (pt_cmpR (op_neD hu) (pe_lc (own := [("number", 14)]) (g := gName 14) rfl sc_Law.nd (pi_range1 (by rfl) B.range (pa_cons (pe_callB call_len_seq (by rfl) B.len boot_len (pa_cons (pv 9) pa_nil)) pa_nil)) (blkOk_by (own := [("number", 14)]) (N := n_Law) (sc := defScope sLaw) (by decide +kernel)) (fun _ _ _ _ _ => pg_name (i := 14) sc_Law.nd rfl (.inl rfl)) (fun _ _ _ _ _ => pts_one (pt_cmpR (r := rNeD K) (op_neD (by exact hu)) (pe_ix (r := rIxT K) ix_tup (pv 9) (pv 14) (fun _ _ => rfl)) (pe_ix (r := rIxT K) ix_tup (pv 10) (pv 14) (fun _ _ => rfl)) (nomark _))) (fun _ _ _ _ _ => (pv 14))) (pv 13) (nomark _)) (pss_one (ps_ret pe_bl)) pss_nil)
        (pss_one (ps_if (PW.pt (pw_or (pt_cmpR op_ne (pe_cmpR (op_eqD hu) (pv 9) (pv 10) (nomark _)) (pe_cmpR (op_eqN hu) (pv 13) (pe_lst pa_nil) (nomark _)) (nomark _)) (pw_or1 (PW.pt (pw_and (pt_cmpR op_eq (pv 7) pe_int (nomark _)) (pw_and1 (pt_cmpR (op_neN hu) (pv 13) (pe_lst pa_nil) (nomark _)))))))) (pss_one (ps_ret pe_bl)) pss_nil))))))))))))))))
      (pss_one (ps_ret pe_bl))), ?_⟩
    refine ⟨.ref sa, rfl, sa, ns, rfl, hS, Nat.le_trans hlen (by decide), fun H1 p l s1 np nl D1 => ?_⟩
    dsimp only [tNext]
    refine ⟨2, rfl, by decide, by decide, for_it (walk_rg (n := 2)) (fun i σ G => ∃ v2 v3 v4 v5 v6 v7 v8 v9 v10 v11 v12 v13 v14 v15 v16 v17 v18, σ = [some (.ref sa), some (.ref p), v2, v3, v4, v5, v6, v7, v8, v9, v10, v11, v12, v13, v14, v15, v16, v17, v18] ∧ Deck G p l) ⟨_, _, _, _, _, _, _, _, _, _, _, _, _, _, _, _, _, rfl, D1⟩ (fun _ _ _ _ _ => trivial) ?_ ?_⟩
    rotate_left
    · rintro σ G ⟨v2, v3, v4, v5, v6, v7, v8, v9, v10, v11, v12, v13, v14, v15, v16, v17, v18, rfl, DG⟩
      exact q _
    rintro i x σ _ G hi ⟨v2, v3, v4, v5, v6, v7, v8, v9, v10, v11, v12, v13, v14, v15, v16, v17, v18, rfl, DG⟩ ⟨rfl, rfl⟩
    refine sq_asg ⟨.int (i : Int), rfl, rfl, _, rfl, ifE_join (R := fun v G => ∃ n : Nat, v = .int n ∧ 3 ≤ n ∧ n ≤ 6 ∧ Deck G p l) ?_ (fun _ Q' k => ?_) (fun _ Q' k => ?_)⟩
    rotate_left
    · refine bn_at (F := frD p l) (N := fun x => 3 ≤ x ∧ x ≤ 6) (bn_pick (m := 7) rfl ?_) DG fun G' x D' _ hx => k _ _ ⟨x.toNat, by rw [Int.toNat_of_nonneg (by omega)], by omega, by omega, D'⟩
      walk_at "bq"
      intro d hd
      simp only [List.mem_cons, List.not_mem_nil, or_false] at hd
      rcases hd with rfl | rfl | rfl | rfl | rfl | rfl | rfl | rfl <;> exact ⟨_, rfl, by decide, by decide⟩
    · exact bn_at (F := frD p l) (N := fun x => 3 ≤ x ∧ x ≤ 6) (bn_op (bn_c (bn_draw rfl (bn_c ⟨by decide, by decide, fun r h0 h1 => ⟨by omega, by omega⟩⟩)))) DG fun G' x D' _ hx => k _ _ ⟨x.toNat, by rw [Int.toNat_of_nonneg (by omega)], by omega, by omega, D'⟩
    rintro v G0 ⟨n, rfl, n0, n1, D0⟩
    clear DG
    obtain ⟨mst, hmst, m0, m1⟩ : ∃ m : Nat, atI [V.int 60, V.int 40, V.int 14, V.int 8] ((n : Int) - 3) = some (.int (m : Int)) ∧ 1 ≤ m ∧ m ≤ 60 := by
      have : n = 3 ∨ n = 4 ∨ n = 5 ∨ n = 6 := by omega
      rcases this with rfl | rfl | rfl | rfl
      · exact ⟨60, rfl, by decide, by decide⟩
      · exact ⟨40, rfl, by decide, by decide⟩
      · exact ⟨14, rfl, by decide, by decide⟩
      · exact ⟨8, rfl, by decide, by decide⟩
    refine sq_asg ⟨by show 4 ≤ sizeLine; decide, fun L nL => ⟨.int (n : Int), rfl, _, _, rfl, rfl, L, _, (n : Int) - 3, _, rfl, rfl, SqL.of upd_same, hmst, ?_⟩⟩
    refine sq_asg ⟨.ref p, rfl, .int (n : Int), rfl, .int (mst : Int), rfl, p, l, n, mst, rfl, D0.up (same_new nL), n0, n1, m0, by omega, fun G1 pv ts D1 E1 hv hp htk hcn hl6 => ?_⟩
    clear E1 nL D0
    obtain ⟨f1, f2, f3, f4⟩ := law_prog n1 hp htk hcn (by omega)
    have P1 : PM n G1 pv ts (progW movM ts) := ⟨hv, f1, rfl, f4⟩
    have hfw : ∀ (i : Nat) t, ts[i]? = some t → fewM (wsAll movM (ts.take i) []) t := f2
    generalize hms : progW movM ts = ms at P1 f3 f4
    clear hv hcn htk hp f1
    refine ⟨pv, rfl, pv, ts, rfl, P1.q, P1.ok.mono (fun _ _ => trivial) (Nat.le_refl _) (Nat.le_refl _), hfw, fun G2 mo xs s2 nmo hmo hxs => ?_⟩
    rw [hms] at hxs
    obtain ⟨nmp, nml⟩ := D1.new nmo
    have M2 : ML n p l G2 mo xs ms := ⟨by rw [hid_ne nmp nml]; exact hmo, hxs, f4⟩
    have P2 := P1.upT (TS.of s2)
    have D2 := D1.up s2
    clear D1 P1 s2 nmo hmo hxs nmp nml f4 f2 hfw
    refine ⟨.ref p, rfl, p, l, 3, rfl, D2, by decide, by decide, fun G3 wy D3 E3 w0 w1 => ⟨_, _, rfl, ?_⟩⟩
    obtain ⟨wy, rfl⟩ : ∃ k : Nat, wy = (k : Int) := ⟨wy.toNat, by omega⟩
    have P3 := P2.upT (TS.deck D2 E3)
    have M3 := M2.deck D2 E3
    clear D2 P2 M2 E3 w0
    dsimp only
    refine sq_asg ?_
    refine ⟨.ref mo, rfl, ?_⟩
    refine sq_if ?_
    refine ⟨.int (n : Int), rfl, _, _, rfl, rfl, _, rfl, ?_⟩
    refine ifS_join (R := fun σ G => ∃ (pv : V) (mo fo : Addr) (ts : List Tm) (xs ys : List V) (ms ks : List Mv) (v9 v10 v11 : Option V), σ = [some (.ref sa), some (.ref p), some (.int (i : Int)), some (.int (n : Int)), some (.int (mst : Int)), some pv, some (.ref mo), some (.int (wy : Int)), some (.ref fo), v9, v10, v11, v12, v13, v14, v15, v16, v17, v18] ∧ Deck G p l ∧ PM n G pv ts ms ∧ ML n p l G mo xs ms ∧ ML n p l G fo ys ks ∧ Sim n ks ms ∧ ms.length ≤ 62 ∧ ks.length ≤ 62) ?_ (fun c D' kD => ?_) (fun _ D' kD => kD _ _ ⟨pv, mo, mo, ts, xs, xs, ms, ms, _, _, _, rfl, D3, P3, M3, M3, Sim.refl, by omega, by omega⟩)
    rotate_left
    · have c : (3 : Int) < ((n : Nat) : Int) := of_decide_eq_true c
      refine ⟨.ref p, rfl, .int (n : Int), rfl, p, l, n, rfl, D3, by omega, n1, fun G4 ra b c' m k D4 E4 hra hb hc hm hk off => ⟨ra, _, rfl, SqT.of hra, rfl, b, [c'], rfl, c', [], rfl, rfl, ?_⟩⟩
      have P4 := P3.upT (TS.deck D3 E4)
      have M4 := M3.deck D3 E4
      clear D3 P3 M3 E4 hra
      obtain ⟨pa, us, rfl, hpa, qu⟩ := P4.q.tup_inv
      have hpul : us.length = ts.length := by rw [qu.len, List.length_map]
      have hne := P4.ok.ne
      have hlt : ts.length ≤ 6 := hl6
      dsimp only
      refine sq_asg (bq_at (F := frD p l) (H := G4) (R := fun d => d = tmD (.row [.part (ts.length - 1), .doo m, .doo k])) ?_ D4 fun G5 rv d D5 E5 q5 f5 h5 => ?_)
      · walk_at "bq"
        refine bq_int (bn_op (N := fun x => x = ((ts.length - 1 : Nat) : Int)) (fun GA a b Q q => ⟨.ref pa, rfl, pa, us, rfl, .inr (SqT.of (TS.deck D4 b _ _ hpa)), q GA _ a (frD p l).refl (bn_c (by omega))⟩)) fun x hx => ?_
        walk_at "bq"
        refine bq_var D4 rfl hb (deed_flat _) ?_
        walk_at "bq"
        refine bq_var D4 rfl hc (deed_flat _) ?_
        walk_at "bq"
        rw [hx]
        simp only [tmD, tmDs]
      subst h5
      have D5 : Deck G5 p l := D5
      have E5 : Ext p l G4 G5 := E5
      have P5 := P4.upT (TS.deck D4 E5)
      have M5 := M4.deck D4 E5
      have hpa5 := TS.deck D4 E5 _ _ hpa
      have hb5 := Dq.upT (TS.deck D4 E5) (deed_flat _) hb
      have hc5 := Dq.upT (TS.deck D4 E5) (deed_flat _) hc
      have qu5 := DqA.upT (TS.deck D4 E5) (tms_flatM _) qu
      clear D4 P4 M4 hpa hb hc qu E5
      have hx := M5.len
      refine ⟨.ref pa, rfl, rv, rfl, by show 1 ≤ sizeLine; decide, fun t1 nt1 => ?_⟩
      have y1 := same_new (o := .tup [rv]) nt1
      refine catA_k (y1 _ _ hpa5) upd_same (by rw [hpul]; show _ + 1 ≤ _; omega) fun pv2 G6 s6 hpv2 => ?_
      have y16 := y1.trans s6
      have D6 := D5.up y16
      have M6 := M5.up y16
      have P6 : PM n G6 (.ref pv2) (ts ++ [.row [.part (ts.length - 1), .doo m, .doo k]]) (ms ++ [m, k]) := ⟨by
        rw [List.map_append]
        exact .tup hpv2 ((qu5.up y16).app (.one (q5.up y16))), P5.ok.snoc (by
        simp only [okTm, okTms]
        exact ⟨by simp, by omega, hm, hk, trivial⟩) (by simp only [dep, depL]; omega) (by omega), by rw [two_more hne, P5.mv], fun x hx => by
        rcases List.mem_append.mp hx with h | h
        · exact P5.de x h
        · simp only [List.mem_cons, List.not_mem_nil, or_false] at h
          rcases h with rfl | rfl
          · exact hm
          · exact hk⟩
      have hb6 := hb5.up y16
      have hc6 := hc5.up y16
      clear y1 y16 s6 hpv2 P5 M5 D5 hpa5 q5 qu5 hb5 hc5 nt1
      refine ⟨.ref mo, rfl, c', rfl, b, rfl, by show 2 ≤ sizeLine; decide, fun l1 nl1 => ?_⟩
      have z1 := same_new (o := .lst [c', b]) nl1
      refine ⟨mo, l1, xs, [c', b], rfl, rfl, z1 _ _ M6.lst, upd_same, sz (by show _ + 2 ≤ _; omega), fun fo nfo => ?_⟩
      have z2 := same_new (o := .lst (xs ++ [c', b])) nfo
      have z12 := z1.trans z2
      have F7 : ML n p l _ fo (xs ++ [c', b]) (ms ++ [k, m]) := ⟨hid_upd ((D6.up z1).new nfo).1 ((D6.up z1).new nfo).2, by
        rw [List.map_append]
        exact (M6.q.up z12).app (.cons (hc6.up z12) (.cons (hb6.up z12) .nil)), fun x hx => by
        rcases List.mem_append.mp hx with h | h
        · exact M6.de x h
        · simp only [List.mem_cons, List.not_mem_nil, or_false] at h
          rcases h with rfl | rfl
          · exact hk
          · exact hm⟩
      generalize upd (upd G6 l1 (.lst [c', b])) fo (.lst (xs ++ [c', b])) = G7 at z12 F7
      have M7 := M6.up z12
      have D7 := D6.up z12
      have P7 := P6.upT (TS.of z12)
      have hb7 := hb6.up z12
      have hc7 := hc6.up z12
      clear z1 z2 z12 nl1 nfo M6 D6 P6 hb6 hc6
      refine ⟨.ref mo, rfl, b, rfl, c', rfl, by show 2 ≤ sizeLine; decide, fun l2 nl2 => ?_⟩
      have z1 := same_new (o := .lst [b, c']) nl2
      refine ⟨mo, l2, xs, [b, c'], rfl, rfl, z1 _ _ M7.lst, upd_same, sz (by show _ + 2 ≤ _; omega), fun m2 nm2 => ⟨_, _, _, rfl, ?_⟩⟩
      have z2 := same_new (o := .lst (xs ++ [b, c'])) nm2
      have z12 := z1.trans z2
      have M8 : ML n p l _ m2 (xs ++ [b, c']) (ms ++ [m, k]) := ⟨hid_upd ((D7.up z1).new nm2).1 ((D7.up z1).new nm2).2, by
        rw [List.map_append]
        exact (M7.q.up z12).app (.cons (hb7.up z12) (.cons (hc7.up z12) .nil)), P7.de⟩
      exact kD _ _ ⟨_, _, _, _, _, _, _, _, _, _, _, rfl, D7.up z12, P7.upT (TS.of z12), M8, F7.up z12, Sim.refl.app (sim_swap hm hk off).symm, by rw [List.length_append]; show _ + 2 ≤ _; omega, by rw [List.length_append]; show _ + 2 ≤ _; omega⟩
    clear D3 P3 M3 hms f3 hl6
    rintro σ G4 ⟨pv, mo, fo, ts, xs, ys, ms, ks, v9, v10, v11, rfl, D4, P4, M4, F4, hsim, hml, hkl⟩
    dsimp only
    refine sq_asg ?_
    refine ⟨.ref p, rfl, .ref fo, rfl, p, l, n, fo, ys, ks, rfl, D4, F4.at_, F4.q, F4.de, n1, by omega, fun G5 r zs ks2 D5 E5 h1 h2 h3 h4 h5 => ?_⟩
    have P5 := P4.upT (TS.deck D4 E5)
    have M5 := M4.deck D4 E5
    have F5 : ML n p l G5 r zs ks2 := ⟨h1, h2, h3⟩
    have hsim2 := h5.trans hsim
    clear D4 P4 M4 F4 hsim h1 h2 h3 h5 E5
    refine sq_if ?_
    refine ⟨.int (wy : Int), rfl, rfl, _, rfl, ?_⟩
    refine ifS_join (R := fun σ G => ∃ (fo : Addr) (ys : List V) (ks : List Mv), σ = [some (.ref sa), some (.ref p), some (.int (i : Int)), some (.int (n : Int)), some (.int (mst : Int)), some pv, some (.ref mo), some (.int (wy : Int)), some (.ref fo), v9, v10, v11, v12, v13, v14, v15, v16, v17, v18] ∧ Deck G p l ∧ PM n G pv ts ms ∧ ML n p l G mo xs ms ∧ ML n p l G fo ys ks ∧ (wy = 0 → Sim n ks ms) ∧ ks.length ≤ 63) ?_ (fun c D' kD => ?_) (fun _ D' kD => kD _ _ ⟨r, zs, ks2, rfl, D5, P5, M5, F5, fun _ => hsim2, by omega⟩)
    rotate_left
    · have hw : wy = 1 := by have := V.int.inj (of_decide_eq_true c); omega
      refine one_asg ⟨.ref p, rfl, .int (n : Int), rfl, .ref r, rfl, p, l, n, r, zs, ks2, rfl, D5, n0, n1, F5.at_, F5.q, F5.de, by omega, fun G6 r2 ys2 ks3 D6 E6 a1 a2 a3 a4 => ?_⟩
      exact kD _ _ ⟨r2, ys2, ks3, rfl, D6, P5.upT (TS.deck D5 E6), M5.deck D5 E6, ⟨a1, a2, a3⟩, fun z => by omega, by omega⟩
    clear D5 P5 M5 F5 hsim2 h4 hkl
    rintro σ G6 ⟨fo, ys, ks, rfl, D6, P6, M6, F6, hsim, hkl⟩
    dsimp only
    refine sq_asg ?_
    refine ⟨.int (wy : Int), rfl, _, _, rfl, rfl, _, rfl, ?_⟩
    refine ifE_join (R := fun v G => ∃ ts2 : List Tm, Deck G p l ∧ PM n G pv ts ms ∧ ML n p l G mo xs ms ∧ PM n G v ts2 (progW movM ts2) ∧ (∀ (i : Nat) t, ts2[i]? = some t → fewM (wsAll movM (ts2.take i) []) t) ∧ (progW movM ts2).length ≤ 5000 ∧ (wy = 0 → Sim n (progW movM ts2) ms)) ?_ (fun c Q' k => ?_) (fun c Q' k => ?_)
    rotate_left
    · refine ⟨.ref p, rfl, .int (n : Int), rfl, .ref fo, rfl, p, l, n, fo, ys, ks, rfl, D6, n0, n1, F6.at_, F6.q, F6.de, by omega, fun G v ts2 D E hq hok hs hf hl => ?_⟩
      exact k _ _ ⟨ts2, D, P6.upT (TS.deck D6 E), M6.deck D6 E, ⟨hq, hok, rfl, (RelM.progW (rel_tab n1) hok).2⟩, hf, hl, fun z => hs.trans (hsim z)⟩
    · have c : ¬ ((wy : Nat) : Int) < 2 := fun z => c (decide_eq_true z)
      refine ⟨.ref p, rfl, .int (n : Int), rfl, .int (mst : Int), rfl, p, l, n, mst, rfl, D6, n0, n1, m0, by omega, fun G v ts2 D E hq hp hk hc hl => ?_⟩
      obtain ⟨f1, f2, f3, f4⟩ := law_prog n1 hp hk hc (by omega)
      exact k _ _ ⟨ts2, D, P6.upT (TS.deck D6 E), M6.deck D6 E, ⟨hq, f1, rfl, f4⟩, f2, by omega, fun z => by omega⟩
    clear D6 P6 M6 F6 hsim hkl
    rintro v2' G7 ⟨ts2, D7, P7, M7, S7, hfew, hl5, hsim⟩
    generalize hms2 : progW movM ts2 = ms2 at S7 hl5 hsim
    have stp : ∀ {us : List Tm} {ws : List Mv}, PrOk (Deed n) 400 5 us → progW movM us = ws → ws.length ≤ 5000 → progW stepM us = some ws := fun h e hl => by
      have := RelM.progW rel_step (h.mono (D' := fun _ => True) (fun _ _ => trivial) (Nat.le_refl _) (Nat.le_refl _))
      rw [this, e]
      unfold cutS
      rw [if_pos hl]
    have tbl : ∀ {us : List Tm} {ws : List Mv}, PrOk (Deed n) 400 5 us → progW movM us = ws → progW (tabM n) us = madeT n ws := fun h e => by
      have := (RelM.progW (rel_tab n1) h).1
      rw [e] at this
      exact this
    have hst1 := stp P7.ok P7.mv (by omega)
    have hst2 := stp S7.ok S7.mv hl5
    have hT1 := tbl P7.ok P7.mv
    have hT2 := tbl S7.ok S7.mv
    clear stp tbl
    have okT1 : TabOk n (madeT n ms) := made_ok n1 P7.de
    have okT2 : TabOk n (madeT n ms2) := made_ok n1 S7.de
    refine ⟨.int (n : Int), rfl, pv, rfl, pv, ts, n, rfl, n1, P7.q, P7.ok, fun G8 t1 s8 h8 => ⟨v2', rfl, .int (n : Int), rfl, rfl, v2', ts2, n, rfl, n1, S7.q.up s8, S7.ok, fun G9 t2 s9 h9 => ⟨by show 2 ≤ sizeLine; decide, fun tt ntt => ⟨tt, _, rfl, SqT.of upd_same, rfl, t1, [t2], rfl, t2, [], rfl, rfl, ?_⟩⟩⟩⟩
    rw [hT1] at h8
    rw [hT2] at h9
    have st := same_new (o := .tup [t1, t2]) ntt
    have s89 := s8.trans (s9.trans st)
    have A9 : A18 n p l pv ts mo xs ms v2' ts2 ms2 t1 t2 (upd G9 tt (.tup [t1, t2])) := ⟨D7.up s89, P7.upT (TS.of s89), M7.up s89, S7.upT (TS.of s89), h8.up (s9.trans st), h9.up st⟩
    generalize upd G9 tt (.tup [t1, t2]) = GA at A9
    clear s89 st ntt h9 s9 h8 s8 D7 P7 M7 S7 hT1 hT2
    dsimp only
    refine sq_asg ⟨by show 0 ≤ sizeLine; decide, fun U nU => ?_⟩
    have sU := same_new (o := .lst []) nU
    obtain ⟨nUp, nUl⟩ := A9.D.new nU
    have nmU : mo ≠ U := ne_of_none A9.M.lst nU
    have A10 := A9.up sU
    have hU : hid p l (upd GA U (.lst [])) U = some (.lst ((numsU (madeT n ms) (madeT n ms2) 0).map V.int)) := hid_upd nUp nUl
    generalize upd GA U (.lst []) = GB at A10 hU
    clear A9 sU nU
    refine ⟨.int (n : Int), rfl, n, rfl, n1, fun G11 ev s11 hev => ?_⟩
    have A11 := A10.up s11
    have hU11 := Ext.of (p := p) (l := l) s11 _ _ hU
    obtain ⟨ea, us, rfl, hea, qus⟩ := ev_hid n1 A11.D hev
    clear A10 hU s11 hev
    have hul : us.length = (allL n).length := by rw [qus.len, List.length_map]
    have h64 : us.length ≤ 64 := by rw [hul]; exact all_few n (by omega)
    have h0 : 0 < us.length := by
      rw [hul]
      exact (List.getElem?_eq_some_iff.mp (all_head n (by omega))).1
    have neU : ea ≠ U := fun z => by
      subst z
      rw [hea] at hU11
      have e2 : us = (numsU (madeT n ms) (madeT n ms2) 0).map V.int := by
        injection hU11 with z
        injection z
      rw [e2] at h0
      have z := nums_len (madeT n ms) (madeT n ms2) 0
      rw [List.length_map] at h0
      omega
    have hTl : ∀ ws : List Mv, (madeT n ws).length = us.length := fun ws => by unfold madeT; rw [List.length_map, hul]
    have lots_flat : flatTA ((allL n).map lotD) = true := flatTA_of fun d hd => by
      obtain ⟨x, _, rfl⟩ := List.mem_map.mp hd
      exact lot_flat x
    refine ⟨ea, us, rfl, SqL.of (hid_same p l _ _ _ hea), ?_⟩
    refine for_it walk_enum (fun j σ G => ∃ v14 v15 v16 v17 v18, σ = [some (.ref sa), some (.ref p), some (.int (i : Int)), some (.int (n : Int)), some (.int (mst : Int)), some pv, some (.ref mo), some (.int (wy : Int)), some (.ref fo), some t1, some t2, v11, some v2', some (.ref U), v14, v15, v16, v17, v18] ∧ A18 n p l pv ts mo xs ms v2' ts2 ms2 t1 t2 G ∧ hid p l G ea = some (.lst us) ∧ DqA G us ((allL n).map lotD) ∧ hid p l G U = some (.lst ((numsU (madeT n ms) (madeT n ms2) j).map V.int))) ⟨_, _, _, _, _, rfl, A11, hea, qus, hU11⟩ (fun _ _ _ _ ⟨_, _, _, _, _, _, _, h, _⟩ => SqL.of (hid_same p l _ _ _ h)) ?_ ?_
    · clear A11 hea qus hU11
      rintro j _ σ G _ hj ⟨v14, v15, v16, v17, v18, rfl, A, hea, qus, hU⟩ ⟨t, x1, x2, rfl, nt, rfl, e1, e2⟩
      cases Option.some.inj e1
      have st := same_new (o := .tup [.int (j : Nat), x2]) nt
      refine ⟨t, _, rfl, SqT.of upd_same, rfl, .int (j : Nat), _, rfl, x2, _, rfl, rfl, ?_⟩
      obtain ⟨d0, hd0, qd⟩ := (qus.up st).get e2
      rw [List.getElem?_map] at hd0
      obtain ⟨kl, hkl, rfl⟩ := Option.map_eq_some_iff.mp hd0
      have A1 := A.up st
      have hea1 := Ext.of (p := p) (l := l) st _ _ hea
      have qus1 := qus.up st
      have hU1 := Ext.of (p := p) (l := l) st _ _ hU
      generalize upd G t (.tup [.int (j : Nat), x2]) = G1 at qd A1 hea1 qus1 hU1
      clear A hea qus hU st nt hd0 e2 e1
      dsimp only
      refine sq_asg ?_
      refine ⟨.ref p, rfl, .int (n : Int), rfl, x2, rfl, p, l, n, x2, kl, rfl, A1.D, n1, qd, fun G2 sv ss D2 E2 hsv hka hss hnd => ?_⟩
      have A2 := A1.deck D2 E2
      have hea2 := E2 _ _ hea1
      have qus2 := DqA.upT (TS.deck A1.D E2) lots_flat qus1
      have hU2 := E2 _ _ hU1
      clear A1 hea1 qus1 hU1 D2 E2 qd
      have hsl : ss.length = n := hka.1
      have key : (madeT n ms).getD j [] = (madeT n ms2).getD j [] ↔ runM ms ss = runM ms2 ss := by
        have g : ∀ ws : List Mv, (madeT n ws).getD j [] = madeE n ws kl := fun ws => by
          unfold madeT
          rw [List.getD_eq_getElem?_getD, List.getElem?_map, hkl]
          rfl
        rw [g, g]
        exact run_entry hka hnd A2.P.de A2.S.de
      refine sq_asg ⟨.int (n : Int), rfl, pv, rfl, sv, rfl, pv, sv, ts, ss, n, rfl, A2.P.q, hsv, by omega, by rw [hsl]; exact A2.P.ok, fun ms' e G4 r4 s4 h4 => ?_, fun e => by rw [hst1] at e; cases e⟩
      rw [hst1] at e
      cases Option.some.inj e
      clear e
      have A4 := A2.up s4
      refine ⟨sv, rfl, v2', rfl, .int (n : Int), rfl, rfl, v2', sv, ts2, ss, n, rfl, A4.S.q, hsv.up s4, by omega, by rw [hsl]; exact A4.S.ok, fun ms' e G5 r5 s5 h5 => ?_, fun e => by rw [hst2] at e; cases e⟩
      rw [hst2] at e
      cases Option.some.inj e
      clear e
      refine ⟨by show 2 ≤ sizeLine; decide, fun L nL => ?_⟩
      have sL := same_new (o := .lst [r4, r5]) nL
      have s45 := s4.trans (s5.trans sL)
      have hL := upd_same (H := G5) (a := L) (o := .lst [r4, r5])
      have q4 := h4.up (s5.trans sL)
      have q5 := h5.up sL
      have A6 := A2.up s45
      have hea6 := Ext.of (p := p) (l := l) s45 _ _ hea2
      have qus6 := qus2.up s45
      have hU6 := Ext.of (p := p) (l := l) s45 _ _ hU2
      have hsv6 := hsv.up s45
      generalize upd G5 L (.lst [r4, r5]) = G6 at hL q4 q5 A6 hea6 qus6 hU6 hsv6
      clear s45 sL nL h5 s5 h4 s4 A4 A2 hea2 qus2 hU2 hsv
      have hd1 : ∀ m ∈ ms, Deed ss.length m := by rw [hsl]; exact A6.P.de
      have hd2 : ∀ m ∈ ms2, Deed ss.length m := by rw [hsl]; exact A6.S.de
      have hge : ∀ z ∈ ss, 0 ≤ z := fun z hz => (hss z hz).1
      refine sq_asg ⟨sv, rfl, .ref mo, rfl, sv, mo, ss, xs, ms, rfl, hsv6, A6.M.lst, A6.M.q, hd1, hge, by omega, fun G7 r7 s7 h7 => ?_⟩
      refine ⟨sv, rfl, v2', rfl, v2', ts2, rfl, (A6.up s7).S.q, (A6.S.ok).mono (fun _ _ => trivial) (Nat.le_refl _) (Nat.le_refl _), hfew, fun G8 mo2 xs2 s8 nmo2 hmo2 hxs2 => ?_⟩
      rw [hms2] at hxs2
      refine ⟨sv, mo2, ss, xs2, ms2, rfl, hsv6.up (s7.trans s8), hmo2, hxs2, hd2, hge, by omega, fun G9 r9 s9 h9 => ⟨by show 2 ≤ sizeLine; decide, fun L2 nL2 => ?_⟩⟩
      have sL2 := same_new (o := .lst [r7, r9]) nL2
      have s79 := s7.trans (s8.trans (s9.trans sL2))
      have hL2 : Dq (upd G9 L2 (.lst [r7, r9])) (.ref L2) (.list [stD (runM ms ss), stD (runM ms2 ss)]) := .lst upd_same (.cons (h7.up (s8.trans (s9.trans sL2))) (.cons (h9.up sL2) .nil))
      have A7 := A6.up s79
      have hea7 := Ext.of (p := p) (l := l) s79 _ _ hea6
      have qus7 := qus6.up s79
      have hU7 := Ext.of (p := p) (l := l) s79 _ _ hU6
      have hL7 := s79 _ _ hL
      have q47 := q4.up s79
      have q57 := q5.up s79
      generalize upd G9 L2 (.lst [r7, r9]) = GC at hL2 A7 hea7 qus7 hU7 hL7 q47 q57
      clear s79 sL2 nL2 h9 s9 hxs2 hmo2 nmo2 s8 h7 s7 A6 hea6 qus6 hU6 hL q4 q5 hsv6
      have smr : ∀ ws : List Mv, (∀ m ∈ ws, Deed n m) → Sm 2 ((140 + 1) * 6) (stD (runM ws ss)) := fun ws hd => by
        have hp := runM_perm hsl hd
        exact sm_st (fun z hz => hss z (hp.subset hz)) (by rw [runM_len]; omega)
      have sm2 := (smr ms A7.P.de).two (smr ms2 A7.S.de)
      refine sq_if ?_
      refine ne_repr ⟨.ref L, rfl, ?_⟩
      dsimp only [tNil]
      refine repr_x (.lst hL7 (.cons q47 (.cons q57 .nil))) sm2 (by decide) (by decide) fun y hy => ⟨.ref L2, rfl, ?_⟩
      dsimp only [tNil]
      refine repr_ne hy hL2 sm2 (by decide) (by decide) (iteF ?_)
      clear hy hL2
      dsimp only [tNext]
      refine one_if ?_
      refine ⟨.ref L, rfl, L, _, 0, r4, rfl, rfl, SqL.of hL7, rfl, .ref L, rfl, L, _, 1, r5, rfl, rfl, SqL.of hL7, rfl, entD (runM ms ss), entD (runM ms2 ss), Dq.dp (st_flat _) q47, Dq.dp (st_flat _) q57, st_shaped _, st_shaped _, _, rfl, ?_⟩
      rw [ent_eqv]
      by_cases c : runM ms ss = runM ms2 ss
      · rw [decide_eq_true c]
        refine iteF ?_
        refine ⟨_, _, _, _, _, rfl, A7, hea7, qus7, ?_⟩
        rw [nums_same (key.mpr c)]
        exact hU7
      · rw [decide_eq_false c]
        refine iteT ?_
        have hUs := hid_same p l _ _ _ hU7
        refine one_drop ⟨.ref U, rfl, .inl ⟨rfl, _, SqL.of hUs⟩, .int (j : Nat), rfl, U, _, .int (j : Nat), rfl, rfl, hUs, szl (by rw [List.length_map]; have := nums_len (madeT n ms) (madeT n ms2) j; omega), ?_⟩
        refine ⟨_, _, _, _, _, rfl, A7.mut hU7 nmU, hid_mut hea7 neU, DqA.upT (TS.lst hUs) lots_flat qus7, ?_⟩
        rw [nums_more (fun z => c (key.mp z)), List.map_append]
        exact hid_upd nUp nUl
    · clear A11 hea qus hU11
      rintro σ G ⟨v14, v15, v16, v17, v18, rfl, A, hea, qus, hU⟩
      dsimp only
      have hUs := hid_same p l _ _ _ hU
      have okTab : ∀ ws : List Mv, (madeT n ws).length = us.length := hTl
      obtain ⟨ta, es1, rfl, hta, qe1⟩ := A.q1.tup_inv
      obtain ⟨tb, es2, rfl, htb, qe2⟩ := A.q2.tup_inv
      have hl1 : es1.length = us.length := by rw [qe1.len, List.length_map, hTl]
      have hl2 : es2.length = us.length := by rw [qe2.len, List.length_map, hTl]
      refine sq_if ?_
      refine ⟨.ref ta, rfl, ta, es1, rfl, .inr (SqT.of hta), (es1.length : Int), rfl, by omega, by omega, fun D nD => ?_⟩
      rw [Int.toNat_natCast, hl1]
      refine lc_it (walk_rg (n := us.length)) (fun j G1 => G1 D = some (.lst ((numsU (madeT n ms) (madeT n ms2) j).map V.int)) ∧ Same G G1) ⟨by rw [upd_same]; rfl, same_new nD⟩ (fun _ _ _ _ => trivial) ?_ ?_
      · rintro j x _ Gb hj ⟨hD, sm⟩ ⟨rfl, rfl⟩
        have g : ∀ (ws : List Mv) (es : List V), DqA G es ((madeT n ws).map entD) → es.length = us.length → ∃ e, es[j]? = some e ∧ Dq Gb e (entD ((madeT n ws).getD j [])) := fun ws es qe hl => by
          have hj2 : j < es.length := by omega
          obtain ⟨d, hd, qd⟩ := qe.get (List.getElem?_eq_getElem hj2)
          rw [List.getElem?_map] at hd
          obtain ⟨e0, he0, rfl⟩ := Option.map_eq_some_iff.mp hd
          refine ⟨_, List.getElem?_eq_getElem hj2, ?_⟩
          rw [List.getD_eq_getElem?_getD, he0]
          exact qd.up sm
        obtain ⟨e1, he1, q1⟩ := g ms es1 qe1 hl1
        obtain ⟨e2, he2, q2⟩ := g ms2 es2 qe2 hl2
        refine ⟨rfl, .ref ta, rfl, .int (j : Int), rfl, ta, es1, (j : Int), e1, rfl, rfl, SqT.of (sm _ _ hta), atI_nat he1, .ref tb, rfl, .int (j : Int), rfl, tb, es2, (j : Int), e2, rfl, rfl, SqT.of (sm _ _ htb), atI_nat he2, entD _, entD _, Dq.dp (st_flat _) q1, Dq.dp (st_flat _) q2, st_shaped _, st_shaped _, _, rfl, ?_⟩
        rw [ent_eqv]
        by_cases c : (madeT n ms).getD j [] = (madeT n ms2).getD j []
        · rw [decide_eq_true c]
          exact iteF ⟨by rw [nums_same c]; exact hD, sm⟩
        · rw [decide_eq_false c]
          refine iteT ⟨.int (j : Int), rfl, _, hD, szl (by rw [List.length_map]; have := nums_len (madeT n ms) (madeT n ms2) j; omega), ?_, fun b o hb => ?_⟩
          · rw [upd_same, nums_more c, List.map_append]
            rfl
          · rw [upd_ne (ne_of_none hb nD)]
            exact sm _ _ hb
      rintro Gb ⟨hD, sm⟩
      refine ⟨.ref U, rfl, _, _, lints_dp hD, lints_dp (sm _ _ hUs), lints_shaped _, lints_shaped _, _, rfl, ?_⟩
      rw [lints_eqv, decide_eq_true rfl]
      refine iteF ?_
      have enil : decide (madeT n ms = madeT n ms2) = ((numsU (madeT n ms) (madeT n ms2) us.length).map V.int).isEmpty := nums_nil (hTl ms) (hTl ms2)
      dsimp only [tNext]
      refine one_if ?_
      refine ⟨.ref ta, rfl, .ref tb, rfl, tabD (madeT n ms), tabD (madeT n ms2), Dq.dp (tab_flat _) (A.q1.up sm), Dq.dp (tab_flat _) (A.q2.up sm), tab_shaped _, tab_shaped _, .ref U, rfl, by show 0 ≤ sizeLine; decide, fun e ne => ?_⟩
      have x1 := same_new (o := .lst []) ne
      refine ⟨U, e, _, rfl, rfl, x1 _ _ (sm _ _ hUs), upd_same, rfl, _, rfl, ?_⟩
      rw [tab_eqv, enil, decide_eq_true rfl]
      refine iteF ?_
      refine ⟨.int (wy : Int), rfl, rfl, _, rfl, ite2 (fun c => ?_) (fun c => iteF ⟨_, _, _, _, _, _, _, _, _, _, _, _, _, _, _, _, _, rfl, A.D.up (sm.trans x1)⟩)⟩
      have hw : wy = 0 := by have := V.int.inj (of_decide_eq_true c); omega
      have eT : madeT n ms = madeT n ms2 := (hsim hw).made.symm
      refine ⟨.ref U, rfl, by show 0 ≤ sizeLine; decide, fun e2 ne2 => ?_⟩
      have x2 := same_new (o := .lst []) ne2
      refine ⟨U, e2, _, rfl, rfl, x2 _ _ (x1 _ _ (sm _ _ hUs)), upd_same, _, rfl, ?_⟩
      rw [← enil, decide_eq_true eT]
      exact iteF ⟨_, _, _, _, _, _, _, _, _, _, _, _, _, _, _, _, _, rfl, A.D.up (sm.trans (x1.trans x2))⟩
end
end Kr
namespace Kr
open PySem PySem.Spec PyProof.Rows L2
section
variable {P : Program} {w : World} {K : PySem.W.Frag} {mg : Str → Option Value} {base : Heap}
abbrev nAl : List Str := ["n", "size", "lot"]
theorem scAl : FnScope nAl ["n"] (defScope sAllLots) := ⟨rfl, rfl, rfl, by decide +kernel, rfl, by decide +kernel, by decide +kernel⟩
theorem o_all6 (D0 : Df K mg "all_lots" sAllLots ["n"]) (B : Bi mg) (hM : ∃ t, mg "MAX_TABLE" = some (.int 6 t)) (lo : Ok P w K mg base 1 "lots_of" ["n", "size"] spLots) : Ok P w K mg base 2 "all_lots" ["n"] spAll6 := by
  obtain ⟨tM, gM⟩ := hM
  refine D0.ok fun f fd F => F.ok scAl (fun vs H Q E h => ?_) (fun cdv A outer s H vs Q E hr h => ?_)
  · obtain ⟨n, rfl, _⟩ := h
    rfl
  · obtain ⟨n, rfl, hn6, q⟩ := h
    refine ⟨_, pss_cons (ps_if (pt_cmpR op_gt (pv 0) (pe_glob (v := .int 6) (by rfl) gM ⟨_, rfl⟩) (nomark _)) (pss_one ps_never) pss_nil)
      (pss_one (ps_ret (pe_callTy call_tuple_of (by rfl) B.tuple (by decide +kernel) (pa_cons
        (pe_lc2 (wi1 := iTup K (tCall spLots [] E0 (tCons (tVar 0) (tCons (tVar 1) tNil)))) (own := [("size", 1), ("lot", 2)]) (vs1 := [2]) (g := gName 1) (g1 := gName 2) (tt := tYes) (tt1 := tYes) rfl scAl.nd (pi_range1 (by rfl) B.range (pa_cons (pe_op op_add (pv 0) pe_int) pa_nil)) (blkOk_by (own := [("size", 1), ("lot", 2)]) (N := nAl) (sc := defScope sAllLots) (by decide +kernel)) (by decide)
          (fun _ _ _ _ _ => pg_name (i := 1) scAl.nd rfl (.inl rfl)) (fun _ _ _ _ _ => pts_nil)
          (fun _ _ _ _ _ => by exact pi_tup (pe_fn lo hr (by rfl) (pa_cons (pv 0) (pa_cons (pv 1) pa_nil))))
          (fun _ _ _ _ _ => pg_name (i := 2) scAl.nd rfl (.inl rfl)) (fun _ _ _ _ _ => pts_nil) (fun _ _ _ _ _ => pv 2)) pa_nil)))), ?_⟩
    refine ⟨.int n, rfl, _, _, rfl, rfl, _, rfl, ite2 (fun h6 => ?_) (fun h6 => ?_)⟩
    · have : (6 : Int) < n := of_decide_eq_true h6
      omega
    refine ⟨.int n, rfl, _, _, rfl, rfl, (n : Int) + 1, rfl, by omega, by omega, fun D nD => ?_⟩
    have hm : ((n : Int) + 1).toNat = n + 1 := by omega
    rw [hm]
    have hfull : ∀ i, i ≤ n + 1 → (((List.range (n + 1)).take i).flatMap (lotsL n)).length ≤ 1000 := by
      intro i hi
      have h1 := flat_le (List.range (n + 1)) (lotsL n) i
      have h2 : ∀ n : Nat, n < 7 → ((List.range (n + 1)).flatMap (lotsL n)).length ≤ 1000 := by decide +kernel
      have := h2 n (by omega)
      omega
    refine lc2_it (walk_rg (n := n + 1)) (fun i G => ∃ acc, G D = some (.lst acc) ∧ Same H G ∧ DqA G acc ((((List.range (n + 1)).take i).flatMap (lotsL n)).map lotD)) ⟨[], upd_same, same_new nD, .nil⟩ (fun _ _ _ _ => trivial) ?_ ?_
    · rintro i x G G' hi ⟨acc, hD, s2, qa⟩ ⟨rfl, rfl⟩
      refine ⟨rfl, ?_⟩
      dsimp only [tYes]
      rw [if_pos rfl]
      refine ⟨.int n, rfl, .int i, rfl, n, i, rfl, by omega, by omega, fun G2 v s3 hv => ?_⟩
      obtain ⟨a, xs, rfl, ha, qx2⟩ := Dq.tup_inv hv
      have hxl : xs.length = (lotsL n i).length := by rw [qx2.len, List.length_map]
      have hri : (List.range (n + 1))[i]? = some i := List.getElem?_range hi
      have hb := hfull (i + 1) (by omega)
      rw [flat_take hri, List.length_append] at hb
      refine ⟨a, rfl, ⟨xs, SqT.of ha⟩, ?_⟩
      refine inner_it (walk_tup (K := K) (a := a) (xs := xs)) (fun j G3 => ∃ acc, G3 D = some (.lst acc) ∧ Same H G3 ∧ G3 a = some (.tup xs) ∧ DqA G3 xs ((lotsL n i).map lotD) ∧ DqA G3 acc ((((List.range (n + 1)).take i).flatMap (lotsL n) ++ (lotsL n i).take j).map lotD)) ⟨acc, s3 _ _ hD, s2.trans s3, ha, qx2, by simpa using qa.up s3⟩ (fun j G3 _ ⟨_, _, _, h, _⟩ => SqT.of h) ?_ ?_
      · rintro j x G3 G3' hj ⟨acc2, hD2, s4, ha3, qxs, qa2⟩ ⟨rfl, hx⟩
        obtain ⟨l, hl, b, rfl, hbl⟩ := lots_get qxs hx
        refine ⟨rfl, ?_⟩
        dsimp only [tYes]
        rw [if_pos rfl]
        have hal : acc2.length ≤ 1000 := by
          have := qa2.len
          rw [List.length_map, List.length_append, List.length_take] at this
          omega
        have ts : TS G3' (upd G3' D (.lst (acc2 ++ [.ref b]))) := TS.lst hD2
        refine ⟨.ref b, rfl, acc2, hD2, szm (by omega), acc2 ++ [.ref b], upd_same, fun c o hc => ?_, ts _ _ ha3, DqA.upT ts (lots_flat _) qxs, ?_⟩
        · rw [upd_ne (ne_of_none hc nD)]
          exact s4 _ _ hc
        · rw [List.take_add_one, hl, ← List.append_assoc, List.map_append]
          exact dqa_snoc (DqA.upT ts (lots_flat _) qa2) (Dq.upT ts (lot_flat _) (lot_at hbl))
      · rintro G3 ⟨acc2, hD2, s4, ha3, qxs, qa2⟩
        refine ⟨acc2, hD2, s4, ?_⟩
        rw [hxl, List.take_length] at qa2
        rw [flat_take hri]
        exact qa2
    · rintro G ⟨acc, hD, s2, qa⟩
      have e : (List.range (n + 1)).take (n + 1) = List.range (n + 1) := List.take_of_length_le (by rw [List.length_range]; exact Nat.le_refl _)
      rw [e] at qa
      exact ⟨D, acc, rfl, .inl ⟨SqL.of hD, fun t nt => q _ _ (s2.trans (same_new nt)) (.tup upd_same (qa.up (same_new nt)))⟩⟩
end
end Kr
namespace Kr
open PySem PySem.Spec PyProof.Rows L2
section
variable {P : Program} {w : World} {K : PySem.W.Frag} {mg : Str → Option Value} {base : Heap}
abbrev nLo : List Str := ["n", "size", "lots", "_", "lot", "place"]
theorem scLo : FnScope nLo ["n", "size"] (defScope sLotsOf) := ⟨rfl, rfl, rfl, by decide +kernel, rfl, by decide +kernel, by decide +kernel⟩
theorem f_lotsOf {f : Addr} {fd : FuncData} (F : Fun K "lots_of" "lots_of" sLotsOf f fd) (B : Bi mg) : FnOk P w K mg base CX0 1 f fd ["n", "size"] spLots := by
  refine F.ok scLo (fun vs H Q E h => ?_) (fun cdv A outer s H vs Q E hr h => ?_)
  · obtain ⟨n, s, rfl, _⟩ := h
    rfl
  · obtain ⟨n, s, rfl, hn, hs, q⟩ := h
    refine ⟨_, pss_cons (ps_set (i := 2) scLo.nd rfl (.inl rfl) (pe_lst (pa_cons (pe_tup pa_nil) pa_nil)))
      (pss_cons (ps_for PassesOwn.never rfl (pi_range1 (by rfl) B.range (pa_cons (pv 1) pa_nil)) (pg_name (i := 3) scLo.nd rfl (.inl rfl))
        (pss_one (ps_setLc2 (wi1 := iRng2 (tCons (tNextL K 4) (tCons (tVar 0) tNil))) (i := 2) (own := [("lot", 4), ("place", 5)]) (vs1 := [5]) (g := gName 4) (g1 := gName 5) (tt := tYes) (tt1 := tYes) rfl scLo.nd rfl rfl (sw_true rfl rfl rfl (by decide +kernel)) (pi_list (pv 2)) (blkOk_by (own := [("lot", 4), ("place", 5)]) (N := nLo) (sc := defScope sLotsOf) (by decide +kernel)) (by decide)
          (fun _ _ _ _ _ => pg_name (i := 4) scLo.nd rfl (.inl rfl)) (fun _ _ _ _ _ => pts_nil)
          (fun _ _ _ _ _ => by exact pi_range2 (by rfl) B.range (pa_cons (pe_ifExp (pt_truth (pv 4) (by intro _; rfl)) (pe_op op_add (pe_ix (r := rIxT K) ix_tup (pv 4) (pe_un un_neg pe_int) (fun _ _ => rfl)) pe_int) pe_int) (pa_cons (pv 0) pa_nil)))
          (fun _ _ _ _ _ => pg_name (i := 5) scLo.nd rfl (.inl rfl)) (fun _ _ _ _ _ => pts_nil)
          (fun _ _ _ _ _ => pe_op (r := rCatA K) op_catA (pv 4) (pe_tup (pa_cons (pv 5) pa_nil))))))
      (pss_one (ps_ret (pe_callTy call_tuple_of (by rfl) B.tuple (by decide +kernel) (pa_cons (pv 2) pa_nil))))), ?_⟩
    refine ⟨by show 0 ≤ sizeLine; decide, fun t nt => ⟨by show 1 ≤ sizeLine; decide, fun l0 nl0 => ?_⟩⟩
    have s0 := (same_new (o := .tup []) nt).trans (same_new (o := .lst [.ref t]) nl0)
    have ht0 : upd (upd H t (.tup [])) l0 (.lst [.ref t]) t = some (.tup (lv [])) := same_new (o := .lst [.ref t]) nl0 _ _ upd_same
    refine ⟨.int s, rfl, (s : Int), rfl, by omega, by omega, for_it (walk_rg (n := s)) (fun t σ H2 => ∃ (L : Addr) (us : List V) (v3 : Option V), σ = [some (.int n), some (.int s), some (.ref L), v3, none, none] ∧ (∀ b o, H b = some o → H2 b = some o) ∧ H2 L = some (.lst us) ∧ DqA H2 us ((lotsL n t).map lotD))
      ⟨l0, _, none, rfl, s0, upd_same, .cons (lot_at (l := []) ht0) .nil⟩ (fun _ _ _ _ _ => trivial) ?_ ?_⟩
    · rintro t x σ H2 H2' ht ⟨L, us, v3, rfl, sm, hL, qus⟩ ⟨rfl, rfl⟩
      have hul : us.length = (lotsL n t).length := by rw [qus.len, List.length_map]
      have hful : ((lotsL n t).flatMap (exts n)).length < 1000 := by
        have := lots_len n (by omega) (t + 1) (by omega)
        have h2 := ch_small n (by omega) (t + 1) (by omega)
        show (lotsL n (t + 1)).length < 1000
        omega
      refine ⟨.ref L, rfl, L, rfl, ⟨us, SqL.of hL⟩, fun D nD => ?_⟩
      refine lc2_it (walk_list (K := K) (a := L) (xs := us)) (fun i G => ∃ acc, G D = some (.lst acc) ∧ Same H2' G ∧ DqA G acc ((((lotsL n t).take i).flatMap (exts n)).map lotD)) ⟨[], upd_same, same_new nD, .nil⟩ (fun i G _ ⟨_, _, s2, _⟩ => SqL.of (s2 _ _ hL)) ?_ ?_
      · rintro i x G G' hi ⟨acc, hD, s2, qa⟩ ⟨rfl, hx⟩
        obtain ⟨l, hl, a, rfl, ha0⟩ := lots_get qus hx
        have ha := s2 _ _ ha0
        refine ⟨rfl, ?_⟩
        dsimp only [tYes]
        rw [if_pos rfl]
        refine next_val (l := l) rfl ha ⟨.int n, rfl, _, _, rfl, ⟨by omega, ?_, by omega, by omega⟩, ?_⟩
        · have hin := (lots_in n t l (List.mem_of_getElem? hl)).2
          by_cases hl0 : l = []
          · subst hl0
            rw [nx_nil]
            omega
          · have e : l = l.dropLast ++ [l.getLast hl0] := (List.dropLast_concat_getLast hl0).symm
            have := hin _ (List.getLast_mem hl0)
            rw [e, nx_snoc]
            omega
        have hnn : ((n : Int) - (nx l : Nat)).toNat = n - nx l := by omega
        rw [hnn]
        have hpre := flat_le (lotsL n t) (exts n) (i + 1)
        rw [flat_take hl, List.length_append] at hpre
        have hel : (exts n l).length = n - nx l := by unfold exts; rw [List.length_map, List.length_range']
        have hacc : acc.length = (((lotsL n t).take i).flatMap (exts n)).length := by rw [qa.len, List.length_map]
        refine inner_it (walk_range (lo := (nx l : Nat)) (n := n - nx l)) (fun j G2 => ∃ acc, G2 D = some (.lst acc) ∧ Same H2' G2 ∧ DqA G2 acc ((((lotsL n t).take i).flatMap (exts n) ++ (List.range' (nx l) j).map fun x => l ++ [x]).map lotD)) ⟨acc, hD, s2, by simpa using qa⟩ (fun _ _ _ _ => trivial) ?_ ?_
        · rintro j x G2 G2' hj ⟨acc2, hD2, s3, qa2⟩ ⟨rfl, rfl⟩
          refine ⟨rfl, ?_⟩
          dsimp only [tYes]
          rw [if_pos rfl]
          have ha2 : G2' a = some (.tup (lv l)) := s3 _ _ ha0
          refine ⟨.ref a, rfl, .int _, rfl, by show 1 ≤ sizeLine; decide, fun u nu => ?_⟩
          have su := same_new (o := .tup [.int ((nx l : Nat) + (j : Int))]) nu
          have hll : l.length ≤ 12 := by have := (lots_in n t l (List.mem_of_getElem? hl)).1; omega
          refine catA_k (su _ _ ha2) upd_same (by rw [lv_len]; show _ + 1 ≤ _; omega) fun y H5 s5 hy => ?_
          have hD5 := s5 _ _ (su _ _ hD2)
          have hl2 : acc2.length < 1000 := by
            have := qa2.len
            rw [List.length_map, List.length_append, List.length_map, List.length_range'] at this
            omega
          refine ⟨acc2, hD5, szm (by omega), acc2 ++ [.ref y], upd_same, fun b o hb => ?_, ?_⟩
          · rw [upd_ne (ne_of_none hb nD)]
            exact s5 _ _ (su _ _ (s3 _ _ hb))
          · have ts : TS H5 (upd H5 D (.lst (acc2 ++ [.ref y]))) := TS.lst hD5
            rw [range1_succ, List.map_append (f := fun x => l ++ [x]), ← List.append_assoc, List.map_append (f := lotD)]
            refine dqa_snoc (DqA.upT ts (lots_flat _) ((qa2.up su).up s5)) (Dq.upT ts (lot_flat _) ?_)
            refine lot_at ?_
            rw [hy, lv_snoc]
            simp
        · rintro G2 ⟨acc2, hD2, s3, qa2⟩
          refine ⟨acc2, hD2, s3, ?_⟩
          rw [flat_take hl]
          exact qa2
      · rintro G ⟨acc, hD, s2, qa⟩
        rw [hul, List.take_length] at qa
        exact ⟨D, acc, _, rfl, fun b o hb => s2 _ _ (sm _ _ hb), hD, qa⟩
    · rintro σ H2 ⟨L, us, v3, rfl, sm, hL, qus⟩
      exact ⟨.ref L, rfl, L, us, rfl, .inl ⟨SqL.of hL, fun t nt => q _ _ (fun b o hb => same_new nt _ _ (sm _ _ hb)) (.tup upd_same (qus.up (same_new nt)))⟩⟩
end
end Kr
namespace Kr
open PySem PySem.Spec PyProof.Rows L2
section
variable {P : Program} {w : World} {K : PySem.W.Frag} {mg : Str → Option Value} {base : Heap}
theorem f_goal {f : Addr} {fd : FuncData} (F : Fun K "goal" "goal" sGoal f fd) (B : Bi mg) : FnOk P w K mg base CX0 1 f fd ["n", "entry"] spGoal := by
  have scGo : FnScope ["n", "entry", "place"] ["n", "entry"] (defScope sGoal) := ⟨rfl, rfl, rfl, by decide +kernel, rfl, by decide +kernel, by decide +kernel⟩
  refine F.ok scGo (fun vs H Q E h => ?_) (fun cdv A outer s H vs Q E hr h => ?_)
  · obtain ⟨n, a, e, rfl, _⟩ := h
    rfl
  · obtain ⟨n, a, e, rfl, hn, ha, q⟩ := h
    refine ⟨_, pss_one (ps_ret (pe_callTy call_tuple_of (by rfl) B.tuple (by decide +kernel) (pa_cons
      (pe_lc (own := [("place", 2)]) (g := gName 2) rfl scGo.nd (pi_range1 (by rfl) B.range (pa_cons (pv 0) pa_nil)) (blkOk_by (own := [("place", 2)]) (N := ["n", "entry", "place"]) (sc := defScope sGoal) (by decide +kernel))
        (fun _ _ _ _ _ => pg_name (i := 2) scGo.nd rfl (.inl rfl)) (fun _ _ _ _ _ => pts_one (pt_cmpR (r := rIn K true) op_notIn_seq (pv 2) (pv 1) rfl))
        (fun _ _ _ _ _ => pv 2)) pa_nil))), ?_⟩
    refine ⟨.int n, rfl, (n : Int), rfl, by omega, by omega, fun D nD => ?_⟩
    refine lc_it (walk_rg (n := n)) (fun i G => G D = some (.lst (lv ((List.range i).filter fun (x : Nat) => !decide ((x : Int) ∈ e)))) ∧ Same H G) ⟨upd_same, same_new nD⟩ (fun _ _ _ _ => trivial) ?_ ?_
    · rintro i x G G' hi ⟨hD, s1⟩ ⟨rfl, rfl⟩
      refine ⟨rfl, .int i, rfl, .ref a, rfl, a, _, rfl, .inr (SqT.of (s1 _ _ ha)), rfl, int_fl e, _, rfl, ?_⟩
      have er : (List.range (i + 1)).filter (fun (x : Nat) => !decide ((x : Int) ∈ e)) = (List.range i).filter (fun (x : Nat) => !decide ((x : Int) ∈ e)) ++ (if (i : Int) ∈ e then [] else [i]) := by
        rw [List.range_succ, List.filter_append]
        by_cases hm : (i : Int) ∈ e
        · rw [if_pos hm]
          simp [hm]
        · rw [if_neg hm]
          simp [hm]
      rw [inV_int, er]
      by_cases hm : (i : Int) ∈ e
      · rw [decide_eq_true hm, if_pos hm, List.append_nil]
        exact iteF ⟨hD, s1⟩
      · rw [decide_eq_false hm, if_neg hm]
        refine iteT ⟨_, rfl, _, hD, szm ?_, ?_, fun b o hb => ?_⟩
        · rw [lv_len]
          have := List.length_filter_le (fun (x : Nat) => !decide ((x : Int) ∈ e)) (List.range i)
          rw [List.length_range] at this
          omega
        · rw [upd_same]
          simp [lv]
        · rw [upd_ne (ne_of_none hb nD)]
          exact s1 _ _ hb
    · rintro G ⟨hD, s1⟩
      exact ⟨D, _, rfl, .inl ⟨SqL.of hD, fun t nt => q _ t (s1.trans (same_new nt)) upd_same⟩⟩
theorem o_goal (D0 : Df K mg "goal" sGoal ["n", "entry"]) (B : Bi mg) : Ok P w K mg base 1 "goal" ["n", "entry"] spGoal := D0.ok fun _ _ F => f_goal F B
end
end Kr
namespace Kr
open PySem PySem.Spec PyProof.Rows L2
section
variable {P : Program} {w : World} {K : PySem.W.Frag} {mg : Str → Option Value} {base : Heap}
theorem o_ways (D0 : Df K mg "ways_table" sWays ["n", "ways"]) (B : Bi mg) (al : Ok P w K mg base 2 "all_lots" ["n"] spAll6) (eb : Ok P w K mg base 1 "_entry_by" ["lot", "ways"] spEntBy) : Ok P w K mg base 3 "ways_table" ["n", "ways"] spWays := by
  have scSt : FnScope ["n", "ways", "lot"] ["n", "ways"] (defScope sWays) := ⟨rfl, rfl, rfl, by decide +kernel, rfl, by decide +kernel, by decide +kernel⟩
  refine D0.ok fun f fd F => F.ok scSt (fun vs H Q E h => ?_) (fun cdv A outer s H vs Q E hr h => ?_)
  · obtain ⟨n, b, ws, rfl, _⟩ := h
    rfl
  · obtain ⟨n, b, ws, rfl, hn, hb, hw, q⟩ := h
    have hr1 := hr.mono (show 1 ≤ 2 by decide)
    refine ⟨_, pss_one (ps_ret (pe_callTy call_tuple_of (by rfl) B.tuple (by decide +kernel) (pa_cons
      (pe_lc (own := [("lot", 2)]) (g := gName 2) (tt := tYes) rfl scSt.nd (pi_tup (pe_fn al hr (by rfl) (pa_cons (pv 0) pa_nil))) (blkOk_by (own := [("lot", 2)]) (N := ["n", "ways", "lot"]) (sc := defScope sWays) (by decide +kernel))
        (fun _ _ _ _ _ => pg_name (i := 2) scSt.nd rfl (.inl rfl)) (fun _ _ _ _ _ => pts_nil)
        (fun _ _ _ _ _ => pe_fn eb hr1 (by rfl) (pa_cons (pv 2) (pa_cons (pv 1) pa_nil)))) pa_nil))), ?_⟩
    refine ⟨.int n, rfl, n, rfl, hn, fun H1 v s1 hv => ?_⟩
    obtain ⟨a, xs, rfl, ha, qx⟩ := Dq.tup_inv hv
    refine ⟨a, rfl, ⟨xs, SqT.of ha⟩, fun D nD => ?_⟩
    have hxl : xs.length = (allL n).length := by rw [qx.len, List.length_map]
    have hal := all_few n (by omega)
    refine lc_itF (walk_tup (K := K) (a := a) (xs := xs)) (fun i => entD (byE ((allL n).getD i []) ws)) nD (by omega) (fun _ _ => ent_flat _) (fun G s => SqT.of (s _ _ ha)) (fun i x G G' C Cn hi s2 y c => ?_) (fun G acc s2 hD qa => ?_)
    · obtain ⟨rfl, hx⟩ := y
      obtain ⟨l, hl, b', rfl, hb'⟩ := lots_get qx hx
      rw [getD_of hl] at c
      refine ⟨rfl, ?_⟩
      dsimp only [tYes]
      rw [if_pos rfl]
      exact ⟨.ref b', rfl, .ref b, rfl, b', b, l, ws, rfl, s2 _ _ hb', s2 _ _ (s1 _ _ hb), hw, fun H' t s' ht => c _ _ s' (ent_at ht)⟩
    rw [hxl, map_getD (fun l => entD (byE l ws))] at qa
    refine ⟨D, acc, rfl, .inl ⟨SqL.of hD, fun t nt => q _ _ (s1.trans (s2.trans (same_new nt))) (.tup upd_same ?_)⟩⟩
    rw [List.map_map]
    exact qa.up (same_new nt)
end
end Kr
namespace Kr
open PySem PySem.Spec PyProof.Rows L2
section
variable {P : Program} {w : World} {K : PySem.W.Frag} {mg : Str → Option Value} {base : Heap}
theorem o_entBy (D : Df K mg "_entry_by" sEntryBy ["lot", "ways"]) (B : Bi mg) : Ok P w K mg base 1 "_entry_by" ["lot", "ways"] spEntBy := by
  have scEb : FnScope ["lot", "ways", "place", "way"] ["lot", "ways"] (defScope sEntryBy) := ⟨rfl, rfl, rfl, by decide +kernel, rfl, by decide +kernel, by decide +kernel⟩
  refine D.ok fun f fd F => F.ok scEb (fun vs H Q E h => ?_) (fun cdv A outer s H vs Q E hr h => ?_)
  · obtain ⟨a, b, l, ws, rfl, _⟩ := h
    rfl
  · obtain ⟨a, b, l, ws, rfl, ha, hb, hw, q⟩ := h
    refine ⟨_, pss_one (ps_ret (pe_callTy call_tuple_of (by rfl) B.tuple (by decide +kernel) (pa_cons
      (pe_lc (own := [("place", 2), ("way", 3)]) (g := gTup K 2 (gCons (gName 2) (gCons (gName 3) gNil))) (tt := tYes) rfl scEb.nd (pi_enum (by rfl) B.enumerate (pa_cons (pv 1) pa_nil)) (blkOk_by (own := [("place", 2), ("way", 3)]) (N := ["lot", "ways", "place", "way"]) (sc := defScope sEntryBy) (by decide +kernel))
        (fun _ _ _ _ _ => pg_tup rfl (pgs_cons (pg_name (i := 2) scEb.nd rfl (.inl rfl)) (pgs_cons (pg_name (i := 3) scEb.nd rfl (.inl rfl)) pgs_nil))) (fun _ _ _ _ _ => pts_nil)
        (fun _ _ _ _ _ => pe_ifExp (pt_cmpR (r := rIn K false) op_in_seq (pv 2) (pv 0) rfl) (pe_un un_neg pe_int) (pv 3))) pa_nil))), ?_⟩
    refine ⟨.ref b, rfl, b, _, rfl, SqL.of hb, fun D nD => ?_⟩
    refine lc_itF walk_enum (fun i => .int (if i ∈ l then -1 else ws.getD i 0)) nD (by rw [List.length_map]; omega) (fun _ _ => rfl) (fun G s => SqL.of (s _ _ hb)) (fun i x G G' C Cn hi s1 y c => ?_) (fun G acc s1 hD qa => ?_)
    · rw [List.length_map] at hi
      obtain ⟨T, x1, x2, rfl, nT, rfl, e1, e2⟩ := y
      cases Option.some.inj e1
      have e3 : x2 = .int (ws.getD i 0) := by
        have e4 : (ws.map V.int)[i]? = some x2 := e2
        rw [List.getElem?_map, List.getElem?_eq_getElem hi] at e4
        rw [List.getD_eq_getElem?_getD, List.getElem?_eq_getElem hi]
        exact (Option.some.inj e4).symm
      subst e3
      have sT := same_new (o := .tup [.int (i : Nat), .int (ws.getD i 0)]) nT
      have haT := sT _ _ (s1 _ _ ha)
      refine ⟨T, [.int (i : Nat), .int (ws.getD i 0)], rfl, SqT.of upd_same, rfl, .int (i : Nat), [.int (ws.getD i 0)], rfl, .int (ws.getD i 0), [], rfl, rfl, rfl, ?_⟩
      dsimp only [tYes]
      rw [if_pos rfl]
      refine ⟨.int (i : Nat), rfl, .ref a, rfl, a, lv l, rfl, .inr (SqT.of haT), rfl, lv_fl l, _, rfl, ?_⟩
      rw [inV_lot]
      by_cases hm : i ∈ l
      · rw [decide_eq_true hm]
        rw [if_pos hm] at c
        exact iteT ⟨1, rfl, c _ _ sT (.int _)⟩
      · rw [decide_eq_false hm]
        rw [if_neg hm] at c
        exact iteF ⟨_, rfl, c _ _ sT (.int _)⟩
    have eacc : acc = (byE l ws).map V.int := dqa_int (by
      rw [List.length_map] at qa
      unfold byE
      rw [List.map_map]
      exact qa)
    subst eacc
    exact ⟨D, _, rfl, .inl ⟨SqL.of hD, fun t nt => q _ t (s1.trans (same_new nt)) upd_same⟩⟩
end
end Kr
namespace Kr
open PySem PySem.Spec PyProof.Rows L2
/-! ### {k: v for ..}, the keys tuples -/
theorem put_tk {X : Cx} {ps : List (Addr × Obj)} {st : L2.St} {H : Hp} {sh : Shared} {B : Value → Shared → Prop} {D b : Addr} {es : List (List Key × V)} {ks : List Key} {v : V} {rv : Value} {Q : Unit → Shared → Prop} (hu : X.A.units < cLine) (Iv : Inv X ps st H sh) (hD : H D = some (.dT es))
    (hz : es.length < sizeLine) (hb : H b = some (.tup (ks.map kV))) (rel : RelV v rv) (fin : ∀ z, Inv X ps st (upd H D (.dT (putK es ks v))) z → Q () z) : wpAny (model X.prog X.w) X.A (dictSet D (.ref b) rv) Q B sh := by
  obtain ⟨z1, z2, ws, zr, zd⟩ := dt_of Iv.hok hD
  have zl : ws.length ≤ sizeLine := by rw [← Paired.length zr]; exact z1
  have zp : (putK es ks v).length ≤ sizeLine := Nat.le_trans (length_putK es ks v) hz
  refine wpAny_dictSet_heap (knd := tupleKind (mixKind X.prog X.w)) (hsz := zl) hu (key_of Iv.hok hb) zd fun h2 d2 same => fin _ ?_
  obtain ⟨ob, en, ep, e1, e2, e3, e4, _, e5⟩ := d2
  refine d_write Iv (by rw [hD]; trivial) same ⟨ob, e1⟩ ⟨zp, z2, _, (zr.put ks hb rel).keeps fun c ys ec => ?_, ob, en, ep, e1, e2, e3, e4, e5⟩
  exact (upd_ne (ne_of ec hD (by intro z; cases z))).trans ec
section
variable {X : Cx}
def tDcT (wi : TI) (g : TG) (tt : TT) (tk tv : TE) (own : List Nat) : TE := fun st H Q => wi st H fun J H1 => ∀ D, H1 D = none → ∃ W : Nat → Nat → Hp → Prop, (∃ m, W 0 m (upd H1 D (.dT []))) ∧ ∀ i m G, W i m G →
  (J.stop i G ∧ Q (.ref D) G) ∨ (J.go i G ∧ ∃ Nx : Hp → Prop, (∀ G', Nx G' → ∃ m', m' < m ∧ W (i + 1) m' G') ∧ ∀ x G', J.yld i G x G' → g x (wipe st own) G' fun s2 G2 => wipe s2 own = wipe st own ∧ tt s2 G2 fun yes G3 =>
    if yes = true then tk s2 G3 fun y G4 => tv s2 G4 fun z G5 => ∃ es ks b, y = .ref b ∧ G5 b = some (.tup (ks.map kV)) ∧ G5 D = some (.dT es) ∧ es.length < sizeLine ∧ Nx (upd G5 D (.dT (putK es ks z))) else Nx G3)
theorem pe_dcT {kx vx tg src : Expr} {ifs : List Expr} {sc : Scope} {own : List (Str × Nat)} {pos : Pos} {wi : TI} {g : TG} {tt : TT} {tk tv : TE} (hu : X.A.units < cLine) (calm : X.calm = true) (nd : X.N.Nodup) (ps : PI X tg src wi) (ok : BlkOk X.N X.env.scope sc own)
    (pg : ∀ (s : Shared) (H : Hp) (C : Addr) (cl : List (Str × Addr)) (fp : List Addr), PG (X.blk s H sc (compEnvC sc cl C X.env) fp) tg g) (pt : ∀ (s : Shared) (H : Hp) (C : Addr) (cl : List (Str × Addr)) (fp : List Addr), PTs (X.blk s H sc (compEnvC sc cl C X.env) fp) ifs tt)
    (pk : ∀ (s : Shared) (H : Hp) (C : Addr) (cl : List (Str × Addr)) (fp : List Addr), PE (X.blk s H sc (compEnvC sc cl C X.env) fp) kx tk)
    (pw : ∀ (s : Shared) (H : Hp) (C : Addr) (cl : List (Str × Addr)) (fp : List Addr), PE (X.blk s H sc (compEnvC sc cl C X.env) fp) vx tv) (fs : ∀ x, foldedSetIterable src X.env x = pure x := by intro _; rfl) :
    PE X (.DictComp kx vx [⟨tg, src, ifs, 0⟩] sc pos) (tDcT wi g tt tk tv (own.map (·.2))) := by
  refine ⟨fun pins s st H Q I h => ?_⟩
  rw [arm_eval_DictComp]
  have cellOf : ∀ y ∈ sc.names, y.2 = .free → ∃ c, X.env.cells.lookup y.1 = some c := fun y hy e => I.ok.has _ ((ok.free y hy e).elim .inl .inr)
  refine wpAny_comprehension_free (use := none) rfl fs (closure_ok cellOf) ok.kind (fun y hy e => by rw [ok.uniq y hy, e]) (thn (ps.run pins s st H _ I h) fun xv s1 hx => thn hx fun itv s2 h2 => ?_)
  obtain ⟨it, fp, tn, J, H2, rfl, I2, T, at2, fp2, q⟩ := h2
  refine wpAny_newObj_type (newEnv_comp ?_)
  have lt2 : ∀ b ∈ fp, b < s2.heap.objs.size := fun b hb => let ⟨_, e, _⟩ := T.obj _ _ at2 b hb; Heap.lt_size e
  generalize hD : s2.heap.objs.size = D
  have free2 : H2 D = none := I2.hok.fresh (Nat.le_of_eq hD)
  obtain ⟨W, ⟨m0, w0⟩, turn⟩ := q D free2
  generalize hsh : ({ s2 with heap := s2.heap.push { cls := .type "dict", data := .dict #[] } } : Shared) = s3
  have hp3 : s3.heap = s2.heap.push { cls := .type "dict", data := .dict #[] } := by rw [← hsh]
  have I3 : Inv X pins st (upd H2 D (.dT [])) s3 := by
    subst hsh
    exact I2.laid (t' := s2.toks) (fun b o e => Heap.get?_push_of_some _ e) (Nat.le_of_eq hD) (hD ▸ dt_empty s2.heap I2.big)
  have fp3 : ∀ b ∈ fp, FpOk X pins (upd H2 D (.dT [])) b ∧ b < s3.heap.objs.size := fun b hb => by
    have lt := lt2 b hb
    refine ⟨⟨(upd_ne (hD ▸ Nat.ne_of_lt lt)).trans (fp2 b hb).1, (fp2 b hb).2⟩, ?_⟩
    rw [hp3, Heap.size_push]
    exact Nat.lt_succ_of_lt lt
  have at3 : tn 0 s3.heap := T.keep _ _ _ at2 fun b _ o e => by rw [hp3]; exact Heap.get?_push_of_some _ e
  have I4 := block_start I3 ok nd fp3
  have g4 := pg s3 (upd H2 D (.dT [])) s3.heap.objs.size (cellsFrom (s3.heap.objs.size + 1) sc.names (cloFrom X.env.cells sc.names [])) fp
  have t4 := pt s3 (upd H2 D (.dT [])) s3.heap.objs.size (cellsFrom (s3.heap.objs.size + 1) sc.names (cloFrom X.env.cells sc.names [])) fp
  have k4 := pk s3 (upd H2 D (.dT [])) s3.heap.objs.size (cellsFrom (s3.heap.objs.size + 1) sc.names (cloFrom X.env.cells sc.names [])) fp
  have v4 := pw s3 (upd H2 D (.dT [])) s3.heap.objs.size (cellsFrom (s3.heap.objs.size + 1) sc.names (cloFrom X.env.cells sc.names [])) fp
  show codeAny _ _ (.compStart (.DictComp kx vx [⟨tg, src, ifs, 0⟩] sc pos) 0 (.ref it) (.ref D) (compEnvC sc (cellsFrom (s3.heap.objs.size + 1) sc.names (cloFrom X.env.cells sc.names [])) s3.heap.objs.size X.env)) _ { s3 with heap := pushCells (s3.heap.push { cls := .type "dict", data := .dict #[] }) sc.names }
  generalize hce : compEnvC sc (cellsFrom (s3.heap.objs.size + 1) sc.names (cloFrom X.env.cells sc.names [])) s3.heap.objs.size X.env = ce at I4 g4 t4 k4 v4 ⊢
  have loc : ce.locals = s3.heap.objs.size := by rw [← hce]; rfl
  have none3 : ∀ b ∈ fp, upd H2 D (.dT []) b = none := fun b hb => (fp3 b hb).1.1
  generalize upd H2 D (.dT []) = H3 at I3 I4 g4 t4 k4 v4 w0 none3 fp3
  generalize hs4 : ({ s3 with heap := pushCells (s3.heap.push { cls := .type "dict", data := .dict #[] }) sc.names } : Shared) = s4 at I4 ⊢
  have at4 : tn 0 s4.heap := T.keep _ _ _ at3 fun b _ o e => by rw [← hs4]; exact pushCells_keeps _ _ _ _ (Heap.get?_push_of_some _ e)
  have fpOf : ∀ {st' : L2.St} {G : Hp} {z : Shared}, Inv (X.blk s3 H3 sc ce fp) [] st' G z → (∀ b ∈ fp, G b = none) → ∀ b ∈ fp, FpOk (X.blk s3 H3 sc ce fp) [] G b := fun Iz no b hb =>
    ⟨no b hb, (Iz.ok.exf b hb).1, Iz.ok.exfs b hb, .inl hb, fun x c e => (Iz.ok.exf b hb).2 x c e, fun p hp => absurd (show p ∈ ([] : List (Addr × Obj)) ++ [] from hp) (by simp)⟩
  refine codeAny_compStart_dict ?lp (T.self X.A 0 _ _ _ at4 ?lp)
  refine compLoop_anyD (fun k z => ∃ i G, Inv (X.blk s3 H3 sc ce fp) [] (wipe st (own.map (·.2))) G z ∧ tn i z.heap ∧ (∀ b ∈ fp, G b = none) ∧ W i k G) ?_ m0 ⟨0, H3, I4, at4, none3, w0⟩
  rintro k s5 ⟨i, G5, I5, at5, no5, w5⟩
  rcases turn i k G5 w5 with ⟨hstop, fin⟩ | ⟨hgo, Nx, next, step⟩
  · refine thnF (T.done (X.blk s3 H3 sc ce fp) rfl rfl rfl calm i [] s5 _ G5 (fun _ _ => False) I5 (fpOf I5 no5) at5 hstop) fun r s6 ⟨hr, I6⟩ => ?_
    subst hr
    have I7 : Inv X pins st G5 s6 := I3.call' (ch := fp) I6.os I6.base I6.hok I6.bare fun b hb => ⟨(fp3 b hb).1.2.2.2.1, (fp3 b hb).1.2.1, (fp3 b hb).1.2.2.2.2.1, (fp3 b hb).1.2.2.2.2.2⟩
    have free6 : G5 s3.heap.objs.size = none := by rw [← loc]; exact I6.free
    obtain ⟨m, ns, _⟩ := I6.loc
    have ns : s6.heap.Ns ce.locals m := ns
    rw [loc] at ns
    refine ⟨m, ns, fun h7 sb => ?_⟩
    obtain ⟨f0, f1, f2, f3, f4, f5⟩ := I3.fpOk (Nat.le_refl _) free6
    exact ⟨.ref D, G5, I7.turned (t' := s6.toks) (fun b o hb e => (sb.2 b hb).trans e) f0 f1 f3 f4 f5, rfl, fin⟩
  · refine thnF (T.item (X.blk s3 H3 sc ce fp) rfl rfl rfl calm i [] s5 _ G5 (fun _ _ => False) I5 (fpOf I5 no5) at5 hgo) fun r s6 ⟨u, hr, h6⟩ => ?_
    subst hr
    refine thnF h6 fun _ s7 ⟨x, G7, I7, r7, y7, at7, no7⟩ => ?_
    have I8 := I7.pinned (fpOf I7 no7) (T.obj _ _ at7)
    refine thnF (g4.run _ s7 _ G7 x u _ I8 r7 (step x G7 y7)) fun _ s8 ⟨st8, G8, I9, wq, q8⟩ => ?_
    have back : ∀ {z : Shared} {G : Hp}, Inv (X.blk s3 H3 sc ce fp) ([] ++ pinsAt fp s7.heap) st8 G z → Nx G → ∃ m, m < k ∧ ∃ i G, Inv (X.blk s3 H3 sc ce fp) [] (wipe st (own.map (·.2))) G z ∧ tn i z.heap ∧ (∀ b ∈ fp, G b = none) ∧ W i m G := fun {z G} Iz nx => by
      obtain ⟨m', less, w'⟩ := next G nx
      have pinned : ∀ b ∈ fp, ∀ o, s7.heap.get? b = some o → z.heap.get? b = some o ∧ G b = none := fun b hb o e => by
        have p := Iz.pin (b, o) (List.mem_append_right _ (List.mem_append_right _ (mem_pinsAt hb e)))
        exact ⟨p.1, p.2.1⟩
      refine ⟨m', less, i + 1, G, (Iz.unpinned (pins := [])).weak (by rw [← wq, wipe_length]) (fun j v e => ?_), T.keep _ _ _ at7 fun b hb o e => (pinned b hb o e).1, fun b hb => ?_, w'⟩
      · rw [← wq] at e
        exact (wipe_some e).1
      · obtain ⟨o, e, _⟩ := T.obj _ _ at7 b hb
        exact (pinned b hb o e).2
    refine thnF (t4.run _ s8 st8 G8 _ I9 q8) fun yes s9 ⟨G9, I10, q9⟩ => ?_
    cases yes with
    | false =>
      simp only [Bool.false_eq_true, if_false] at q9 ⊢
      exact back I10 q9
    | true =>
      simp only [if_true] at q9 ⊢
      refine thnF (k4.run _ s9 st8 G9 _ I10 q9) fun kv s10 ⟨yk, G10, I11, r10, q10⟩ => ?_
      refine thnF (v4.run _ s10 st8 G10 _ I11 q10) fun vv s11 ⟨yv, G11, I12, r11, es, ks, b, ek, hb, hD11, hz, nx⟩ => ?_
      subst ek
      obtain rfl : kv = Value.ref b := r10
      exact put_tk (X := X.blk s3 H3 sc ce fp) hu I12 hD11 hz hb r11 fun z Iz => back Iz nx
/-- over any walk -/
theorem dcT_it {J : It} {n : Nat} {G : Hp → Prop} {Y : Nat → Hp → V → Hp → Prop} (w : Walk J n G Y) {g : TG} {tt : TT} {tk tv : TE} {vs : List Nat} {σ : L2.St} {H1 : Hp} {D : Addr} {Qd : Hp → Prop} (Pv : Nat → Hp → Prop) (h0 : Pv 0 (upd H1 D (.dT []))) (hG : ∀ i H, i ≤ n → Pv i H → G H)
    (hs : ∀ i x H H', i < n → Pv i H → Y i H x H' → g x (wipe σ vs) H' fun σ2 H2 => wipe σ2 vs = wipe σ vs ∧ tt σ2 H2 fun b H3 =>
      if b = true then tk σ2 H3 fun y H4 => tv σ2 H4 fun z H5 => ∃ es ks b, y = .ref b ∧ H5 b = some (.tup (ks.map kV)) ∧ H5 D = some (.dT es) ∧ es.length < sizeLine ∧ Pv (i + 1) (upd H5 D (.dT (putK es ks z))) else Pv (i + 1) H3) (hd : ∀ H, Pv n H → Qd H) :
    ∃ W : Nat → Nat → Hp → Prop, (∃ m, W 0 m (upd H1 D (.dT []))) ∧ ∀ i m H, W i m H →
      (J.stop i H ∧ Qd H) ∨ (J.go i H ∧ ∃ Nx : Hp → Prop, (∀ H', Nx H' → ∃ m', m' < m ∧ W (i + 1) m' H') ∧ ∀ x H', J.yld i H x H' → g x (wipe σ vs) H' fun σ2 H2 => wipe σ2 vs = wipe σ vs ∧ tt σ2 H2 fun b H3 =>
        if b = true then tk σ2 H3 fun y H4 => tv σ2 H4 fun z H5 => ∃ es ks b, y = .ref b ∧ H5 b = some (.tup (ks.map kV)) ∧ H5 D = some (.dT es) ∧ es.length < sizeLine ∧ Nx (upd H5 D (.dT (putK es ks z))) else Nx H3) := by
  refine ⟨fun i m H => m = n - i ∧ i ≤ n ∧ Pv i H, ⟨n, (Nat.sub_zero n).symm, Nat.zero_le _, h0⟩, fun i m H ⟨hm, hi, p⟩ => ?_⟩
  subst hm
  have hg := hG i H hi p
  rcases Nat.lt_or_ge i n with lt | ge
  · exact .inr ⟨w.goes i H lt hg, Pv (i + 1), fun H' p' => ⟨n - (i + 1), by omega, rfl, lt, p'⟩, fun x H' y => hs i x H H' lt p (w.yields i H x H' lt hg y)⟩
  · cases Nat.le_antisymm hi ge
    exact .inl ⟨w.stops H hg, hd H p⟩
end
end Kr
namespace Kr
open PySem PySem.Spec PyProof.Rows L2
section
variable {P : Program} {w : World} {K : PySem.W.Frag} {mg : Str → Option Value} {base : Heap}
theorem o_numbers (D0 : Df K mg "numbers_of_lots" sNumbers ["n"]) (B : Bi mg) (al : Ok P w K mg base 2 "all_lots" ["n"] spAll6) : Ok P w K mg base 3 "numbers_of_lots" ["n"] spNumbers := by
  have scNu : FnScope ["n", "number", "lot"] ["n"] (defScope sNumbers) := ⟨rfl, rfl, rfl, by decide +kernel, rfl, by decide +kernel, by decide +kernel⟩
  refine D0.ok fun f fd F => F.ok scNu (fun vs H Q E h => ?_) (fun cdv A outer s H vs Q E hr h => ?_)
  · obtain ⟨n, rfl, _⟩ := h
    rfl
  · obtain ⟨n, rfl, hn, q⟩ := h
    have hu2 : (cxOf CX0 P w K mg base ["n", "number", "lot"] "numbers_of_lots" (defScope sNumbers) f cdv A outer s H E).A.units < cLine := Nat.lt_of_le_of_lt (Nat.le_add_right _ 64) hr.units
    refine ⟨_, pss_one (ps_ret (pe_dcT (own := [("number", 1), ("lot", 2)]) (g := gTup K 2 (gCons (gName 1) (gCons (gName 2) gNil))) (tt := tYes) hu2 rfl scNu.nd (pi_enumT (by rfl) B.enumerate (pa_cons (pe_fn al hr (by rfl) (pa_cons (pv 0) pa_nil)) pa_nil)) (blkOk_by (own := [("number", 1), ("lot", 2)]) (N := ["n", "number", "lot"]) (sc := defScope sNumbers) (by decide +kernel))
        (fun _ _ _ _ _ => pg_tup rfl (pgs_cons (pg_name (i := 1) scNu.nd rfl (.inl rfl)) (pgs_cons (pg_name (i := 2) scNu.nd rfl (.inl rfl)) pgs_nil))) (fun _ _ _ _ _ => pts_nil)
        (fun _ _ _ _ _ => pv 2) (fun _ _ _ _ _ => pv 1))), ?_⟩
    refine ⟨.int n, rfl, n, rfl, hn, fun H1 lv1 s1 hl1 => ?_⟩
    obtain ⟨la, ks, rfl, hla, qk⟩ := Dq.tup_inv hl1
    have hal := all_few n (by omega)
    have hkl : ks.length = (allL n).length := by rw [qk.len, List.length_map]
    refine ⟨la, _, rfl, SqT.of hla, fun D nD => ?_⟩
    refine dcT_it walk_enumT (fun i G => ∃ es, G D = some (.dT es) ∧ Same H1 G ∧ es.length ≤ i ∧ ∀ j l, j < i → (allL n)[j]? = some l → valV es (lotK l) = some (.int (j : Nat)))
      ⟨[], upd_same, same_new nD, Nat.zero_le _, fun j _ h _ => absurd h (Nat.not_lt_zero j)⟩ (fun i G _ ⟨_, _, sm, _⟩ => SqT.of (sm _ _ hla)) ?_ ?_
    · rintro i _ G _ hi ⟨es, hD, sm, hlen, hes⟩ ⟨t, x, y, rfl, nt, rfl, e1, e2⟩
      cases Option.some.inj e1
      obtain ⟨l, hl, lb, rfl, hlb⟩ := lots_get qk e2
      have st := same_new (o := .tup [.int (i : Nat), .ref lb]) nt
      refine ⟨t, [.int (i : Nat), .ref lb], rfl, SqT.of upd_same, rfl, .int (i : Nat), [.ref lb], rfl, .ref lb, [], rfl, rfl, rfl, ?_⟩
      dsimp only [tYes]
      rw [if_pos rfl]
      refine ⟨.ref lb, rfl, .int (i : Nat), rfl, es, lotK l, lb, rfl, by rw [lotK_v]; exact st _ _ (sm _ _ hlb), st _ _ hD, szl (by omega), putK es (lotK l) (.int (i : Nat)), upd_same, fun b o hb => ?_, ?_, fun j l' hj hl' => ?_⟩
      · rw [upd_ne (ne_of_none hb nD)]
        exact st _ _ (sm _ _ hb)
      · have := length_putK es (lotK l) (V.int (i : Nat))
        omega
      · rw [valV_put]
        by_cases ek : lotK l' = lotK l
        · have := lotK_inj ek
          subst this
          have e1 := (all_num_at hn hl).1
          have e2 := (all_num_at hn hl').1
          rw [if_pos ek]
          rw [show j = i by omega]
        · rw [if_neg ek]
          refine hes j l' ?_ hl'
          rcases Nat.lt_or_ge j i with c | c
          · exact c
          · have : j = i := by omega
            subst this
            rw [hl] at hl'
            exact absurd (by rw [Option.some.inj hl']) ek
    · rintro G ⟨es, hD, sm, hlen, hes⟩
      refine q G D es (s1.trans sm) hD fun l hl => ?_
      obtain ⟨j, hj, ej⟩ := List.getElem_of_mem hl
      have e1 : (allL n)[j]? = some l := by rw [List.getElem?_eq_getElem hj, ej]
      rw [(all_num_at hn e1).1]
      exact hes j l (by omega) e1
end
end Kr
namespace Kr
open PySem PySem.Spec PyProof.Rows L2
section
variable {P : Program} {w : World} {K : PySem.W.Frag} {mg : Str → Option Value} {base : Heap}
theorem o_aims (D0 : Df K mg "aims_of" sAims ["n", "table"]) (B : Bi mg) (go : Ok P w K mg base 1 "goal" ["n", "entry"] spGoal) (nu : Ok P w K mg base 3 "numbers_of_lots" ["n"] spNumbers) : Ok P w K mg base 4 "aims_of" ["n", "table"] spAims := by
  have scAi : FnScope ["n", "table", "numbers", "entry"] ["n", "table"] (defScope sAims) := ⟨rfl, rfl, rfl, by decide +kernel, rfl, by decide +kernel, by decide +kernel⟩
  refine D0.ok fun f fd F => F.ok scAi (fun vs H Q E h => ?_) (fun cdv A outer s H vs Q E hr h => ?_)
  · obtain ⟨n, v, T, rfl, _⟩ := h
    rfl
  · obtain ⟨n, v, T, rfl, hn, hv, hTl, hT, q⟩ := h
    have hr1 := hr.mono (show 1 ≤ 3 by decide)
    have hu := hu_of hr
    refine ⟨_, pss_cons (ps_set (i := 2) scAi.nd rfl (.inr rfl) (pe_fn nu hr (by rfl) (pa_cons (pv 0) pa_nil)))
      (pss_one (ps_ret (pe_lc (own := [("entry", 3)]) (g := gName 3) (tt := tYes) rfl scAi.nd (pi_tup (pv 1)) (blkOk_by (own := [("entry", 3)]) (N := ["n", "table", "numbers", "entry"]) (sc := defScope sAims) (by decide +kernel))
        (fun _ _ _ _ _ => pg_name (i := 3) scAi.nd rfl (.inl rfl)) (fun _ _ _ _ _ => pts_nil)
        (fun _ _ _ _ _ => pe_dget hu (pv 2) (pe_fn go hr1 (by rfl) (pa_cons (pv 0) (pa_cons (pv 3) pa_nil))) (fun _ _ => rfl))))), ?_⟩
    refine ⟨.int n, rfl, n, rfl, hn, fun H1 nb kvs s1 hnb hkv => ?_⟩
    have hv1 := hv.up s1
    obtain ⟨va, xs, rfl, hva, qx⟩ := Dq.tup_inv hv1
    have hxl : xs.length = T.length := by rw [qx.len, List.length_map]
    refine ⟨.ref va, rfl, va, rfl, ⟨xs, SqT.of hva⟩, fun D nD => ?_⟩
    refine lc_itF (walk_tup (K := K) (a := va) (xs := xs)) (fun i => .int ((num n (goalE n (T.getD i [])) : Nat) : Int)) nD (by omega) (fun _ _ => rfl) (fun G s => SqT.of (s _ _ hva)) (fun i x G G' C Cn hi s2 y c => ?_) (fun G acc s2 hD qa => ?_)
    · obtain ⟨rfl, hx⟩ := y
      obtain ⟨e, he, ea, rfl, hea⟩ := ents_get qx hx
      have hgo := hT e (List.mem_of_getElem? he)
      rw [getD_of he] at c
      refine ⟨rfl, ?_⟩
      dsimp only [tYes]
      rw [if_pos rfl]
      refine ⟨.ref nb, rfl, .int n, rfl, .ref ea, rfl, n, ea, e, rfl, by omega, s2 _ _ hea, fun G2 t s3 ht => ?_⟩
      refine ⟨nb, .int (num n (goalE n e) : Nat), rfl, ?_, c _ _ s3 (.int _)⟩
      rw [← hkv _ hgo]
      exact DGet.t (s3 _ _ (s2 _ _ hnb)) (by rw [lotK_v]; exact ht)
    rw [hxl, map_getD (fun e => PyData.int ((num n (goalE n e) : Nat) : Int))] at qa
    have ea : acc = (aimsT n T).map V.int := dqa_int (by unfold aimsT; rw [List.map_map]; exact qa)
    subst ea
    exact q G D (s1.trans s2) (s1.free nD) hD
end
end Kr
namespace Kr
open PySem PySem.Spec PyProof.Rows L2
section
variable {P : Program} {w : World} {K : PySem.W.Frag} {mg : Str → Option Value} {base : Heap}
abbrev nMx : List Str := ["box", "items", "left", "found", "turn"]
theorem scMixed : FnScope nMx ["box", "items"] (defScope sMixed) := ⟨rfl, rfl, rfl, by decide +kernel, rfl, by decide +kernel, by decide +kernel⟩
theorem o_mixed (D : Df K mg "_law_mixed" sMixed ["box", "items"]) (B : Bi mg) (d : Ok P w K mg base 1 "_law_draw" ["box", "many"] spDraw) : Ok P w K mg base 2 "_law_mixed" ["box", "items"] spMixV := by
  refine D.ok fun fa fd F => F.ok scMixed (fun vs H Q E h => ?_) (fun cdv A outer s H vs Q E hr h => ?_)
  · obtain ⟨p, l, a, xs, rfl, _⟩ := h
    rfl
  · obtain ⟨p, l, a, xs, rfl, Dk, ha, hlen, q⟩ := h
    refine ⟨_, pss_cons (ps_par (i := 2) (j := 3) rfl scMixed.nd rfl rfl (by decide) rfl rfl (pa_cons (pe_callTy call_list_of (by rfl) B.list (by decide +kernel) (pa_cons (pv 1) pa_nil)) (pa_cons (pe_lst pa_nil) pa_nil)) (by rfl))
      (pss_cons (ps_for PassesOwn.never rfl (pi_range1 (by rfl) B.range (pa_cons (pe_callB call_len_seq (by rfl) B.len boot_len (pa_cons (pv 2) pa_nil)) pa_nil)) (pg_name (i := 4) scMixed.nd rfl (.inl rfl))
        (pss_one (ps_expr (pe_bm PySem.F.plainAttrs_list PySem.F.slot_list_append PySem.F.type_list_append mt_append (pv 3) (pa_cons
          (pe_bm PySem.F.plainAttrs_list PySem.F.slot_list_pop PySem.F.type_list_pop mt_popAt (pv 2) (pa_cons (pe_fn d hr (by rfl) (pa_cons (pv 0) (pa_cons (pe_callB call_len_seq (by rfl) B.len boot_len (pa_cons (pv 2) pa_nil)) pa_nil))) pa_nil)) pa_nil)))))
      (pss_one (ps_ret (pv 3)))), ?_⟩
    refine ⟨.ref a, rfl, a, _, rfl, .inl (SqL.of (hid_same p l H _ _ ha)), fun lf nlf => ?_⟩
    obtain ⟨nlp, nll⟩ := Dk.new nlf
    obtain ⟨e1, D1, _⟩ := new_dq (o := .lst xs) Dk nlf
    refine ⟨by show 0 ≤ sizeLine; decide, fun f nf => ?_⟩
    obtain ⟨nfp, nfl⟩ := D1.new nf
    have nff : f ≠ lf := fun z => by rw [z, upd_same] at nf; cases nf
    have nf0 : H f = none := by rw [upd_ne nff] at nf; exact nf
    obtain ⟨e2, D2, _⟩ := new_dq (o := .lst []) D1 nf
    have hz0 : upd (upd H lf (.lst xs)) f (.lst []) lf = some (.lst xs) := by rw [upd_ne nff.symm, upd_same]
    refine ⟨_, _, rfl, .ref lf, rfl, lf, _, rfl, .inl (SqL.of hz0), (xs.length : Int), rfl, by omega, by omega, ?_⟩
    refine for_it (walk_rg (n := xs.length)) (fun i σ H6 => ∃ (zs ys : List V) (v4 : Option V), σ = [some (.ref p), some (.ref a), some (.ref lf), some (.ref f), v4] ∧ Deck H6 p l ∧ Ext p l H H6 ∧ H6 lf = some (.lst zs) ∧ H6 f = some (.lst ys) ∧ (ys ++ zs).Perm xs ∧ ys.length = i)
      ⟨xs, [], none, rfl, D2, e1.trans e2, hz0, upd_same, .refl _, rfl⟩ (fun _ _ _ _ _ => trivial) ?_ ?_
    · rintro i x σ H6 H7 hi ⟨zs, ys, v4, rfl, D7, E7, hz7, hy7, hp, hyi⟩ ⟨rfl, rfl⟩
      have hll := hp.length_eq
      rw [List.length_append] at hll
      have hpos : 0 < zs.length := by omega
      refine ⟨.ref f, rfl, .inl ⟨rfl, _, SqL.of hy7⟩, .ref lf, rfl, .inl ⟨rfl, _, SqL.of hz7⟩, .ref p, rfl, .ref lf, rfl, lf, _, rfl, .inl (SqL.of hz7), p, l, _, rfl, D7, by omega, by omega, fun H8 r D8 E8 h0 h1 => ?_⟩
      have hr : r.toNat < zs.length := by omega
      have hz8 : H8 lf = some (.lst zs) := (hid_some (E8 lf _ (by rw [hid_ne nlp nll]; exact hz7))).2.2
      have hy8 : H8 f = some (.lst ys) := (hid_some (E8 f _ (by rw [hid_ne nfp nfl]; exact hy7))).2.2
      have E9 := E7.trans E8
      refine ⟨lf, zs, r, r.toNat, zs[r.toNat], rfl, rfl, hz8, by omega, by omega, seqIx h0 (by omega), List.getElem?_eq_getElem hr, ?_⟩
      refine ⟨f, ys, zs[r.toNat], rfl, rfl, by rw [upd_ne nff]; exact hy8, szl (by omega), ?_⟩
      refine ⟨zs.eraseIdx r.toNat, ys ++ [zs[r.toNat]], _, rfl, (D8.mut nlp nll).mut nfp nfl, Ext.mut (Ext.mut E9 nlf) nf0, ?_, ?_, ?_, ?_⟩
      · rw [upd_ne nff.symm, upd_same]
      · rw [upd_same]
      · rw [List.append_assoc]
        exact (List.Perm.append_left ys (erasev_perm zs hr)).trans hp
      · rw [List.length_append, hyi]
        rfl
    · rintro σ H6 ⟨zs, ys, v4, rfl, D7, E7, hz7, hy7, hp, hyi⟩
      have hll := hp.length_eq
      rw [List.length_append] at hll
      have : zs = [] := List.length_eq_zero_iff.mp (by omega)
      subst this
      exact ⟨.ref f, rfl, q H6 f ys D7 E7 nf0 (by rw [hid_ne nfp nfl]; exact hy7) (by rw [List.append_nil] at hp; exact hp)⟩
end
end Kr
namespace Kr
open PySem PySem.Spec PyProof.Rows L2
/-! ### what the head has written -/
theorem df_mk {K : PySem.W.Frag} {h : Heap} {mg : Str → Option Value} {x : Str} {st : Stmt} {f : Addr} {ps : List Str} {oc : Value} {od an : Option Addr} {osl : Array (Option Value)} {kV doc pm cdv ct : Value} (X : K.In h) (G : h.Ns mainGlobals mg)
    (a : PySem.W.nsIn K mainGlobals x = some (some (.ref f))) (l : K.lookup f = some ⟨oc, od, .func (PySem.W.fnOf x x (defArgs st) (defBody st) (defScope st) .none kV doc pm an cdv ct), osl⟩) (c : PySem.W.codeIn K cdv x = true) (k : PySem.W.keepIn K (.ref f) = true)
    (hb : ∀ (kV doc pm : Value) (an : Option Addr) (cdv ct : Value) (us : List Value), us.length = ps.length → bindArgs (PySem.W.fnOf x x (defArgs st) (defBody st) (defScope st) .none kV doc pm an cdv ct) ⟨us, []⟩ = pure (ps.zip us)) : Df K mg x st ps :=
  ⟨_, _, fun_mk l c k, (fun_mk l c k).binds hb, PySem.W.mg_of X G a⟩
theorem all_mk {l : PySem.W.OpenLaw} {w : World} {K : PySem.W.Frag} {h : Heap} {mg : Str → Option Value} {fa : Addr} (X : K.In h) (G : h.Ns mainGlobals mg) (hfa : mg "law" = some (.ref fa))
    {f1 : Addr} {oc1 kV1 dc1 pm1 cd1 ct1 : Value} {od1 an1 : Option Addr} {sl1 : Array (Option Value)}
    {f2 : Addr} {oc2 kV2 dc2 pm2 cd2 ct2 : Value} {od2 an2 : Option Addr} {sl2 : Array (Option Value)}
    {f3 : Addr} {oc3 kV3 dc3 pm3 cd3 ct3 : Value} {od3 an3 : Option Addr} {sl3 : Array (Option Value)}
    {f4 : Addr} {oc4 kV4 dc4 pm4 cd4 ct4 : Value} {od4 an4 : Option Addr} {sl4 : Array (Option Value)}
    {f5 : Addr} {oc5 kV5 dc5 pm5 cd5 ct5 : Value} {od5 an5 : Option Addr} {sl5 : Array (Option Value)}
    {f6 : Addr} {oc6 kV6 dc6 pm6 cd6 ct6 : Value} {od6 an6 : Option Addr} {sl6 : Array (Option Value)}
    {f7 : Addr} {oc7 kV7 dc7 pm7 cd7 ct7 : Value} {od7 an7 : Option Addr} {sl7 : Array (Option Value)}
    {f8 : Addr} {oc8 kV8 dc8 pm8 cd8 ct8 : Value} {od8 an8 : Option Addr} {sl8 : Array (Option Value)}
    {f9 : Addr} {oc9 kV9 dc9 pm9 cd9 ct9 : Value} {od9 an9 : Option Addr} {sl9 : Array (Option Value)}
    {f10 : Addr} {oc10 kV10 dc10 pm10 cd10 ct10 : Value} {od10 an10 : Option Addr} {sl10 : Array (Option Value)}
    {f11 : Addr} {oc11 kV11 dc11 pm11 cd11 ct11 : Value} {od11 an11 : Option Addr} {sl11 : Array (Option Value)}
    {f12 : Addr} {oc12 kV12 dc12 pm12 cd12 ct12 : Value} {od12 an12 : Option Addr} {sl12 : Array (Option Value)}
    {f13 : Addr} {oc13 kV13 dc13 pm13 cd13 ct13 : Value} {od13 an13 : Option Addr} {sl13 : Array (Option Value)}
    {f14 : Addr} {oc14 kV14 dc14 pm14 cd14 ct14 : Value} {od14 an14 : Option Addr} {sl14 : Array (Option Value)}
    {f15 : Addr} {oc15 kV15 dc15 pm15 cd15 ct15 : Value} {od15 an15 : Option Addr} {sl15 : Array (Option Value)}
    {f16 : Addr} {oc16 kV16 dc16 pm16 cd16 ct16 : Value} {od16 an16 : Option Addr} {sl16 : Array (Option Value)}
    {f17 : Addr} {oc17 kV17 dc17 pm17 cd17 ct17 : Value} {od17 an17 : Option Addr} {sl17 : Array (Option Value)}
    {f18 : Addr} {oc18 kV18 dc18 pm18 cd18 ct18 : Value} {od18 an18 : Option Addr} {sl18 : Array (Option Value)}
    {f19 : Addr} {oc19 kV19 dc19 pm19 cd19 ct19 : Value} {od19 an19 : Option Addr} {sl19 : Array (Option Value)}
    {f20 : Addr} {oc20 kV20 dc20 pm20 cd20 ct20 : Value} {od20 an20 : Option Addr} {sl20 : Array (Option Value)}
    {f21 : Addr} {oc21 kV21 dc21 pm21 cd21 ct21 : Value} {od21 an21 : Option Addr} {sl21 : Array (Option Value)}
    {f22 : Addr} {oc22 kV22 dc22 pm22 cd22 ct22 : Value} {od22 an22 : Option Addr} {sl22 : Array (Option Value)}
    {f23 : Addr} {oc23 kV23 dc23 pm23 cd23 ct23 : Value} {od23 an23 : Option Addr} {sl23 : Array (Option Value)}
    {f24 : Addr} {oc24 kV24 dc24 pm24 cd24 ct24 : Value} {od24 an24 : Option Addr} {sl24 : Array (Option Value)}
    {f25 : Addr} {oc25 kV25 dc25 pm25 cd25 ct25 : Value} {od25 an25 : Option Addr} {sl25 : Array (Option Value)}
    {f26 : Addr} {oc26 kV26 dc26 pm26 cd26 ct26 : Value} {od26 an26 : Option Addr} {sl26 : Array (Option Value)}
    {f27 : Addr} {oc27 kV27 dc27 pm27 cd27 ct27 : Value} {od27 an27 : Option Addr} {sl27 : Array (Option Value)}
    {f28 : Addr} {oc28 kV28 dc28 pm28 cd28 ct28 : Value} {od28 an28 : Option Addr} {sl28 : Array (Option Value)}
    {f29 : Addr} {oc29 kV29 dc29 pm29 cd29 ct29 : Value} {od29 an29 : Option Addr} {sl29 : Array (Option Value)}
    {f30 : Addr} {oc30 kV30 dc30 pm30 cd30 ct30 : Value} {od30 an30 : Option Addr} {sl30 : Array (Option Value)}
    {f31 : Addr} {oc31 kV31 dc31 pm31 cd31 ct31 : Value} {od31 an31 : Option Addr} {sl31 : Array (Option Value)}
    {f32 : Addr} {oc32 kV32 dc32 pm32 cd32 ct32 : Value} {od32 an32 : Option Addr} {sl32 : Array (Option Value)}
    {f33 : Addr} {oc33 kV33 dc33 pm33 cd33 ct33 : Value} {od33 an33 : Option Addr} {sl33 : Array (Option Value)}
    {f34 : Addr} {oc34 kV34 dc34 pm34 cd34 ct34 : Value} {od34 an34 : Option Addr} {sl34 : Array (Option Value)}
    {f35 : Addr} {oc35 kV35 dc35 pm35 cd35 ct35 : Value} {od35 an35 : Option Addr} {sl35 : Array (Option Value)}
    {f36 : Addr} {oc36 kV36 dc36 pm36 cd36 ct36 : Value} {od36 an36 : Option Addr} {sl36 : Array (Option Value)}
    {f37 : Addr} {oc37 kV37 dc37 pm37 cd37 ct37 : Value} {od37 an37 : Option Addr} {sl37 : Array (Option Value)}
    {f38 : Addr} {oc38 kV38 dc38 pm38 cd38 ct38 : Value} {od38 an38 : Option Addr} {sl38 : Array (Option Value)}
    {f39 : Addr} {oc39 kV39 dc39 pm39 cd39 ct39 : Value} {od39 an39 : Option Addr} {sl39 : Array (Option Value)}
    {tM tS : Tok}
    {R T fI : Addr} {nm q : Str} {N : Addr} {bs bm : List Value} {sn : List Str} {sub : List Value} {ab : Bool} {col : Option Bool} {dd : Option Addr} {m0 m1 m2 m3 m5 : Option Value} {ocI dcI pmI cdI ctI : Value} {odI anI : Option Addr} {slI : Array (Option Value)}
    {C1 : Addr}
    {mf1_1 : Addr} {moc1_1 mkV1_1 mdc1_1 mpm1_1 mcd1_1 mct1_1 : Value} {mod1_1 man1_1 : Option Addr} {msl1_1 : Array (Option Value)}
    {mf1_2 : Addr} {moc1_2 mkV1_2 mdc1_2 mpm1_2 mcd1_2 mct1_2 : Value} {mod1_2 man1_2 : Option Addr} {msl1_2 : Array (Option Value)}
    {mf1_3 : Addr} {moc1_3 mkV1_3 mdc1_3 mpm1_3 mcd1_3 mct1_3 : Value} {mod1_3 man1_3 : Option Addr} {msl1_3 : Array (Option Value)}
    {mf1_4 : Addr} {moc1_4 mkV1_4 mdc1_4 mpm1_4 mcd1_4 mct1_4 : Value} {mod1_4 man1_4 : Option Addr} {msl1_4 : Array (Option Value)}
    {mf1_5 : Addr} {moc1_5 mkV1_5 mdc1_5 mpm1_5 mcd1_5 mct1_5 : Value} {mod1_5 man1_5 : Option Addr} {msl1_5 : Array (Option Value)}
    {C2 : Addr}
    {mf2_1 : Addr} {moc2_1 mkV2_1 mdc2_1 mpm2_1 mcd2_1 mct2_1 : Value} {mod2_1 man2_1 : Option Addr} {msl2_1 : Array (Option Value)}
    {mf2_2 : Addr} {moc2_2 mkV2_2 mdc2_2 mpm2_2 mcd2_2 mct2_2 : Value} {mod2_2 man2_2 : Option Addr} {msl2_2 : Array (Option Value)}
    {mf2_3 : Addr} {moc2_3 mkV2_3 mdc2_3 mpm2_3 mcd2_3 mct2_3 : Value} {mod2_3 man2_3 : Option Addr} {msl2_3 : Array (Option Value)}
    {mf2_4 : Addr} {moc2_4 mkV2_4 mdc2_4 mpm2_4 mcd2_4 mct2_4 : Value} {mod2_4 man2_4 : Option Addr} {msl2_4 : Array (Option Value)}
    (ca1 : PySem.W.nsIn K mainGlobals "TableMeasure" = some (some (.ref C1))) (cb1 : PySem.W.plainGet K C1 Str.empty = true) (cc1 : PySem.W.hasDictIn K C1 = true) (cd_1 : PySem.W.plainOver K C1 = true) (ce1 : PySem.W.findIn K (.ref C1) "__setattr__" = some (some (.builtin "object.__setattr__"))) (cf1 : PySem.W.makesIn K C1 = true) (cg1 : PySem.W.keepIn K (.ref C1) = true)
    (ct_1_1 : PySem.W.findIn K (.ref C1) "_n" = some none)
    (ma1_1 : PySem.W.findIn K (.ref C1) "__init__" = some (some (.ref mf1_1))) (mi1_1 : PySem.W.isFn K (.ref mf1_1) = true) (ml1_1 : K.lookup mf1_1 = some ⟨moc1_1, mod1_1, .func (PySem.W.fnOf "__init__" "TableMeasure.__init__" (defArgs sTmInit) (defBody sTmInit) (defScope sTmInit) .none mkV1_1 mdc1_1 mpm1_1 man1_1 mcd1_1 mct1_1), msl1_1⟩) (mc1_1 : PySem.W.codeIn K mcd1_1 "TableMeasure.__init__" = true) (mk1_1 : PySem.W.keepIn K (.ref mf1_1) = true)
    (ma1_2 : PySem.W.findIn K (.ref C1) "of_deed" = some (some (.ref mf1_2))) (mi1_2 : PySem.W.isFn K (.ref mf1_2) = true) (ml1_2 : K.lookup mf1_2 = some ⟨moc1_2, mod1_2, .func (PySem.W.fnOf "of_deed" "TableMeasure.of_deed" (defArgs sTmDeed) (defBody sTmDeed) (defScope sTmDeed) .none mkV1_2 mdc1_2 mpm1_2 man1_2 mcd1_2 mct1_2), msl1_2⟩) (mc1_2 : PySem.W.codeIn K mcd1_2 "TableMeasure.of_deed" = true) (mk1_2 : PySem.W.keepIn K (.ref mf1_2) = true)
    (ma1_3 : PySem.W.findIn K (.ref C1) "of_row" = some (some (.ref mf1_3))) (mi1_3 : PySem.W.isFn K (.ref mf1_3) = true) (ml1_3 : K.lookup mf1_3 = some ⟨moc1_3, mod1_3, .func (PySem.W.fnOf "of_row" "TableMeasure.of_row" (defArgs sTmRow) (defBody sTmRow) (defScope sTmRow) .none mkV1_3 mdc1_3 mpm1_3 man1_3 mcd1_3 mct1_3), msl1_3⟩) (mc1_3 : PySem.W.codeIn K mcd1_3 "TableMeasure.of_row" = true) (mk1_3 : PySem.W.keepIn K (.ref mf1_3) = true)
    (ma1_4 : PySem.W.findIn K (.ref C1) "of_back" = some (some (.ref mf1_4))) (mi1_4 : PySem.W.isFn K (.ref mf1_4) = true) (ml1_4 : K.lookup mf1_4 = some ⟨moc1_4, mod1_4, .func (PySem.W.fnOf "of_back" "TableMeasure.of_back" (defArgs sTmBack) (defBody sTmBack) (defScope sTmBack) .none mkV1_4 mdc1_4 mpm1_4 man1_4 mcd1_4 mct1_4), msl1_4⟩) (mc1_4 : PySem.W.codeIn K mcd1_4 "TableMeasure.of_back" = true) (mk1_4 : PySem.W.keepIn K (.ref mf1_4) = true)
    (ma1_5 : PySem.W.findIn K (.ref C1) "of_times" = some (some (.ref mf1_5))) (mi1_5 : PySem.W.isFn K (.ref mf1_5) = true) (ml1_5 : K.lookup mf1_5 = some ⟨moc1_5, mod1_5, .func (PySem.W.fnOf "of_times" "TableMeasure.of_times" (defArgs sTmTimes) (defBody sTmTimes) (defScope sTmTimes) .none mkV1_5 mdc1_5 mpm1_5 man1_5 mcd1_5 mct1_5), msl1_5⟩) (mc1_5 : PySem.W.codeIn K mcd1_5 "TableMeasure.of_times" = true) (mk1_5 : PySem.W.keepIn K (.ref mf1_5) = true)
    (ca2 : PySem.W.nsIn K mainGlobals "StepsMeasure" = some (some (.ref C2))) (cb2 : PySem.W.plainGet K C2 Str.empty = true) (cc2 : PySem.W.hasDictIn K C2 = true) (cd_2 : PySem.W.plainOver K C2 = true) (ce2 : PySem.W.findIn K (.ref C2) "__setattr__" = some (some (.builtin "object.__setattr__"))) (cf2 : PySem.W.makesIn K C2 = true) (cg2 : PySem.W.keepIn K (.ref C2) = true)
    (ch2 : PySem.W.findIn K (.ref C2) "__init__" = some (some (.builtin "object.__init__")))
    (ma2_1 : PySem.W.findIn K (.ref C2) "of_deed" = some (some (.ref mf2_1))) (mi2_1 : PySem.W.isFn K (.ref mf2_1) = true) (ml2_1 : K.lookup mf2_1 = some ⟨moc2_1, mod2_1, .func (PySem.W.fnOf "of_deed" "StepsMeasure.of_deed" (defArgs sSmDeed) (defBody sSmDeed) (defScope sSmDeed) .none mkV2_1 mdc2_1 mpm2_1 man2_1 mcd2_1 mct2_1), msl2_1⟩) (mc2_1 : PySem.W.codeIn K mcd2_1 "StepsMeasure.of_deed" = true) (mk2_1 : PySem.W.keepIn K (.ref mf2_1) = true)
    (ma2_2 : PySem.W.findIn K (.ref C2) "of_row" = some (some (.ref mf2_2))) (mi2_2 : PySem.W.isFn K (.ref mf2_2) = true) (ml2_2 : K.lookup mf2_2 = some ⟨moc2_2, mod2_2, .func (PySem.W.fnOf "of_row" "StepsMeasure.of_row" (defArgs sSmRow) (defBody sSmRow) (defScope sSmRow) .none mkV2_2 mdc2_2 mpm2_2 man2_2 mcd2_2 mct2_2), msl2_2⟩) (mc2_2 : PySem.W.codeIn K mcd2_2 "StepsMeasure.of_row" = true) (mk2_2 : PySem.W.keepIn K (.ref mf2_2) = true)
    (ma2_3 : PySem.W.findIn K (.ref C2) "of_back" = some (some (.ref mf2_3))) (mi2_3 : PySem.W.isFn K (.ref mf2_3) = true) (ml2_3 : K.lookup mf2_3 = some ⟨moc2_3, mod2_3, .func (PySem.W.fnOf "of_back" "StepsMeasure.of_back" (defArgs sSmBack) (defBody sSmBack) (defScope sSmBack) .none mkV2_3 mdc2_3 mpm2_3 man2_3 mcd2_3 mct2_3), msl2_3⟩) (mc2_3 : PySem.W.codeIn K mcd2_3 "StepsMeasure.of_back" = true) (mk2_3 : PySem.W.keepIn K (.ref mf2_3) = true)
    (ma2_4 : PySem.W.findIn K (.ref C2) "of_times" = some (some (.ref mf2_4))) (mi2_4 : PySem.W.isFn K (.ref mf2_4) = true) (ml2_4 : K.lookup mf2_4 = some ⟨moc2_4, mod2_4, .func (PySem.W.fnOf "of_times" "StepsMeasure.of_times" (defArgs sSmTimes) (defBody sSmTimes) (defScope sSmTimes) .none mkV2_4 mdc2_4 mpm2_4 man2_4 mcd2_4 mct2_4), msl2_4⟩) (mc2_4 : PySem.W.codeIn K mcd2_4 "StepsMeasure.of_times" = true) (mk2_4 : PySem.W.keepIn K (.ref mf2_4) = true)
    (a1 : PySem.W.nsIn K mainGlobals "lots_of" = some (some (.ref f1))) (l1 : K.lookup f1 = some ⟨oc1, od1, .func (PySem.W.fnOf "lots_of" "lots_of" (defArgs sLotsOf) (defBody sLotsOf) (defScope sLotsOf) .none kV1 dc1 pm1 an1 cd1 ct1), sl1⟩) (c1 : PySem.W.codeIn K cd1 "lots_of" = true) (k1 : PySem.W.keepIn K (.ref f1) = true)
    (a2 : PySem.W.nsIn K mainGlobals "all_lots" = some (some (.ref f2))) (l2 : K.lookup f2 = some ⟨oc2, od2, .func (PySem.W.fnOf "all_lots" "all_lots" (defArgs sAllLots) (defBody sAllLots) (defScope sAllLots) .none kV2 dc2 pm2 an2 cd2 ct2), sl2⟩) (c2 : PySem.W.codeIn K cd2 "all_lots" = true) (k2 : PySem.W.keepIn K (.ref f2) = true)
    (a3 : PySem.W.nsIn K mainGlobals "done" = some (some (.ref f3))) (l3 : K.lookup f3 = some ⟨oc3, od3, .func (PySem.W.fnOf "done" "done" (defArgs sDone) (defBody sDone) (defScope sDone) .none kV3 dc3 pm3 an3 cd3 ct3), sl3⟩) (c3 : PySem.W.codeIn K cd3 "done" = true) (k3 : PySem.W.keepIn K (.ref f3) = true)
    (a4 : PySem.W.nsIn K mainGlobals "program_worth" = some (some (.ref f4))) (l4 : K.lookup f4 = some ⟨oc4, od4, .func (PySem.W.fnOf "program_worth" "program_worth" (defArgs sProgramWorth) (defBody sProgramWorth) (defScope sProgramWorth) .none kV4 dc4 pm4 an4 cd4 ct4), sl4⟩) (c4 : PySem.W.codeIn K cd4 "program_worth" = true) (k4 : PySem.W.keepIn K (.ref f4) = true)
    (a5 : PySem.W.nsIn K mainGlobals "term_worth" = some (some (.ref f5))) (l5 : K.lookup f5 = some ⟨oc5, od5, .func (PySem.W.fnOf "term_worth" "term_worth" (defArgs sTermWorth) (defBody sTermWorth) (defScope sTermWorth) .none kV5 dc5 pm5 an5 cd5 ct5), sl5⟩) (c5 : PySem.W.codeIn K cd5 "term_worth" = true) (k5 : PySem.W.keepIn K (.ref f5) = true)
    (a6 : PySem.W.nsIn K mainGlobals "goal" = some (some (.ref f6))) (l6 : K.lookup f6 = some ⟨oc6, od6, .func (PySem.W.fnOf "goal" "goal" (defArgs sGoal) (defBody sGoal) (defScope sGoal) .none kV6 dc6 pm6 an6 cd6 ct6), sl6⟩) (c6 : PySem.W.codeIn K cd6 "goal" = true) (k6 : PySem.W.keepIn K (.ref f6) = true)
    (a7 : PySem.W.nsIn K mainGlobals "still" = some (some (.ref f7))) (l7 : K.lookup f7 = some ⟨oc7, od7, .func (PySem.W.fnOf "still" "still" (defArgs sStill) (defBody sStill) (defScope sStill) .none kV7 dc7 pm7 an7 cd7 ct7), sl7⟩) (c7 : PySem.W.codeIn K cd7 "still" = true) (k7 : PySem.W.keepIn K (.ref f7) = true)
    (a8 : PySem.W.nsIn K mainGlobals "ways_table" = some (some (.ref f8))) (l8 : K.lookup f8 = some ⟨oc8, od8, .func (PySem.W.fnOf "ways_table" "ways_table" (defArgs sWays) (defBody sWays) (defScope sWays) .none kV8 dc8 pm8 an8 cd8 ct8), sl8⟩) (c8 : PySem.W.codeIn K cd8 "ways_table" = true) (k8 : PySem.W.keepIn K (.ref f8) = true)
    (a9 : PySem.W.nsIn K mainGlobals "_entry_by" = some (some (.ref f9))) (l9 : K.lookup f9 = some ⟨oc9, od9, .func (PySem.W.fnOf "_entry_by" "_entry_by" (defArgs sEntryBy) (defBody sEntryBy) (defScope sEntryBy) .none kV9 dc9 pm9 an9 cd9 ct9), sl9⟩) (c9 : PySem.W.codeIn K cd9 "_entry_by" = true) (k9 : PySem.W.keepIn K (.ref f9) = true)
    (a10 : PySem.W.nsIn K mainGlobals "deed_table" = some (some (.ref f10))) (l10 : K.lookup f10 = some ⟨oc10, od10, .func (PySem.W.fnOf "deed_table" "deed_table" (defArgs sDeedTable) (defBody sDeedTable) (defScope sDeedTable) .none kV10 dc10 pm10 an10 cd10 ct10), sl10⟩) (c10 : PySem.W.codeIn K cd10 "deed_table" = true) (k10 : PySem.W.keepIn K (.ref f10) = true)
    (a11 : PySem.W.nsIn K mainGlobals "both" = some (some (.ref f11))) (l11 : K.lookup f11 = some ⟨oc11, od11, .func (PySem.W.fnOf "both" "both" (defArgs sBoth) (defBody sBoth) (defScope sBoth) .none kV11 dc11 pm11 an11 cd11 ct11), sl11⟩) (c11 : PySem.W.codeIn K cd11 "both" = true) (k11 : PySem.W.keepIn K (.ref f11) = true)
    (a12 : PySem.W.nsIn K mainGlobals "numbers_of_lots" = some (some (.ref f12))) (l12 : K.lookup f12 = some ⟨oc12, od12, .func (PySem.W.fnOf "numbers_of_lots" "numbers_of_lots" (defArgs sNumbers) (defBody sNumbers) (defScope sNumbers) .none kV12 dc12 pm12 an12 cd12 ct12), sl12⟩) (c12 : PySem.W.codeIn K cd12 "numbers_of_lots" = true) (k12 : PySem.W.keepIn K (.ref f12) = true)
    (a13 : PySem.W.nsIn K mainGlobals "undone" = some (some (.ref f13))) (l13 : K.lookup f13 = some ⟨oc13, od13, .func (PySem.W.fnOf "undone" "undone" (defArgs sUndone) (defBody sUndone) (defScope sUndone) .none kV13 dc13 pm13 an13 cd13 ct13), sl13⟩) (c13 : PySem.W.codeIn K cd13 "undone" = true) (k13 : PySem.W.keepIn K (.ref f13) = true)
    (a14 : PySem.W.nsIn K mainGlobals "aims_of" = some (some (.ref f14))) (l14 : K.lookup f14 = some ⟨oc14, od14, .func (PySem.W.fnOf "aims_of" "aims_of" (defArgs sAims) (defBody sAims) (defScope sAims) .none kV14 dc14 pm14 an14 cd14 ct14), sl14⟩) (c14 : PySem.W.codeIn K cd14 "aims_of" = true) (k14 : PySem.W.keepIn K (.ref f14) = true)
    (a15 : PySem.W.nsIn K mainGlobals "turned_back" = some (some (.ref f15))) (l15 : K.lookup f15 = some ⟨oc15, od15, .func (PySem.W.fnOf "turned_back" "turned_back" (defArgs sTurnedBack) (defBody sTurnedBack) (defScope sTurnedBack) .none kV15 dc15 pm15 an15 cd15 ct15), sl15⟩) (c15 : PySem.W.codeIn K cd15 "turned_back" = true) (k15 : PySem.W.keepIn K (.ref f15) = true)
    (a16 : PySem.W.nsIn K mainGlobals "power" = some (some (.ref f16))) (l16 : K.lookup f16 = some ⟨oc16, od16, .func (PySem.W.fnOf "power" "power" (defArgs sPower) (defBody sPower) (defScope sPower) .none kV16 dc16 pm16 an16 cd16 ct16), sl16⟩) (c16 : PySem.W.codeIn K cd16 "power" = true) (k16 : PySem.W.keepIn K (.ref f16) = true)
    (a17 : PySem.W.nsIn K mainGlobals "_entry_of" = some (some (.ref f17))) (l17 : K.lookup f17 = some ⟨oc17, od17, .func (PySem.W.fnOf "_entry_of" "_entry_of" (defArgs sEntryOf) (defBody sEntryOf) (defScope sEntryOf) .none kV17 dc17 pm17 an17 cd17 ct17), sl17⟩) (c17 : PySem.W.codeIn K cd17 "_entry_of" = true) (k17 : PySem.W.keepIn K (.ref f17) = true)
    (a18 : PySem.W.nsIn K mainGlobals "_circles" = some (some (.ref f18))) (l18 : K.lookup f18 = some ⟨oc18, od18, .func (PySem.W.fnOf "_circles" "_circles" (defArgs sCircles) (defBody sCircles) (defScope sCircles) .none kV18 dc18 pm18 an18 cd18 ct18), sl18⟩) (c18 : PySem.W.codeIn K cd18 "_circles" = true) (k18 : PySem.W.keepIn K (.ref f18) = true)
    (a19 : PySem.W.nsIn K mainGlobals "steps_of" = some (some (.ref f19))) (l19 : K.lookup f19 = some ⟨oc19, od19, .func (PySem.W.fnOf "steps_of" "steps_of" (defArgs sStepsOf) (defBody sStepsOf) (defScope sStepsOf) .none kV19 dc19 pm19 an19 cd19 ct19), sl19⟩) (c19 : PySem.W.codeIn K cd19 "steps_of" = true) (k19 : PySem.W.keepIn K (.ref f19) = true)
    (a20 : PySem.W.nsIn K mainGlobals "table_of" = some (some (.ref f20))) (l20 : K.lookup f20 = some ⟨oc20, od20, .func (PySem.W.fnOf "table_of" "table_of" (defArgs sTableOf) (defBody sTableOf) (defScope sTableOf) .none kV20 dc20 pm20 an20 cd20 ct20), sl20⟩) (c20 : PySem.W.codeIn K cd20 "table_of" = true) (k20 : PySem.W.keepIn K (.ref f20) = true)
    (a21 : PySem.W.nsIn K mainGlobals "run" = some (some (.ref f21))) (l21 : K.lookup f21 = some ⟨oc21, od21, .func (PySem.W.fnOf "run" "run" (defArgs sRun) (defBody sRun) (defScope sRun) .none kV21 dc21 pm21 an21 cd21 ct21), sl21⟩) (c21 : PySem.W.codeIn K cd21 "run" = true) (k21 : PySem.W.keepIn K (.ref f21) = true)
    (a22 : PySem.W.nsIn K mainGlobals "_law_box" = some (some (.ref f22))) (l22 : K.lookup f22 = some ⟨oc22, od22, .func (PySem.W.fnOf "_law_box" "_law_box" (defArgs sBox) (defBody sBox) (defScope sBox) .none kV22 dc22 pm22 an22 cd22 ct22), sl22⟩) (c22 : PySem.W.codeIn K cd22 "_law_box" = true) (k22 : PySem.W.keepIn K (.ref f22) = true)
    (a23 : PySem.W.nsIn K mainGlobals "_law_draw" = some (some (.ref f23))) (l23 : K.lookup f23 = some ⟨oc23, od23, .func (PySem.W.fnOf "_law_draw" "_law_draw" (defArgs sDraw) (defBody sDraw) (defScope sDraw) .none kV23 dc23 pm23 an23 cd23 ct23), sl23⟩) (c23 : PySem.W.codeIn K cd23 "_law_draw" = true) (k23 : PySem.W.keepIn K (.ref f23) = true)
    (a24 : PySem.W.nsIn K mainGlobals "_law_pick" = some (some (.ref f24))) (l24 : K.lookup f24 = some ⟨oc24, od24, .func (PySem.W.fnOf "_law_pick" "_law_pick" (defArgs sPick) (defBody sPick) (defScope sPick) .none kV24 dc24 pm24 an24 cd24 ct24), sl24⟩) (c24 : PySem.W.codeIn K cd24 "_law_pick" = true) (k24 : PySem.W.keepIn K (.ref f24) = true)
    (a25 : PySem.W.nsIn K mainGlobals "_law_mixed" = some (some (.ref f25))) (l25 : K.lookup f25 = some ⟨oc25, od25, .func (PySem.W.fnOf "_law_mixed" "_law_mixed" (defArgs sMixed) (defBody sMixed) (defScope sMixed) .none kV25 dc25 pm25 an25 cd25 ct25), sl25⟩) (c25 : PySem.W.codeIn K cd25 "_law_mixed" = true) (k25 : PySem.W.keepIn K (.ref f25) = true)
    (a26 : PySem.W.nsIn K mainGlobals "_law_every" = some (some (.ref f26))) (l26 : K.lookup f26 = some ⟨oc26, od26, .func (PySem.W.fnOf "_law_every" "_law_every" (defArgs sEvery) (defBody sEvery) (defScope sEvery) .none kV26 dc26 pm26 an26 cd26 ct26), sl26⟩) (c26 : PySem.W.codeIn K cd26 "_law_every" = true) (k26 : PySem.W.keepIn K (.ref f26) = true)
    (a27 : PySem.W.nsIn K mainGlobals "_law_deed" = some (some (.ref f27))) (l27 : K.lookup f27 = some ⟨oc27, od27, .func (PySem.W.fnOf "_law_deed" "_law_deed" (defArgs sDeed) (defBody sDeed) (defScope sDeed) .none kV27 dc27 pm27 an27 cd27 ct27), sl27⟩) (c27 : PySem.W.codeIn K cd27 "_law_deed" = true) (k27 : PySem.W.keepIn K (.ref f27) = true)
    (a28 : PySem.W.nsIn K mainGlobals "_law_term" = some (some (.ref f28))) (l28 : K.lookup f28 = some ⟨oc28, od28, .func (PySem.W.fnOf "_law_term" "_law_term" (defArgs sLTerm) (defBody sLTerm) (defScope sLTerm) .none kV28 dc28 pm28 an28 cd28 ct28), sl28⟩) (c28 : PySem.W.codeIn K cd28 "_law_term" = true) (k28 : PySem.W.keepIn K (.ref f28) = true)
    (a29 : PySem.W.nsIn K mainGlobals "_law_length" = some (some (.ref f29))) (l29 : K.lookup f29 = some ⟨oc29, od29, .func (PySem.W.fnOf "_law_length" "_law_length" (defArgs sLLength) (defBody sLLength) (defScope sLLength) .none kV29 dc29 pm29 an29 cd29 ct29), sl29⟩) (c29 : PySem.W.codeIn K cd29 "_law_length" = true) (k29 : PySem.W.keepIn K (.ref f29) = true)
    (a30 : PySem.W.nsIn K mainGlobals "_law_program" = some (some (.ref f30))) (l30 : K.lookup f30 = some ⟨oc30, od30, .func (PySem.W.fnOf "_law_program" "_law_program" (defArgs sLProgram) (defBody sLProgram) (defScope sLProgram) .none kV30 dc30 pm30 an30 cd30 ct30), sl30⟩) (c30 : PySem.W.codeIn K cd30 "_law_program" = true) (k30 : PySem.W.keepIn K (.ref f30) = true)
    (a31 : PySem.W.nsIn K mainGlobals "_law_moves" = some (some (.ref f31))) (l31 : K.lookup f31 = some ⟨oc31, od31, .func (PySem.W.fnOf "_law_moves" "_law_moves" (defArgs sLMoves) (defBody sLMoves) (defScope sLMoves) .none kV31 dc31 pm31 an31 cd31 ct31), sl31⟩) (c31 : PySem.W.codeIn K cd31 "_law_moves" = true) (k31 : PySem.W.keepIn K (.ref f31) = true)
    (a32 : PySem.W.nsIn K mainGlobals "_law_all_moves" = some (some (.ref f32))) (l32 : K.lookup f32 = some ⟨oc32, od32, .func (PySem.W.fnOf "_law_all_moves" "_law_all_moves" (defArgs sLAllMoves) (defBody sLAllMoves) (defScope sLAllMoves) .none kV32 dc32 pm32 an32 cd32 ct32), sl32⟩) (c32 : PySem.W.codeIn K cd32 "_law_all_moves" = true) (k32 : PySem.W.keepIn K (.ref f32) = true)
    (a33 : PySem.W.nsIn K mainGlobals "_law_standing" = some (some (.ref f33))) (l33 : K.lookup f33 = some ⟨oc33, od33, .func (PySem.W.fnOf "_law_standing" "_law_standing" (defArgs sLStanding) (defBody sLStanding) (defScope sLStanding) .none kV33 dc33 pm33 an33 cd33 ct33), sl33⟩) (c33 : PySem.W.codeIn K cd33 "_law_standing" = true) (k33 : PySem.W.keepIn K (.ref f33) = true)
    (a34 : PySem.W.nsIn K mainGlobals "_law_through" = some (some (.ref f34))) (l34 : K.lookup f34 = some ⟨oc34, od34, .func (PySem.W.fnOf "_law_through" "_law_through" (defArgs sLThrough) (defBody sLThrough) (defScope sLThrough) .none kV34 dc34 pm34 an34 cd34 ct34), sl34⟩) (c34 : PySem.W.codeIn K cd34 "_law_through" = true) (k34 : PySem.W.keepIn K (.ref f34) = true)
    (a35 : PySem.W.nsIn K mainGlobals "_law_dressed" = some (some (.ref f35))) (l35 : K.lookup f35 = some ⟨oc35, od35, .func (PySem.W.fnOf "_law_dressed" "_law_dressed" (defArgs sLDressed) (defBody sLDressed) (defScope sLDressed) .none kV35 dc35 pm35 an35 cd35 ct35), sl35⟩) (c35 : PySem.W.codeIn K cd35 "_law_dressed" = true) (k35 : PySem.W.keepIn K (.ref f35) = true)
    (a36 : PySem.W.nsIn K mainGlobals "_law_stirred" = some (some (.ref f36))) (l36 : K.lookup f36 = some ⟨oc36, od36, .func (PySem.W.fnOf "_law_stirred" "_law_stirred" (defArgs sLStirred) (defBody sLStirred) (defScope sLStirred) .none kV36 dc36 pm36 an36 cd36 ct36), sl36⟩) (c36 : PySem.W.codeIn K cd36 "_law_stirred" = true) (k36 : PySem.W.keepIn K (.ref f36) = true)
    (a37 : PySem.W.nsIn K mainGlobals "_law_apart" = some (some (.ref f37))) (l37 : K.lookup f37 = some ⟨oc37, od37, .func (PySem.W.fnOf "_law_apart" "_law_apart" (defArgs sLApart) (defBody sLApart) (defScope sLApart) .none kV37 dc37 pm37 an37 cd37 ct37), sl37⟩) (c37 : PySem.W.codeIn K cd37 "_law_apart" = true) (k37 : PySem.W.keepIn K (.ref f37) = true)
    (a38 : PySem.W.nsIn K mainGlobals "_law_spoilt" = some (some (.ref f38))) (l38 : K.lookup f38 = some ⟨oc38, od38, .func (PySem.W.fnOf "_law_spoilt" "_law_spoilt" (defArgs sLSpoilt) (defBody sLSpoilt) (defScope sLSpoilt) .none kV38 dc38 pm38 an38 cd38 ct38), sl38⟩) (c38 : PySem.W.codeIn K cd38 "_law_spoilt" = true) (k38 : PySem.W.keepIn K (.ref f38) = true)
    (a39 : PySem.W.nsIn K mainGlobals "law" = some (some (.ref f39))) (l39 : K.lookup f39 = some ⟨oc39, od39, .func (PySem.W.fnOf "law" "law" (defArgs sLaw) (defBody sLaw) (defScope sLaw) .none kV39 dc39 pm39 an39 cd39 ct39), sl39⟩) (c39 : PySem.W.codeIn K cd39 "law" = true) (k39 : PySem.W.keepIn K (.ref f39) = true)
    (z1 : PySem.W.nsIn K mainGlobals "len" = some none)
    (z2 : PySem.W.nsIn K mainGlobals "abs" = some none)
    (z3 : PySem.W.nsIn K mainGlobals "int" = some none)
    (z4 : PySem.W.nsIn K mainGlobals "bool" = some none)
    (z5 : PySem.W.nsIn K mainGlobals "tuple" = some none)
    (z6 : PySem.W.nsIn K mainGlobals "list" = some none)
    (z7 : PySem.W.nsIn K mainGlobals "range" = some none)
    (z8 : PySem.W.nsIn K mainGlobals "zip" = some none)
    (z9 : PySem.W.nsIn K mainGlobals "repr" = some none)
    (z10 : PySem.W.nsIn K mainGlobals "enumerate" = some none)
    (z11 : PySem.W.nsIn K mainGlobals "isinstance" = some none)
    (z12 : PySem.W.nsIn K mainGlobals "all" = some none)
    (z13 : PySem.W.nsIn K mainGlobals "sorted" = some none)
    (z14 : PySem.W.nsIn K mainGlobals "set" = some none)
    (z15 : PySem.W.nsIn K mainGlobals "sum" = some none)
    (z16 : PySem.W.nsIn K mainGlobals "min" = some none)
    (z17 : PySem.W.nsIn K mainGlobals "max" = some none)
    (z18 : PySem.W.nsIn K mainGlobals "any" = some none)
    (z19 : PySem.W.nsIn K mainGlobals "str" = some none)
    (m : PySem.W.nsIn K mainGlobals "MAX_TABLE" = some (some (.int 6 tM)))
    (ms : PySem.W.nsIn K mainGlobals "MAX_STEPS" = some (some (.int 5000 tS)))
    (e2 : PySem.W.nsIn K mainGlobals "RidersError" = some (some (.ref R)))
    (e3 : PySem.W.nsIn K mainGlobals "TooMany" = some (some (.ref T)))
    (y5 : PySem.W.specialIn K (.builtin "object.__class__") "__get__" = some (some (.builtin "getset_descriptor.__get__")))
    (y6 : PySem.W.takesIn K (.builtin "object.__class__") = some true)
    (tL : K.lookup T = some (excClassObj nm q T N bs bm true sn sub ab col dd m0 m1 m2 m3 m5 "ValueError.__new__"))
    (tb : PySem.HandSPX.refsVE bm = true)
    (t1 : PySem.W.findIn K (.ref T) "__setattr__" = some (some (.builtin "object.__setattr__")))
    (t2 : PySem.W.findIn K (.ref T) "__getattribute__" = some (some (.builtin "BaseException.__getattribute__")))
    (t3 : PySem.W.findIn K (.ref T) "__getattr__" = some none)
    (t4 : PySem.W.findIn K (.ref T) "limit" = some none)
    (t5 : PySem.W.findIn K (.ref T) "__init__" = some (some (.ref fI)))
    (t6 : PySem.W.typeIn K (.ref fI) = some (.type "function"))
    (t7 : K.lookup fI = some ⟨ocI, odI, .func (PySem.W.fnOf "__init__" "TooMany.__init__" (PySem.TooX.iA ⟨8, 17, 8, 21⟩ ⟨8, 23, 8, 28⟩) (PySem.TooX.iB ⟨9, 8, 9, 12⟩ ⟨9, 8, 9, 18⟩ ⟨9, 21, 9, 26⟩ ⟨9, 8, 9, 26⟩) PySem.TooX.iS .none .none dcI pmI anI cdI ctI), slI⟩)
    (t8 : PySem.W.codeIn K cdI "TooMany.__init__" = true)
    (u1 : PySem.W.keepIn K (.ref T) = true)
    (u2 : PySem.W.subIn K (.ref T) (.type "BaseException") = some true)
    (u3 : PySem.W.typeIn K (.ref T) = some (.type "type"))
    (u4 : PySem.W.hasDictIn K T = true)
    (u5 : PySem.W.subIn K (.ref T) (.ref T) = some true)
    (u6 : PySem.W.kitOne K (.ref T) (.ref R) = some true)
    (u7 : PySem.W.findIn K (.ref T) "__class__" = some (some (.builtin "object.__class__")))
    (u8 : PySem.W.mroIn K T (.type "object") = some true)
    : ∃ fd : FuncData, (∀ (s : Shared) (u : Value), BindsTo s fd ⟨[u], []⟩ [("script", u)]) ∧ ∀ base : Heap, K.In base → base.Ns mainGlobals mg → FnG l.prog w K mg base CX0 20 fa fd ["script"] (spLaw K) := by
  have e := hfa.symm.trans (PySem.W.mg_of X G a39)
  cases e
  have D1 : Df K mg "lots_of" sLotsOf ["n", "size"] := df_mk X G a1 l1 c1 k1 fun _ _ _ _ _ _ us hl => match us, hl with | [_, _], _ => rfl
  have D2 : Df K mg "all_lots" sAllLots ["n"] := df_mk X G a2 l2 c2 k2 fun _ _ _ _ _ _ us hl => match us, hl with | [_], _ => rfl
  have D3 : Df K mg "done" sDone ["standing", "deed"] := df_mk X G a3 l3 c3 k3 fun _ _ _ _ _ _ us hl => match us, hl with | [_, _], _ => rfl
  have D4 : Df K mg "program_worth" sProgramWorth ["program", "measure"] := df_mk X G a4 l4 c4 k4 fun _ _ _ _ _ _ us hl => match us, hl with | [_, _], _ => rfl
  have D5 : Df K mg "term_worth" sTermWorth ["term", "worths", "measure"] := df_mk X G a5 l5 c5 k5 fun _ _ _ _ _ _ us hl => match us, hl with | [_, _, _], _ => rfl
  have D6 : Df K mg "goal" sGoal ["n", "entry"] := df_mk X G a6 l6 c6 k6 fun _ _ _ _ _ _ us hl => match us, hl with | [_, _], _ => rfl
  have D7 : Df K mg "still" sStill ["n"] := df_mk X G a7 l7 c7 k7 fun _ _ _ _ _ _ us hl => match us, hl with | [_], _ => rfl
  have D8 : Df K mg "ways_table" sWays ["n", "ways"] := df_mk X G a8 l8 c8 k8 fun _ _ _ _ _ _ us hl => match us, hl with | [_, _], _ => rfl
  have D9 : Df K mg "_entry_by" sEntryBy ["lot", "ways"] := df_mk X G a9 l9 c9 k9 fun _ _ _ _ _ _ us hl => match us, hl with | [_, _], _ => rfl
  have D10 : Df K mg "deed_table" sDeedTable ["n", "deed"] := df_mk X G a10 l10 c10 k10 fun _ _ _ _ _ _ us hl => match us, hl with | [_, _], _ => rfl
  have D11 : Df K mg "both" sBoth ["n", "one", "other"] := df_mk X G a11 l11 c11 k11 fun _ _ _ _ _ _ us hl => match us, hl with | [_, _, _], _ => rfl
  have D12 : Df K mg "numbers_of_lots" sNumbers ["n"] := df_mk X G a12 l12 c12 k12 fun _ _ _ _ _ _ us hl => match us, hl with | [_], _ => rfl
  have D13 : Df K mg "undone" sUndone ["n", "table"] := df_mk X G a13 l13 c13 k13 fun _ _ _ _ _ _ us hl => match us, hl with | [_, _], _ => rfl
  have D14 : Df K mg "aims_of" sAims ["n", "table"] := df_mk X G a14 l14 c14 k14 fun _ _ _ _ _ _ us hl => match us, hl with | [_, _], _ => rfl
  have D15 : Df K mg "turned_back" sTurnedBack ["entry"] := df_mk X G a15 l15 c15 k15 fun _ _ _ _ _ _ us hl => match us, hl with | [_], _ => rfl
  have D16 : Df K mg "power" sPower ["n", "table", "k"] := df_mk X G a16 l16 c16 k16 fun _ _ _ _ _ _ us hl => match us, hl with | [_, _, _], _ => rfl
  have D17 : Df K mg "_entry_of" sEntryOf ["n", "number", "behind"] := df_mk X G a17 l17 c17 k17 fun _ _ _ _ _ _ us hl => match us, hl with | [_, _, _], _ => rfl
  have D18 : Df K mg "_circles" sCircles ["n", "table"] := df_mk X G a18 l18 c18 k18 fun _ _ _ _ _ _ us hl => match us, hl with | [_, _], _ => rfl
  have D19 : Df K mg "steps_of" sStepsOf ["n", "table"] := df_mk X G a19 l19 c19 k19 fun _ _ _ _ _ _ us hl => match us, hl with | [_, _], _ => rfl
  have D20 : DfN K mg "table_of" sTableOf ["n", "program"] ["program", "n"] := ⟨_, _, fun_mk l20 c20 k20, (fun_mk l20 c20 k20).binds (fun _ _ _ _ _ _ us hl => match us, hl with | [_, _], _ => rfl), PySem.W.mg_of X G a20, kbn_of (fun_mk l20 c20 k20) (fun zs => zs.reverse) vals_swap fun _ _ _ _ _ _ ws hl => match ws, hl with | [_, _], _ => rfl⟩
  have D21 : DfN K mg "run" sRun ["n", "program", "standing"] ["standing", "program", "n"] := ⟨_, _, fun_mk l21 c21 k21, (fun_mk l21 c21 k21).binds (fun _ _ _ _ _ _ us hl => match us, hl with | [_, _, _], _ => rfl), PySem.W.mg_of X G a21, kbn_of (fun_mk l21 c21 k21) (fun zs => zs.reverse) vals_swap fun _ _ _ _ _ _ ws hl => match ws, hl with | [_, _, _], _ => rfl⟩
  have D22 : Df K mg "_law_box" sBox ["script"] := df_mk X G a22 l22 c22 k22 fun _ _ _ _ _ _ us hl => match us, hl with | [_], _ => rfl
  have D23 : Df K mg "_law_draw" sDraw ["box", "many"] := df_mk X G a23 l23 c23 k23 fun _ _ _ _ _ _ us hl => match us, hl with | [_, _], _ => rfl
  have D24 : Df K mg "_law_pick" sPick ["box", "items"] := df_mk X G a24 l24 c24 k24 fun _ _ _ _ _ _ us hl => match us, hl with | [_, _], _ => rfl
  have D25 : Df K mg "_law_mixed" sMixed ["box", "items"] := df_mk X G a25 l25 c25 k25 fun _ _ _ _ _ _ us hl => match us, hl with | [_, _], _ => rfl
  have D26 : Df K mg "_law_every" sEvery ["n"] := df_mk X G a26 l26 c26 k26 fun _ _ _ _ _ _ us hl => match us, hl with | [_], _ => rfl
  have D27 : Df K mg "_law_deed" sDeed ["box", "n"] := df_mk X G a27 l27 c27 k27 fun _ _ _ _ _ _ us hl => match us, hl with | [_, _], _ => rfl
  have D28 : Df K mg "_law_term" sLTerm ["box", "n", "at", "deep"] := df_mk X G a28 l28 c28 k28 fun _ _ _ _ _ _ us hl => match us, hl with | [_, _, _, _], _ => rfl
  have D29 : Df K mg "_law_length" sLLength ["sizes", "term"] := df_mk X G a29 l29 c29 k29 fun _ _ _ _ _ _ us hl => match us, hl with | [_, _], _ => rfl
  have D30 : Df K mg "_law_program" sLProgram ["box", "n", "most"] := df_mk X G a30 l30 c30 k30 fun _ _ _ _ _ _ us hl => match us, hl with | [_, _, _], _ => rfl
  have D31 : Df K mg "_law_moves" sLMoves ["parts", "term"] := df_mk X G a31 l31 c31 k31 fun _ _ _ _ _ _ us hl => match us, hl with | [_, _], _ => rfl
  have D32 : Df K mg "_law_all_moves" sLAllMoves ["program"] := df_mk X G a32 l32 c32 k32 fun _ _ _ _ _ _ us hl => match us, hl with | [_], _ => rfl
  have D33 : Df K mg "_law_standing" sLStanding ["box", "n", "keys"] := df_mk X G a33 l33 c33 k33 fun _ _ _ _ _ _ us hl => match us, hl with | [_, _, _], _ => rfl
  have D34 : Df K mg "_law_through" sLThrough ["standing", "moves"] := df_mk X G a34 l34 c34 k34 fun _ _ _ _ _ _ us hl => match us, hl with | [_, _], _ => rfl
  have D35 : Df K mg "_law_dressed" sLDressed ["box", "n", "moves"] := df_mk X G a35 l35 c35 k35 fun _ _ _ _ _ _ us hl => match us, hl with | [_, _, _], _ => rfl
  have D36 : Df K mg "_law_stirred" sLStirred ["box", "moves"] := df_mk X G a36 l36 c36 k36 fun _ _ _ _ _ _ us hl => match us, hl with | [_, _], _ => rfl
  have D37 : Df K mg "_law_apart" sLApart ["box", "n"] := df_mk X G a37 l37 c37 k37 fun _ _ _ _ _ _ us hl => match us, hl with | [_, _], _ => rfl
  have D38 : Df K mg "_law_spoilt" sLSpoilt ["box", "n", "moves"] := df_mk X G a38 l38 c38 k38 fun _ _ _ _ _ _ us hl => match us, hl with | [_, _, _], _ => rfl
  have B : Bi mg := ⟨PySem.W.mg_none_of X G z1, PySem.W.mg_none_of X G z2, PySem.W.mg_none_of X G z3, PySem.W.mg_none_of X G z4, PySem.W.mg_none_of X G z5, PySem.W.mg_none_of X G z6, PySem.W.mg_none_of X G z7, PySem.W.mg_none_of X G z8, PySem.W.mg_none_of X G z9, PySem.W.mg_none_of X G z10, PySem.W.mg_none_of X G z11, PySem.W.mg_none_of X G z12, PySem.W.mg_none_of X G z13, PySem.W.mg_none_of X G z14, PySem.W.mg_none_of X G z15, PySem.W.mg_none_of X G z16, PySem.W.mg_none_of X G z17, PySem.W.mg_none_of X G z18, PySem.W.mg_none_of X G z19⟩
  have CL1 : Cls K C1 := ⟨cb1, cc1, cd_1, ce1⟩
  have MK1 : Mk K C1 mf1_1 := ⟨cf1, ma1_1, mi1_1, cg1⟩
  have GC1 := PySem.W.mg_of X G ca1
  have MF1_1 := fun_mk (st := sTmInit) ml1_1 mc1_1 mk1_1
  have MB1_1 := MF1_1.binds (ps := ["self", "n"]) (fun _ _ _ _ _ _ us hl => match us, hl with | [_, _], _ => rfl)
  have MM1_1 : Meth K C1 "__init__" mf1_1 := ⟨ma1_1, mi1_1, mk1_1⟩
  have MF1_2 := fun_mk (st := sTmDeed) ml1_2 mc1_2 mk1_2
  have MB1_2 := MF1_2.binds (ps := ["self", "deed"]) (fun _ _ _ _ _ _ us hl => match us, hl with | [_, _], _ => rfl)
  have MM1_2 : Meth K C1 "of_deed" mf1_2 := ⟨ma1_2, mi1_2, mk1_2⟩
  have MF1_3 := fun_mk (st := sTmRow) ml1_3 mc1_3 mk1_3
  have MB1_3 := MF1_3.binds (ps := ["self", "worths"]) (fun _ _ _ _ _ _ us hl => match us, hl with | [_, _], _ => rfl)
  have MM1_3 : Meth K C1 "of_row" mf1_3 := ⟨ma1_3, mi1_3, mk1_3⟩
  have MF1_4 := fun_mk (st := sTmBack) ml1_4 mc1_4 mk1_4
  have MB1_4 := MF1_4.binds (ps := ["self", "worth"]) (fun _ _ _ _ _ _ us hl => match us, hl with | [_, _], _ => rfl)
  have MM1_4 : Meth K C1 "of_back" mf1_4 := ⟨ma1_4, mi1_4, mk1_4⟩
  have MF1_5 := fun_mk (st := sTmTimes) ml1_5 mc1_5 mk1_5
  have MB1_5 := MF1_5.binds (ps := ["self", "worth", "k"]) (fun _ _ _ _ _ _ us hl => match us, hl with | [_, _, _], _ => rfl)
  have MM1_5 : Meth K C1 "of_times" mf1_5 := ⟨ma1_5, mi1_5, mk1_5⟩
  have CL2 : Cls K C2 := ⟨cb2, cc2, cd_2, ce2⟩
  have MP2 : MkP K C2 := ⟨cf2, ch2, cg2⟩
  have GC2 := PySem.W.mg_of X G ca2
  have MF2_1 := fun_mk (st := sSmDeed) ml2_1 mc2_1 mk2_1
  have MB2_1 := MF2_1.binds (ps := ["self", "deed"]) (fun _ _ _ _ _ _ us hl => match us, hl with | [_, _], _ => rfl)
  have MM2_1 : Meth K C2 "of_deed" mf2_1 := ⟨ma2_1, mi2_1, mk2_1⟩
  have MF2_2 := fun_mk (st := sSmRow) ml2_2 mc2_2 mk2_2
  have MB2_2 := MF2_2.binds (ps := ["self", "worths"]) (fun _ _ _ _ _ _ us hl => match us, hl with | [_, _], _ => rfl)
  have MM2_2 : Meth K C2 "of_row" mf2_2 := ⟨ma2_2, mi2_2, mk2_2⟩
  have MF2_3 := fun_mk (st := sSmBack) ml2_3 mc2_3 mk2_3
  have MB2_3 := MF2_3.binds (ps := ["self", "worth"]) (fun _ _ _ _ _ _ us hl => match us, hl with | [_, _], _ => rfl)
  have MM2_3 : Meth K C2 "of_back" mf2_3 := ⟨ma2_3, mi2_3, mk2_3⟩
  have MF2_4 := fun_mk (st := sSmTimes) ml2_4 mc2_4 mk2_4
  have MB2_4 := MF2_4.binds (ps := ["self", "worth", "k"]) (fun _ _ _ _ _ _ us hl => match us, hl with | [_, _, _], _ => rfl)
  have MM2_4 : Meth K C2 "of_times" mf2_4 := ⟨ma2_4, mi2_4, mk2_4⟩
  have TT : PySem.TooX.TooTxt K mg T fI :=
    { gC := PySem.W.mg_of X G e3, cls := ⟨nm, q, N, bs, bm, sn, sub, ab, col, dd, m0, m1, m2, m3, m5, tL, tb⟩, sa := t1, ga := t2, gg := t3, noN := t4, iC := t5, tC := t6, kC := u1, exC := u2, tyC := u3, hdC := u4, te := PySem.W.exm_ref u2 u4 u3 u5,
      fn := ⟨_, _, _, _, _, _, _, _, _, _, _, _, _, _, t7, t8⟩ }
  have gR := PySem.W.mg_of X G e2
  refine ⟨PySem.W.fnOf "law" "law" (defArgs sLaw) (defBody sLaw) (defScope sLaw) .none kV39 dc39 pm39 an39 cd39 ct39, fun s v => .of_eq rfl, fun base _ _ => ?_⟩
  have hM : ∃ t, mg "MAX_TABLE" = some (.int 6 t) := ⟨_, PySem.W.mg_of X G m⟩
  have hS : ∃ t, mg "MAX_STEPS" = some (.int 5000 t) := ⟨_, PySem.W.mg_of X G ms⟩
  have olo : Ok l.prog w K mg base 1 "lots_of" ["n", "size"] spLots := D1.ok fun _ _ F => f_lotsOf F B
  have oal := o_all6 D2 B hM olo
  have odo : Ok l.prog w K mg base 1 "done" ["standing", "deed"] spDone := D3.ok fun _ _ F => f_done F B
  have ogo := o_goal (P := l.prog) (w := w) (base := base) D6 B
  have oeb := o_entBy (P := l.prog) (w := w) (base := base) D9 B
  have owt := o_ways D8 B oal oeb
  have ost : Ok l.prog w K mg base 4 "still" ["n"] spStill := D7.ok fun _ _ F => f_still F B owt
  have odt : Ok l.prog w K mg base 3 "deed_table" ["n", "deed"] spDeedT := D10.ok fun _ _ F => f_deedTable F B oal oeb
  have onu := o_numbers D12 B oal
  have oai := o_aims D14 B ogo onu
  have obo : Ok l.prog w K mg base 5 "both" ["n", "one", "other"] spBoth := D11.ok fun _ _ F => f_both F B oai
  have otb := o_turnedBack (P := l.prog) (w := w) (base := base) D15 B
  have oun : Ok l.prog w K mg base 5 "undone" ["n", "table"] spUndone := D13.ok fun _ _ F => f_undone F B oai otb
  have osp := o_steps D19 B oai
  have oci := o_circles D18 B osp
  have oeo := o_entOf (P := l.prog) (w := w) (base := base) D17 B
  have opo : Ok l.prog w K mg base 7 "power" ["n", "table", "k"] spPower := D16.ok fun _ _ F => f_power F B oci oeo
  have TM : ∀ m (hm : m ≤ 6), MeaT l.prog w K mg base (tabR m hm) C1 8 _ _ _ _ _ _ _ _ _ _ _ _ := fun m hm => ⟨CL1, MM1_2, MM1_3, MM1_4, MM1_5, f_tmDeed MF1_2 CL1 ct_1_1 odt, f_tmRow MF1_3 CL1 ct_1_1 ost obo, f_tmBack MF1_4 CL1 ct_1_1 oun, f_tmTimes MF1_5 CL1 ct_1_1 opo, MB1_2, MB1_3, MB1_4, MB1_5⟩
  have SM : ∀ m, MeaT l.prog w K mg base (stepR m) C2 1 _ _ _ _ _ _ _ _ _ _ _ _ := fun m => ⟨CL2, MM2_1, MM2_2, MM2_3, MM2_4, f_smDeed MF2_1, f_smRow MF2_2 B hS, f_smBack MF2_3, f_smTimes MF2_4 B hS, MB2_1, MB2_2, MB2_3, MB2_4⟩
  have pwT : ∀ m (hm : m ≤ 6), Ok l.prog w K mg base (8 + 5 + 1) "program_worth" ["program", "measure"] (spPW (tabR m hm) C1 5) := fun m hm => o_progWorth D4 B (o_termWorth D5 B (TM m hm) 5)
  have pwS : ∀ m, Ok l.prog w K mg base (5 + 2) "program_worth" ["program", "measure"] (spPW (stepR m) C2 5) := fun m => o_progWorth D4 B (o_termWorth D5 B (SM m) 5)
  have oto : OkN l.prog w K mg base 15 "table_of" ["n", "program"] ["program", "n"] (spTableOf 5) := D20.okN fun _ _ F => f_tableOf F MK1 GC1 (f_tmInit MF1_1 CL1 ct_1_1) MB1_1 pwT
  have oru : OkN l.prog w K mg base 8 "run" ["n", "program", "standing"] ["standing", "program", "n"] (calmSp (spRun T 5)) := D21.okN fun _ _ F => fn_calm (f_run F B MP2 GC2 TT hS odo pwS)
  have obx := o_deck (P := l.prog) (w := w) (base := base) D22 B
  have odr := o_draw (P := l.prog) (w := w) (base := base) D23 B
  have opk := o_pick D24 B odr
  have omx := o_mixed D25 B odr
  have oev := o_every (P := l.prog) (w := w) (base := base) D26 B
  have ode := o_deed D27 B odr omx
  have otm := o_lTermP D28 B odr ode
  have oll := o_lLength (P := l.prog) (w := w) (base := base) D29 B
  have opr := o_lProgP D30 B odr ode (otm 4) (oll 4)
  have omo := o_lMoves (P := l.prog) (w := w) (base := base) D31 B
  have oam := o_lAllMoves D32 B (omo 5)
  have osd := o_lStandP D33 B odr
  have oth := o_lThrough (P := l.prog) (w := w) (base := base) D34 B
  have ods := o_lDressed D35 B odr ode
  have osr := o_lStirred D36 B odr
  have oap := o_lApart D37 B odr omx
  have osp2 := o_lSpoilt D38 B odr ode
  exact ok_law (fun_mk (st := sLaw) l39 c39 k39) B obx odr opk opr oam oto oev osd oth oru oap osr osp2 ods
end Kr
open PySem PySem.W PyProof.Rows
set_option maxHeartbeats 0 in
theorem PySem.Challenge.cw_keyriders_k18_whole_programs_alike_holds : PySem.Challenge.rw_keyriders_k18_whole_programs_alike.Holds := by
  w_on; o_law; k_head; (case hw => w_witness2)
  k_fill
  refine Kr.walkG (l := PySem.Challenge.rw_keyriders_k18_whole_programs_alike) (n := 63) (k := 20) (x := "script") (sp := Kr.spLaw) rfl (by decide) rfl ⟨rfl, by decide, by decide⟩ (fun w h Y => PySem.W.kIn_of Y) ?F (fun _ _ a ns hl _ hS => ⟨a, ns, rfl, hS, hl, fun _ => rfl⟩)
  case F =>
    intro w mg fa h KX G hmg
    refine' Kr.all_mk KX G hmg ?ca1 ?cb1 ?cc1 ?cd_1 ?ce1 ?cf1 ?cg1 ?ct_1_1 ?ma1_1 ?mi1_1 ?ml1_1 ?mc1_1 ?mk1_1 ?ma1_2 ?mi1_2 ?ml1_2 ?mc1_2 ?mk1_2 ?ma1_3 ?mi1_3 ?ml1_3 ?mc1_3 ?mk1_3 ?ma1_4 ?mi1_4 ?ml1_4 ?mc1_4 ?mk1_4 ?ma1_5 ?mi1_5 ?ml1_5 ?mc1_5 ?mk1_5 ?ca2 ?cb2 ?cc2 ?cd_2 ?ce2 ?cf2 ?cg2 ?ch2 ?ma2_1 ?mi2_1 ?ml2_1 ?mc2_1 ?mk2_1 ?ma2_2 ?mi2_2 ?ml2_2 ?mc2_2 ?mk2_2 ?ma2_3 ?mi2_3 ?ml2_3 ?mc2_3 ?mk2_3 ?ma2_4 ?mi2_4 ?ml2_4 ?mc2_4 ?mk2_4 ?a1 ?l1 ?c1 ?k1 ?a2 ?l2 ?c2 ?k2 ?a3 ?l3 ?c3 ?k3 ?a4 ?l4 ?c4 ?k4 ?a5 ?l5 ?c5 ?k5 ?a6 ?l6 ?c6 ?k6 ?a7 ?l7 ?c7 ?k7 ?a8 ?l8 ?c8 ?k8 ?a9 ?l9 ?c9 ?k9 ?a10 ?l10 ?c10 ?k10 ?a11 ?l11 ?c11 ?k11 ?a12 ?l12 ?c12 ?k12 ?a13 ?l13 ?c13 ?k13 ?a14 ?l14 ?c14 ?k14 ?a15 ?l15 ?c15 ?k15 ?a16 ?l16 ?c16 ?k16 ?a17 ?l17 ?c17 ?k17 ?a18 ?l18 ?c18 ?k18 ?a19 ?l19 ?c19 ?k19 ?a20 ?l20 ?c20 ?k20 ?a21 ?l21 ?c21 ?k21 ?a22 ?l22 ?c22 ?k22 ?a23 ?l23 ?c23 ?k23 ?a24 ?l24 ?c24 ?k24 ?a25 ?l25 ?c25 ?k25 ?a26 ?l26 ?c26 ?k26 ?a27 ?l27 ?c27 ?k27 ?a28 ?l28 ?c28 ?k28 ?a29 ?l29 ?c29 ?k29 ?a30 ?l30 ?c30 ?k30 ?a31 ?l31 ?c31 ?k31 ?a32 ?l32 ?c32 ?k32 ?a33 ?l33 ?c33 ?k33 ?a34 ?l34 ?c34 ?k34 ?a35 ?l35 ?c35 ?k35 ?a36 ?l36 ?c36 ?k36 ?a37 ?l37 ?c37 ?k37 ?a38 ?l38 ?c38 ?k38 ?a39 ?l39 ?c39 ?k39 ?z1 ?z2 ?z3 ?z4 ?z5 ?z6 ?z7 ?z8 ?z9 ?z10 ?z11 ?z12 ?z13 ?z14 ?z15 ?z16 ?z17 ?z18 ?z19 ?m ?ms ?e2 ?e3 ?y5 ?y6 ?tL ?tb ?t1 ?t2 ?t3 ?t4 ?t5 ?t6 ?t7 ?t8 ?u1 ?u2 ?u3 ?u4 ?u5 ?u6 ?u7 ?u8
    (case ca1 => k_is); (case cb1 => k_is); (case cc1 => k_is); (case cd_1 => k_is); (case ce1 => k_is); (case cf1 => k_is); (case cg1 => k_is); (case ct_1_1 => k_is); (case ma1_1 => k_is); (case mi1_1 => k_is); (case ml1_1 => k_is); (case mc1_1 => k_is); (case mk1_1 => k_is); (case ma1_2 => k_is); (case mi1_2 => k_is); (case ml1_2 => k_is); (case mc1_2 => k_is); (case mk1_2 => k_is); (case ma1_3 => k_is); (case mi1_3 => k_is); (case ml1_3 => k_is); (case mc1_3 => k_is); (case mk1_3 => k_is); (case ma1_4 => k_is); (case mi1_4 => k_is); (case ml1_4 => k_is); (case mc1_4 => k_is); (case mk1_4 => k_is); (case ma1_5 => k_is); (case mi1_5 => k_is); (case ml1_5 => k_is); (case mc1_5 => k_is); (case mk1_5 => k_is); (case ca2 => k_is); (case cb2 => k_is); (case cc2 => k_is); (case cd_2 => k_is); (case ce2 => k_is); (case cf2 => k_is); (case cg2 => k_is); (case ch2 => k_is); (case ma2_1 => k_is); (case mi2_1 => k_is); (case ml2_1 => k_is); (case mc2_1 => k_is); (case mk2_1 => k_is); (case ma2_2 => k_is); (case mi2_2 => k_is); (case ml2_2 => k_is); (case mc2_2 => k_is); (case mk2_2 => k_is); (case ma2_3 => k_is); (case mi2_3 => k_is); (case ml2_3 => k_is); (case mc2_3 => k_is); (case mk2_3 => k_is); (case ma2_4 => k_is); (case mi2_4 => k_is); (case ml2_4 => k_is); (case mc2_4 => k_is); (case mk2_4 => k_is); (case a1 => k_is); (case l1 => k_is); (case c1 => k_is); (case k1 => k_is); (case a2 => k_is); (case l2 => k_is); (case c2 => k_is); (case k2 => k_is); (case a3 => k_is); (case l3 => k_is); (case c3 => k_is); (case k3 => k_is); (case a4 => k_is); (case l4 => k_is); (case c4 => k_is); (case k4 => k_is); (case a5 => k_is); (case l5 => k_is); (case c5 => k_is); (case k5 => k_is); (case a6 => k_is); (case l6 => k_is); (case c6 => k_is); (case k6 => k_is); (case a7 => k_is); (case l7 => k_is); (case c7 => k_is); (case k7 => k_is); (case a8 => k_is); (case l8 => k_is); (case c8 => k_is); (case k8 => k_is); (case a9 => k_is); (case l9 => k_is); (case c9 => k_is); (case k9 => k_is); (case a10 => k_is); (case l10 => k_is); (case c10 => k_is); (case k10 => k_is); (case a11 => k_is); (case l11 => k_is); (case c11 => k_is); (case k11 => k_is); (case a12 => k_is); (case l12 => k_is); (case c12 => k_is); (case k12 => k_is); (case a13 => k_is); (case l13 => k_is); (case c13 => k_is); (case k13 => k_is); (case a14 => k_is); (case l14 => k_is); (case c14 => k_is); (case k14 => k_is); (case a15 => k_is); (case l15 => k_is); (case c15 => k_is); (case k15 => k_is); (case a16 => k_is); (case l16 => k_is); (case c16 => k_is); (case k16 => k_is); (case a17 => k_is); (case l17 => k_is); (case c17 => k_is); (case k17 => k_is); (case a18 => k_is); (case l18 => k_is); (case c18 => k_is); (case k18 => k_is); (case a19 => k_is); (case l19 => k_is); (case c19 => k_is); (case k19 => k_is); (case a20 => k_is); (case l20 => k_is); (case c20 => k_is); (case k20 => k_is); (case a21 => k_is); (case l21 => k_is); (case c21 => k_is); (case k21 => k_is); (case a22 => k_is); (case l22 => k_is); (case c22 => k_is); (case k22 => k_is); (case a23 => k_is); (case l23 => k_is); (case c23 => k_is); (case k23 => k_is); (case a24 => k_is); (case l24 => k_is); (case c24 => k_is); (case k24 => k_is); (case a25 => k_is); (case l25 => k_is); (case c25 => k_is); (case k25 => k_is); (case a26 => k_is); (case l26 => k_is); (case c26 => k_is); (case k26 => k_is); (case a27 => k_is); (case l27 => k_is); (case c27 => k_is); (case k27 => k_is); (case a28 => k_is); (case l28 => k_is); (case c28 => k_is); (case k28 => k_is); (case a29 => k_is); (case l29 => k_is); (case c29 => k_is); (case k29 => k_is); (case a30 => k_is); (case l30 => k_is); (case c30 => k_is); (case k30 => k_is); (case a31 => k_is); (case l31 => k_is); (case c31 => k_is); (case k31 => k_is); (case a32 => k_is); (case l32 => k_is); (case c32 => k_is); (case k32 => k_is); (case a33 => k_is); (case l33 => k_is); (case c33 => k_is); (case k33 => k_is); (case a34 => k_is); (case l34 => k_is); (case c34 => k_is); (case k34 => k_is); (case a35 => k_is); (case l35 => k_is); (case c35 => k_is); (case k35 => k_is); (case a36 => k_is); (case l36 => k_is); (case c36 => k_is); (case k36 => k_is); (case a37 => k_is); (case l37 => k_is); (case c37 => k_is); (case k37 => k_is); (case a38 => k_is); (case l38 => k_is); (case c38 => k_is); (case k38 => k_is); (case a39 => k_is); (case l39 => k_is); (case c39 => k_is); (case k39 => k_is); (case z1 => k_is); (case z2 => k_is); (case z3 => k_is); (case z4 => k_is); (case z5 => k_is); (case z6 => k_is); (case z7 => k_is); (case z8 => k_is); (case z9 => k_is); (case z10 => k_is); (case z11 => k_is); (case z12 => k_is); (case z13 => k_is); (case z14 => k_is); (case z15 => k_is); (case z16 => k_is); (case z17 => k_is); (case z18 => k_is); (case z19 => k_is); (case m => k_is); (case ms => k_is); (case e2 => k_is); (case e3 => k_is); (case y5 => k_is); (case y6 => k_is); (case tL => k_is); (case tb => rfl); (case t1 => k_is); (case t2 => k_is); (case t3 => k_is); (case t4 => k_is); (case t5 => k_is); (case t6 => k_is); (case t7 => k_is); (case t8 => k_is); (case u1 => k_is); (case u2 => k_is); (case u3 => k_is); (case u4 => k_is); (case u5 => k_is); (case u6 => kit_is); (case u7 => k_is); (case u8 => k_is)
