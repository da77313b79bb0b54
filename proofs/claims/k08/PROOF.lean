import PyProof.Rows.All
import Wide.All
import OpenK.AllK
import Wide.FinOn
import HandS.ForMost
import HandS.IsInst
import HandS.TupAny
import HandS.TupMul
import HandS.Walk
import HandS.Conv
import HandS.Zip
import HandS.SortInts
import HandS.Defaults
import PyProof.ReprReads
import PyProof.ReprRoads
import KE.KMathGC
import PyProof.ReprLen
import HandS.NoneIn
import KE.GoesEnum
import KE.KRevSl
import HandS.WordsExc
import HandS.ExcOwn
import HandS.ExcIs
import HandS.ExcInit
import HandS.Wide
import PyProof.EqKinds
import HandS.List
import PyProof.AutoSeq1
import PyProof.EqAt
import PyProof.TupleCall
import Open.SpecLaws
import KE.OsGo
import HandS.ForExc
import HandS.Style
import PySem.Challenge.RW_keyriders_k08_whole_runs_deed_by_deed
set_option Elab.async false
set_option linter.all false
set_option maxRecDepth 100000
set_option maxHeartbeats 4000000
namespace Kr
open PySem PySem.Spec PyProof.Rows L2
/-- the names of the built-ins are theirs -/
structure Bi (mg : Str → Option Value) : Prop where
  len : mg "len" = none
  abs : mg "abs" = none
  int : mg "int" = none
  bool : mg "bool" = none
  tuple : mg "tuple" = none
  list : mg "list" = none
  range : mg "range" = none
  zip : mg "zip" = none
  repr : mg "repr" = none
  enumerate : mg "enumerate" = none
  isinstance : mg "isinstance" = none
  all : mg "all" = none
  sorted : mg "sorted" = none
  set : mg "set" = none
  sum : mg "sum" = none
  min : mg "min" = none
  max : mg "max" = none
  any : mg "any" = none
  str : mg "str" = none
theorem sz {n : Nat} (h : n ≤ 100000) : n ≤ sizeLine := Nat.le_trans h (by decide)
theorem szl {n : Nat} (h : n < 100000) : n < sizeLine := Nat.lt_of_lt_of_le h (by decide)
/-- two ways that meet again -/
theorem join2 {c A : Prop} [Decidable c] {G R : Hp → Prop} {H2 : Hp} (tail : ∀ H3, R H3 → G H3) (h2 : ¬ c → R H2) (h1 : c → (∀ H3, R H3 → G H3) → A) : if c then A else G H2 :=
  ite2 (fun h => h1 h tail) fun h => tail _ (h2 h)
theorem same_new {H : Hp} {q : Addr} {o : HO} (h : H q = none) : Same H (upd H q o) := fun b x e => by
  rw [upd_ne (ne_of_none e h)]
  exact e
structure Df (K : PySem.W.Frag) (mg : Str → Option Value) (x : Str) (st : Stmt) (ps : List Str) : Prop where
  ex : ∃ f fd, Fun K x x st f fd ∧ Binds K fd ps [] ∧ mg x = some (.ref f)
structure Ok (P : Program) (w : World) (K : PySem.W.Frag) (mg : Str → Option Value) (base : Heap) (k : Nat) (x : Str) (ps : List Str) (sp : Sp) : Prop where
  ex : ∃ f fd, FnOk P w K mg base CX0 k f fd ps sp ∧ PySem.W.keepIn K (.ref f) = true ∧ mg x = some (.ref f) ∧ Binds K fd ps []
section
variable {P : Program} {w : World} {K : PySem.W.Frag} {mg : Str → Option Value} {base : Heap}
theorem Df.ok {x : Str} {st : Stmt} {ps : List Str} {k : Nat} {sp : Sp} (D : Df K mg x st ps) (h : ∀ f fd, Fun K x x st f fd → FnOk P w K mg base CX0 k f fd ps sp) : Ok P w K mg base k x ps sp := by
  obtain ⟨f, fd, F, b, g⟩ := D.ex
  exact ⟨f, fd, h f fd F, F.kp, g, b⟩
theorem Ok.mono {x : Str} {ps : List Str} {j k : Nat} {sp : Sp} (D : Ok P w K mg base j x ps sp) (h : j ≤ k) : Ok P w K mg base k x ps sp := by
  obtain ⟨f, fd, F, r⟩ := D.ex
  exact ⟨f, fd, F.mono h, r⟩
end
theorem pe_fn {X : Cx} {k : Nat} {x : Str} {ps : List Str} {sp : Sp} {p pos : Pos} {e : Expr} {es : List Expr} {t : TA} (D : Ok X.prog X.w X.K X.mg X.base k x ps sp) (hr : Room k X.A) (hg : Gl X x) (ha : PA X (e :: es) t)
    (hdb : (x == ("__debug__" : Str)) = false := by decide) (he : starEach (e :: es) X.env = (false, eval e X.env) :: starEach es X.env := by rfl) (hpl : (backTo pos (starEach es X.env)).any (·.1) = false := by rfl) :
    PE X (.Call (.Name x p) (e :: es) [] pos) (tCall sp [] E0 t) := by
  obtain ⟨f, fd, F, kp, g, b⟩ := D.ex
  exact pe_call F hr hg g kp b .nil pass0 ha hdb he hpl
theorem atI_int {α : Type} {xs : List α} {r : Int} {v : α} (h0 : 0 ≤ r) (h : xs[r.toNat]? = some v) : atI xs r = some v := by
  have e : r = ((r.toNat : Nat) : Int) := by omega
  rw [e]
  exact atI_nat h
end Kr
namespace Kr
open PySem PySem.Spec PyProof.Rows L2
/-- f(k = v, ..), names alone: how they bind -/
theorem kbn_of {K : PySem.W.Frag} {x qual : Str} {st : Stmt} {f : Addr} {fd : FuncData} {ps ks : List Str} (F : Fun K x qual st f fd) (g : {α : Type} → List α → List α)
    (hrel : ∀ {zs : List V} {ws : List Value}, Vals zs ws → Vals (g zs) (g ws))
    (h : ∀ (kV doc pm : Value) (an : Option Addr) (cdv ct : Value) (ws : List Value), ws.length = ks.length → bindArgs (PySem.W.fnOf x qual (defArgs st) (defBody st) (defScope st) .none kV doc pm an cdv ct) ⟨[], ks.zip ws⟩ = pure (ps.zip (g ws))) :
    KBn K fd ps 0 ks (fun _ ws => g ws) (fun _ zs => g zs) := by
  obtain ⟨oc, od, kV, doc, pm, an, cdv, ct, osl, rfl, lk, hcd⟩ := F.ex
  refine ⟨fun s us ws _ hu hw => ?_, fun _ r => hrel r⟩
  obtain rfl : us = [] := List.length_eq_zero_iff.mp hu
  exact .of_eq (h kV doc pm an cdv ct ws hw)
theorem vals_swap {zs : List V} {ws : List Value} (r : Vals zs ws) : Vals zs.reverse ws.reverse := r.reverse
section
variable {X : Cx} {CX : CXT} {k : Nat} {f : Addr} {fd : FuncData} {ps ks : List Str} {sp : Sp} {E : XK} {x : Str} {p pos : Pos} {kws : List Keyword} {tk : TA} {g : List Value → List Value → List Value} {gV : List V → List V → List V}
def tCallN (m : Nat) (sp : Sp) (gV : List V → List V → List V) (E : XK) (tk : TA) : TE := fun σ H Q => tk σ H fun zs H1 => zs.length = m ∧ sp (gV [] zs) H1 Q E
theorem pe_callN (F : FnOk X.prog X.w X.K X.mg X.base CX k f fd ps sp) (hr : Room k X.A) (hg : Gl X x) (hm : X.mg x = some (.ref f)) (hk : PySem.W.keepIn X.K (.ref f) = true) (hb : KBn X.K fd ps 0 ks g gV) (hx : Passes CX X E) (hkw : PK X kws tk)
    (hall : (backToKw pos (keywordEach kws X.env)).all (·.1.isSome) = true := by rfl) (hks : (backToKw pos (keywordEach kws X.env)).filterMap (·.1) = ks := by rfl) (hdb : (x == ("__debug__" : Str)) = false := by decide)
    (hpl : ((backTo pos (starEach [] X.env)).any (·.1) || (backToKw pos (keywordEach kws X.env)).any (·.1.isNone)) = false := by rfl) :
    PE X (.Call (.Name x p) [] kws pos) (tCallN ks.length sp gV E tk) := by
  refine ⟨fun pins s σ H Q I h => wpAny_Call_Name_kw (ld_glob I hg hm ?_ hdb)⟩
  refine PySem.W.callWith_KW0 (h₀ := X.base) I.ok.mod.kin hk hall ?_ hpl
  refine thn (hkw.run pos pins s σ H _ I h) fun ws s2 ⟨zs, H2, I2, rz, l2, q2⟩ => ⟨I2.kIn, ?_⟩
  rw [hks]
  have r2 := hb.rel .nil rz
  refine wpAny_call (codeAny_mono (F.run X.A X.stack s2 H2 ⟨[], ks.zip ws⟩ (g [] ws) (gV [] zs) _ E hr I2.env0 (hb.to s2 [] ws I2.kIn rfl (rz.length.symm.trans l2)) r2 q2) fun r s' hq => ?_)
  cases r with
  | error e => exact hx pins σ _ _ e s' I2 hq
  | ok fl =>
    cases fl with
    | ret u => exact I2.after hq
    | next => exact hq.elim
    | brk => exact hq.elim
    | cont => exact hq.elim
end
end Kr
namespace Kr
open PySem PySem.Spec PyProof.Rows L2
/-! ### defs that are called where no repr is under way -/
structure FnG (P : Program) (w : World) (K : PySem.W.Frag) (mg : Str → Option Value) (base : Heap) (CX : CXT) (k : Nat) (f : Addr) (fd : FuncData) (ps : List Str) (sp : Sp) : Prop where
  len : ∀ vs H Q E, sp vs H Q E → vs.length = ps.length
  run : ∀ (A : Around) (outer : List Env) (s : Shared) (H : Hp) (args : Args) (us : List Value) (vs : List V) (Q : VK) (E : XK), A.guards = some [] → Room k A → Env0 P w K mg base A outer s H → BindsTo s fd args (ps.zip us) → Vals vs us → sp vs H Q E →
    codeAny (model P w) A (.call (.ref f) args) (CR CX outer P w H s Q E) s
section
variable {P : Program} {w : World} {K : PySem.W.Frag} {mg : Str → Option Value} {base : Heap} {CX : CXT}
theorem FnG.mono {j k : Nat} {f : Addr} {fd : FuncData} {ps : List Str} {sp : Sp} (F : FnG P w K mg base CX j f fd ps sp) (h : j ≤ k) : FnG P w K mg base CX k f fd ps sp :=
  ⟨F.len, fun A outer s H args us vs Q E hg hr => F.run A outer s H args us vs Q E hg (hr.mono h)⟩
/-- by the body, as Fun.ok; the body is told that no repr is under way -/
theorem okG {x qual : Str} {st : Stmt} {f : Addr} {fd : FuncData} {N ps : List Str} {k : Nat} {sp : Sp} (F : Fun K x qual st f fd) (S : FnScope N ps (defScope st)) (len : ∀ vs H Q E, sp vs H Q E → vs.length = ps.length)
    (hbody : ∀ (cdv : Value) (A : Around) (outer : List Env) (s : Shared) (H : Hp) (vs : List V) (Q : VK) (E : XK), (A.deeper (envOfC qual (defScope st) s.heap.objs.size f cdv)).guards = some [] → Room k (A.deeper (envOfC qual (defScope st) s.heap.objs.size f cdv)) → sp vs H Q E →
      ∃ t, PSs (cxOf CX0 P w K mg base N qual (defScope st) f cdv A outer s H E).nox (defBody st) t ∧ t { nx := fun _ H' => Q .non H', rt := Q } (start N vs) H) : FnG P w K mg base CX0 (k + 1) f fd ps sp := by
  obtain ⟨oc, od, kV, doc, pm, an, cdv, ct, osl, rfl, lk, hcd⟩ := F.ex
  refine ⟨len, fun A outer s H args us vs Q E hg hr e0 hb r hsp => ?_⟩
  have KX : K.In s.heap := e0.mod.kin.keeps fun b o e => (e0.bs b o e).1
  have lim : s.heap.NoLimit := e0.mod.nolimit.keeps fun b o e => (e0.bs b o e).1
  refine codeAny_call_function hr.depth (KX _ _ lk) rfl S.co S.gen rfl (PySem.W.codeRec_of KX hcd) (hb _ _ _ _ ?_)
  have kinds : ∀ y ∈ ps.zip us, (defScope st).names.lookup y.1 = some .local ∨ ((defScope st).names.lookup y.1 = some .cell ∧ ((cellsFrom (s.heap.objs.size + 1) (defScope st).names []).lookup y.1).isSome = true) := by
    rintro ⟨n, v⟩ hy
    rcases S.par n (List.of_mem_zip hy).1 with q | q
    · exact .inl q
    · exact .inr ⟨q, PySem.W.cellsFrom_some _ _ _ (.inl q)⟩
  refine wpAny_newFunctionEnv_cells S.kind kinds fun env he s1 x => ?_
  subst he
  refine ⟨lim.keeps x.toInCall.keep, codeAny_func ?_⟩
  obtain ⟨t, ht, hq⟩ := hbody cdv A outer s H vs Q E (by first | exact hg | simpa [Around.deeper] using hg) (hr.deeper _) hsp
  have I : Inv (cxOf CX0 P w K mg base N qual (defScope st) f cdv A outer s H E) [] (start N vs) H s1 := inv_start S hr.hd e0 (len _ _ _ _ hsp) r x
  refine wpAny_mono (ht.nox.run [] s1 (start N vs) H _ I hq) (fun fl s' hs => ?_) fun e s' hs => hs
  cases fl with
  | ret u =>
    obtain ⟨v, σ', H', J, rv, q⟩ := hs
    exact ⟨v, H', J.os, J.bare, J.base, J.hok, rv, q⟩
  | next =>
    obtain ⟨σ', H', J, q⟩ := hs
    exact ⟨.non, H', J.os, J.bare, J.base, J.hok, rfl, q⟩
  | brk => exact hs.elim fun _ h => h.elim fun _ h => h.2.elim
  | cont => exact hs.elim fun _ h => h.elim fun _ h => h.2.elim
end
section
variable {X : Cx} {CX : CXT} {k : Nat} {f : Addr} {fd : FuncData} {ps : List Str} {sp : Sp} {dvs : List V} {ds : List Value} {E : XK} {x : Str} {p pos : Pos} {e : Expr} {es : List Expr} {t : TA}
/-- such a def's call, from a body of the same kind -/
theorem pe_callG (F : FnG X.prog X.w X.K X.mg X.base CX k f fd ps sp) (gd : X.A.guards = some []) (hr : Room k X.A) (hg : Gl X x) (hm : X.mg x = some (.ref f)) (hk : PySem.W.keepIn X.K (.ref f) = true) (hb : Binds X.K fd ps ds) (hd : Vals dvs ds) (hx : Passes CX X E)
    (ha : PA X (e :: es) t) (hdb : (x == ("__debug__" : Str)) = false := by decide) (he : starEach (e :: es) X.env = (false, eval e X.env) :: starEach es X.env := by rfl) (hpl : (backTo pos (starEach es X.env)).any (·.1) = false := by rfl) :
    PE X (.Call (.Name x p) (e :: es) [] pos) (tCall sp dvs E t) := by
  refine ⟨fun pins s σ H Q I h => wpAny_Call_Name_kw (ld_glob I hg hm ?_ hdb)⟩
  refine PySem.W.callWith_K (h₀ := X.base) I.ok.mod.kin hk (thn (ha.run pos pins s σ H _ I h) fun us s1 ⟨vs, H1, I1, r, q⟩ => ⟨I1.kIn, ?_⟩) he hpl
  have r2 : Vals (vs ++ dvs) (us ++ ds) := r.append hd
  have hl : (us ++ ds).length = ps.length := r2.length.symm.trans (F.len _ _ _ _ q)
  refine wpAny_call (codeAny_mono (F.run X.A X.stack s1 H1 ⟨us, []⟩ (us ++ ds) (vs ++ dvs) Q E gd hr I1.env0 (hb s1 us I1.kIn hl) r2 q) fun r s' hq => ?_)
  cases r with
  | error e => exact hx pins σ H1 s1 e s' I1 hq
  | ok fl =>
    cases fl with
    | ret u => exact I1.after hq
    | next => exact hq.elim
    | brk => exact hq.elim
    | cont => exact hq.elim
end

/-! ### the head: the law is called where nothing is under way -/
theorem law_callG {P : Program} {w : World} {K : PySem.W.Frag} {mg mb : Str → Option Value} {k : Nat} {fa a : Addr} {fd : FuncData} {x : Str} {sp : Sp} {s₁ : Shared} {vs : List Value} {ns : List Int}
    (KX : K.In s₁.heap) (hns : s₁.heap.Ns mainGlobals mg) (hb : s₁.heap.Ns builtinsNs mb) (hbb : ∀ x : Str, x ≠ "__name__" → mb x = bootBuiltins x) (hlim : s₁.heap.NoLimit) (hg : s₁.gens = #[])
    (ha : s₁.heap.get? a = some { cls := .type "list", data := .seq vs.toArray }) (hi : IntsAre vs ns) (hl : ns.length ≤ sizeLine) (hr : Room k callerA)
    (F : ∀ base : Heap, K.In base → base.Ns mainGlobals mg → FnG P w K mg base CX0 k fa fd [x] sp) (hbind : ∀ (s : Shared) (u : Value), BindsTo s fd ⟨[u], []⟩ [(x, u)])
    (hsp : ∀ H : Hp, Only H → SqL K H a (ns.map V.int) → sp [.ref a] H (fun v _ => v = .bl true) fun _ _ _ => False) :
    codeAny (model P w) callerA (.call (.ref fa) ⟨[.ref a], []⟩) (fun r s' => r = .ok (.ret (.bool true)) ∧ OldK s₁.heap s'.heap ∧ s'.os = s₁.os ∧ AllBare s'.gens) s₁ := by
  have rv := vals_ints hi
  have lenV := hi.length
  have step : ∀ H : Hp, Only H → SqL K H a (ns.map V.int) → HOk P w H s₁.heap → (∀ b, H b ≠ none → b = a) → (H a ≠ none → K.lookup a = none) →
      codeAny (model P w) callerA (.call (.ref fa) ⟨[.ref a], []⟩) (fun r s' => r = .ok (.ret (.bool true)) ∧ OldK s₁.heap s'.heap ∧ s'.os = s₁.os ∧ AllBare s'.gens) s₁ := by
    intro H hO hS hok only hK
    have free : ∀ {b : Addr} {o : Obj}, s₁.heap.get? b = some o → (b = a → H b = none) → (hidT s₁.heap H).get? b = some o := fun {b o} e n => hidT_get e (by
      cases q : H b with
      | none => rfl
      | some u => rw [n (only b (by rw [q]; simp))] at q; cases q)
    have ns2 : ∀ {b : Addr} {m : Str → Option Value}, s₁.heap.Ns b m → (hidT s₁.heap H).Ns b m := by
      rintro b m ⟨o, es, ep, e, d, r⟩
      refine ⟨o, es, ep, free e fun z => ?_, d, r⟩
      subst z
      rw [ha] at e
      cases e
      cases (show Data.seq vs.toArray _ = Data.dict es ep from d)
    have kin : K.In (hidT s₁.heap H) := fun b o e => free (KX b o e) fun z => by
      subst z
      cases q : H b with
      | none => rfl
      | some u => rw [hK (by rw [q]; simp)] at e; cases e
    have md : Mod K mg (hidT s₁.heap H) := ⟨kin, ns2 hns, ⟨mb, ns2 hb, hbb⟩, hlim.elim fun mc h => ⟨mc, ns2 h.1, h.2⟩⟩
    have e0 : Env0 P w K mg (hidT s₁.heap H) callerA [] s₁ H :=
      ⟨rfl, md, fun b o e => of_hidT e, Nat.le_of_eq (hidT_size _ _), trivial, fun b hb => absurd (show b ∈ ([] : List Addr) from hb) (by simp), hok, .of_eq hg⟩
    refine codeAny_mono ((F _ kin (ns2 hns)).run callerA [] s₁ H ⟨[.ref a], []⟩ [.ref a] [.ref a] _ _ rfl hr e0 (hbind s₁ (.ref a)) (.cons rfl .nil) (hsp H hO hS)) fun r s' h => ?_
    cases r with
    | error e => exact h.elim
    | ok fl =>
      cases fl with
      | next => exact h.elim
      | brk => exact h.elim
      | cont => exact h.elim
      | ret u =>
        obtain ⟨v, H', os, bare, un, hok', r', q⟩ := h
        obtain rfl : v = .bl true := q
        obtain rfl : u = Value.bool true := r'
        refine ⟨rfl, OldK.of_keep fun b o e => ?_, os, bare⟩
        rcases hO b with z | ⟨ob, xs, z⟩
        · exact un.keep b o e z (fun q => absurd (show b ∈ ([] : List Addr) from q) (by simp)) (by simp)
        · have e1 := (hok b _ z).1
          have e2 := (hok' b _ (un.frzs b ob _ z)).1
          rw [e] at e1
          cases e1
          exact e2
  cases hk : K.lookup a with
  | some o =>
    have e := KX a o hk
    rw [ha] at e
    cases e
    exact step (fun _ => none) (fun _ => .inl rfl) (.inr ⟨_, vs.toArray, _, hk, rfl, rfl, rfl, by rw [List.size_toArray, lenV]; exact hl, by simpa using rv⟩) (fun b u z => nomatch (show (none : Option HO) = some u from z)) (fun b z => absurd rfl z) fun z => absurd rfl z
  | none =>
    refine step (fun b => if b = a then some (.frz { cls := .type "list", data := .seq vs.toArray } (.lst (ns.map V.int))) else none) (fun b => ?_) (.inl (.inr ⟨_, if_pos rfl⟩)) (fun b u z => ?_) (fun b z => ?_) fun _ => hk
    · by_cases q : b = a
      · exact .inr ⟨_, _, if_pos q⟩
      · exact .inl (if_neg q)
    · by_cases q : b = a
      · cases (if_pos q).symm.trans z
        subst q
        exact ⟨ha, by rw [List.length_map]; exact hl, vs, _, rv, ha⟩
      · cases (if_neg q).symm.trans z
    · by_cases q : b = a
      · exact q
      · exact absurd (if_neg q) z
theorem walkG {l : PySem.W.OpenLaw} {n k : Nat} {q : Program} {loose : List Str} {XP : (Str → Option Value) → Heap → Prop} {YP : World → Heap → Prop} {d : DefRec} {K : Params → PySem.W.Frag} {sp : PySem.W.Frag → Sp} {x : Str}
    (hn : l.most = some n) (hn2 : n ≤ sizeLine) (hdf : d.params.defaults = []) (hr : Room k callerA) (hY : ∀ (w : World) (h : Heap), YP w h → (K w.params).In h)
    (F : ∀ (w : World) (mg : Str → Option Value) (fa : Addr) (h : Heap), (K w.params).In h → h.Ns mainGlobals mg → mg d.name = some (.ref fa) →
      ∃ fd : FuncData, (∀ (s : Shared) (u : Value), BindsTo s fd ⟨[u], []⟩ [(x, u)]) ∧ ∀ base : Heap, (K w.params).In base → base.Ns mainGlobals mg → FnG l.prog w (K w.params) mg base CX0 k fa fd [x] (sp (K w.params)))
    (hsp : ∀ (K : PySem.W.Frag) (H : Hp) (a : Addr) (ns : List Int), ns.length ≤ n → Only H → SqL K H a (ns.map V.int) → sp K [.ref a] H (fun v _ => v = .bl true) fun _ _ _ => False) :
    PySem.W.WalkO q loose XP YP l.row.toRowW d [] (fun f vs => PySem.call f vs) := by
  refine Att.attach_call hn hdf fun w s₀ s₁ mg mb fa o pm cd doc a vs ns G Y ho hd hcd hmg hobj hints hlen hg => ?_
  obtain ⟨fd, hb, hF⟩ := F w mg fa _ (hY w _ Y) G.T.g hmg
  exact law_callG (hY w _ Y) G.T.g G.T.b G.T.builtins G.T.nolimit hg hobj hints (Nat.le_trans hlen hn2) hr hF hb fun H hO hS => hsp _ H a ns hlen hO hS
end Kr
namespace Kr
open PySem PySem.Spec PyProof.Rows L2
/-! ### data over the abstract heap: None, bools, ints, texts, lists, tuples, {} -/
mutual
inductive Dq (H : Hp) : V → PyData → Prop
  | non : Dq H .non .none
  | bl (b : Bool) : Dq H (.bl b) (.bool b)
  | int (i : Int) : Dq H (.int i) (.int i)
  | str (x : Str) : Dq H (.str x) (.str x)
  | lst {a : Addr} {xs : List V} {ds : List PyData} (e : H a = some (.lst xs)) (q : DqA H xs ds) : Dq H (.ref a) (.list ds)
  | tup {a : Addr} {xs : List V} {ds : List PyData} (e : H a = some (.tup xs)) (q : DqA H xs ds) : Dq H (.ref a) (.tuple ds)
  | dic {a : Addr} (e : H a = some (.dK [])) : Dq H (.ref a) (.dict [])
inductive DqA (H : Hp) : List V → List PyData → Prop
  | nil : DqA H [] []
  | cons {v : V} {vs : List V} {d : PyData} {ds : List PyData} (h : Dq H v d) (t : DqA H vs ds) : DqA H (v :: vs) (d :: ds)
end
mutual
theorem Dq.up {H H' : Hp} (s : Same H H') : ∀ {v : V} {d : PyData}, Dq H v d → Dq H' v d
  | _, _, .non => .non
  | _, _, .bl b => .bl b
  | _, _, .int i => .int i
  | _, _, .str x => .str x
  | _, _, .lst e q => .lst (s _ _ e) (DqA.up s q)
  | _, _, .tup e q => .tup (s _ _ e) (DqA.up s q)
  | _, _, .dic e => .dic (s _ _ e)
theorem DqA.up {H H' : Hp} (s : Same H H') : ∀ {vs : List V} {ds : List PyData}, DqA H vs ds → DqA H' vs ds
  | _, _, .nil => .nil
  | _, _, .cons h t => .cons (Dq.up s h) (DqA.up s t)
end
theorem DqA.len {H : Hp} : ∀ {vs : List V} {ds : List PyData}, DqA H vs ds → vs.length = ds.length
  | _, _, .nil => rfl
  | _, _, .cons _ t => by rw [List.length_cons, List.length_cons, DqA.len t]
theorem DqA.get {H : Hp} : ∀ {vs : List V} {ds : List PyData} {i : Nat} {v : V}, DqA H vs ds → vs[i]? = some v → ∃ d, ds[i]? = some d ∧ Dq H v d
  | _, _, _, _, .nil, e => by simp at e
  | _, _, 0, _, .cons h _, e => by
    simp at e
    subst e
    exact ⟨_, rfl, h⟩
  | _, _, i + 1, _, .cons _ t, e => by
    obtain ⟨d, h1, h2⟩ := DqA.get (i := i) t (by simpa using e)
    exact ⟨d, by simpa using h1, h2⟩
theorem DqA.app {H : Hp} : ∀ {vs us : List V} {ds es : List PyData}, DqA H vs ds → DqA H us es → DqA H (vs ++ us) (ds ++ es)
  | _, _, _, _, .nil, q => q
  | _, _, _, _, .cons h t, q => .cons h (DqA.app t q)
theorem DqA.take {H : Hp} : ∀ {vs : List V} {ds : List PyData} (n : Nat), DqA H vs ds → DqA H (vs.take n) (ds.take n)
  | _, _, 0, _ => .nil
  | _, _, _ + 1, .nil => .nil
  | _, _, n + 1, .cons h t => .cons h (DqA.take n t)
theorem DqA.drop {H : Hp} : ∀ {vs : List V} {ds : List PyData} (n : Nat), DqA H vs ds → DqA H (vs.drop n) (ds.drop n)
  | _, _, 0, q => q
  | _, _, _ + 1, .nil => .nil
  | _, _, n + 1, .cons _ t => DqA.drop n t
theorem DqA.set {H : Hp} {v : V} {d : PyData} (q : Dq H v d) : ∀ {vs : List V} {ds : List PyData} (i : Nat), DqA H vs ds → DqA H (vs.set i v) (ds.set i d)
  | _, _, _, .nil => .nil
  | _, _, 0, .cons _ t => .cons q t
  | _, _, i + 1, .cons h t => .cons h (DqA.set q i t)
theorem DqA.one {H : Hp} {v : V} {d : PyData} (q : Dq H v d) : DqA H [v] [d] := .cons q .nil
theorem DqA.rev {H : Hp} : ∀ {vs : List V} {ds : List PyData}, DqA H vs ds → DqA H vs.reverse ds.reverse
  | _, _, .nil => .nil
  | _, _, .cons h t => by
    rw [List.reverse_cons, List.reverse_cons]
    exact DqA.app (DqA.rev t) (.one h)
theorem DqA.ints {H : Hp} : ∀ ns : List Int, DqA H (ns.map V.int) (ns.map PyData.int)
  | [] => .nil
  | n :: r => .cons (.int n) (DqA.ints r)
theorem DqA.rep {H : Hp} {v : V} {d : PyData} (q : Dq H v d) : ∀ n : Nat, DqA H (List.replicate n v) (List.replicate n d)
  | 0 => .nil
  | n + 1 => .cons q (DqA.rep q n)
theorem Dq.tup_inv {H : Hp} {v : V} {ds : List PyData} (q : Dq H v (.tuple ds)) : ∃ a xs, v = .ref a ∧ H a = some (.tup xs) ∧ DqA H xs ds := by
  cases q with
  | tup e h => exact ⟨_, _, rfl, e, h⟩

/-! ### how long what is shown is -/
mutual
def big : PyData → Nat
  | .none | .bool _ => 5
  | .int i => (toString i : Str).length
  | .str x => (reprText x).length
  | .list xs | .tuple xs => bigA xs + 3
  | .dict _ => 2
def bigA : List PyData → Nat
  | [] => 0
  | x :: xs => big x + 2 + bigA xs
end

section
variable {X : Cx} {pins : List (Addr × Obj)} {σ : L2.St} {H : Hp} {s : Shared}
mutual
theorem Dq.reprs (I : Inv X pins σ H s) : ∀ (d : PyData) (v : V) (u : Value), Dq H v d → RelV v u → d.showable = true → d.shown.length ≤ sizeLine →
    ∃ as, Reads s.heap u d as ∧ ∃ bs, ReadAtMost s.heap d.depth bs ∧ ReprK X.prog X.w bs s.heap d.depth u d.shown
  | .none, _, _, h, r, _, _ => by
    cases h
    cases r
    exact ⟨_, .none, [], (fun _ h => nomatch h), by simp only [PyData.shown]; exact .of_is ReprIs.none _ _ _⟩
  | .bool b, _, _, h, r, _, _ => by
    cases h
    cases r
    exact ⟨_, .bool b, [], (fun _ h => nomatch h), by simp only [PyData.shown]; exact .of_is (ReprIs.bool b) _ _ _⟩
  | .int i, _, _, h, r, hs, _ => by
    cases h
    obtain ⟨t, rfl⟩ := r
    exact ⟨_, .int i t, [], (fun _ h => nomatch h), by simp only [PyData.shown]; exact .of_is (ReprIs.int t (by simpa [PyData.showable] using hs)) _ _ _⟩
  | .str x, _, _, h, r, _, hz => by
    cases h
    obtain ⟨t, rfl⟩ := r
    exact ⟨_, .str x t, [], (fun _ h => nomatch h), by simp only [PyData.shown]; exact .of_is (ReprIs.str x t (by simpa only [PyData.shown] using hz)) _ _ _⟩
  | .list ds, _, _, h, r, hs, hz => by
    cases h with
    | @lst a xs _ e ha =>
      cases r
      have hz' : (listText (PyData.shownAll ds)).length ≤ sizeLine := by simpa only [PyData.shown] using hz
      obtain ⟨its, rv, ⟨o, n, ho, hc, _, hd⟩, _⟩ := I.list (SqL.of (K := X.K) e)
      obtain ⟨as, hr, bs, hb, hk⟩ := DqA.reprs I ds _ its ha rv (by simpa [PyData.showable] using hs) fun t ht => Nat.le_trans (listText_mem_le ht) hz'
      have rd : Reads s.heap (.ref a) (.list ds) _ := .list ho hc hd hr
      have hna : a ∉ bs := not_mem_of_deeper rd (by simp only [PyData.depth]; omega) hb
      refine ⟨_, rd, a :: bs, ReadAtMost.cons rd (by simp only [PyData.depth]; omega) hb, ?_⟩
      simp only [PyData.depth, PyData.shown]
      cases its with
      | nil =>
        cases hr
        simp only [PyData.shownAll, listText_nil]
        exact ReprK.listEmpty ho hc hd
      | cons y l => exact ReprK.list ho hc hd hna (by simpa using hk.length_eq) (fun i y e => hk.item i y (by simpa using e))
  | .tuple ds, _, _, h, r, hs, hz => by
    cases h with
    | @tup a xs _ e ha =>
      cases r
      have hz' : (tupleText (PyData.shownAll ds)).length ≤ sizeLine := by simpa only [PyData.shown] using hz
      obtain ⟨its, rv, ⟨o, ho, hc, n, hd⟩, _⟩ := I.tuple (SqT.of (K := X.K) e)
      obtain ⟨as, hr, bs, hb, hk⟩ := DqA.reprs I ds _ its ha rv (by simpa [PyData.showable] using hs) fun t ht => Nat.le_trans (tupleText_mem_le ht) hz'
      have rd : Reads s.heap (.ref a) (.tuple ds) _ := .tuple ho hc hd hr
      have hna : a ∉ bs := not_mem_of_deeper rd (by simp only [PyData.depth]; omega) hb
      refine ⟨_, rd, a :: bs, ReadAtMost.cons rd (by simp only [PyData.depth]; omega) hb, ?_⟩
      simp only [PyData.depth, PyData.shown]
      exact ReprK.tuple ho hc hd hna (by simpa using hk)
  | .dict kv, _, _, h, r, _, _ => by
    cases h with
    | @dic a e =>
      cases r
      obtain ⟨_, hsys, vs, rel, o, es, ep, ho, hx, hd, _, hp, _⟩ := I.hok a _ e
      cases rel
      have hes : es = #[] := by
        obtain ⟨l⟩ := es
        have : l = [] := by
          cases l with
          | nil => rfl
          | cons y l => exact nomatch hp
        rw [this]
      subst hes
      have rd : Reads s.heap (.ref a) (.dict []) _ := .dict ho hx.1 hd .nil .nil
      refine ⟨_, rd, [a], ReadAtMost.cons rd (Nat.zero_le _) (fun _ h => nomatch h), ?_⟩
      have := ReprK.dict (prog := X.prog) (w := X.w) (as := []) (d := 0) ho hx.1 hd hsys (fun h => nomatch h) .nil
      simpa only [PyData.depth, PyData.depthKv, PyData.shown, PyData.shownKv] using this
theorem DqA.reprs (I : Inv X pins σ H s) : ∀ (ds : List PyData) (vs : List V) (us : List Value), DqA H vs ds → Vals vs us → PyData.showableAll ds = true → (∀ t ∈ PyData.shownAll ds, t.length ≤ sizeLine) →
    ∃ as, ReadsAll s.heap us ds as ∧ ∃ bs, ReadAtMost s.heap (PyData.depthAll ds) bs ∧ ReprAllK X.prog X.w bs s.heap (PyData.depthAll ds) us (PyData.shownAll ds)
  | [], _, _, h, r, _, _ => by
    cases h
    cases r
    exact ⟨_, .nil, [], (fun _ h => nomatch h), by simp only [PyData.shownAll]; exact .nil⟩
  | d :: ds, _, _, h, r, hs, hz => by
    cases h with
    | cons h1 h2 =>
      cases r with
      | cons r1 r2 =>
        have hs' : d.showable = true ∧ PyData.showableAll ds = true := by simpa [PyData.showableAll] using hs
        obtain ⟨as, q1, b1, hb1, k1⟩ := Dq.reprs I d _ _ h1 r1 hs'.1 (hz _ (by simp only [PyData.shownAll]; exact List.mem_cons_self ..))
        obtain ⟨cs, q2, b2, hb2, k2⟩ := DqA.reprs I ds _ _ h2 r2 hs'.2 (fun t ht => hz t (by simp only [PyData.shownAll]; exact List.mem_cons_of_mem _ ht))
        refine ⟨_, .cons q1 q2, b1 ++ b2, ?_, ?_⟩
        · simp only [PyData.depthAll]
          exact (hb1.mono (Nat.le_max_left _ _)).append (hb2.mono (Nat.le_max_right _ _))
        · simp only [PyData.depthAll, PyData.shownAll]
          exact .cons ((k1.more fun b hb => List.mem_append_left _ hb).level_le (Nat.le_max_left _ _)) (k2.more_le (fun b hb => List.mem_append_right _ hb) (Nat.le_max_right _ _))
end
end

/-- repr(x) of data, where no repr is under way -/
def rRepr : List V → Hp → VK → Prop := fun xs H Q => ∃ v d, xs = [v] ∧ Dq H v d ∧ d.showable = true ∧ d.depth ≤ 40 ∧ d.shown.length ≤ sizeLine ∧ Q (.str d.shown) H
theorem call_repr {X : Cx} (hg : X.A.guards = some []) (hu : X.A.units + 64 < cLine) : CallR X (.builtin "repr") rRepr := by
  intro pins s σ H xs us Q I r h
  obtain ⟨v, d, rfl, hd, hs, hdep, hz, q⟩ := h
  obtain ⟨u, rfl, r1⟩ : ∃ u, us = [u] ∧ RelV v u := by
    cases r with
    | cons a b =>
      cases b
      exact ⟨_, rfl, a⟩
  have fin : ∀ (h' : Heap) (t : Tok) (tk : Nat), (∀ b o, s.heap.get? b = some o → h'.get? b = some o) → EP X pins σ Q (.str d.shown t) { s with heap := h', toks := tk } :=
    fun h' t tk hk => ⟨.str d.shown, H, I.kept (t' := tk) hk, ⟨t, rfl⟩, q⟩
  cases hd with
  | non =>
    simp only [PyData.shown] at fin
    cases r1
    exact PySem.P.repr_of_none (fin s.heap _ _ fun _ _ e => e)
  | bl b =>
    simp only [PyData.shown] at fin
    cases r1
    have := PySem.P.repr_of_bool (prog := X.prog) (w := X.w) (A := X.A) (E := X.xe) (b := b) (s := s) (Q := EP X pins σ Q)
    refine this ?_
    have f := fin s.heap s.toks (s.toks + 1) fun _ _ e => e
    cases b <;> exact f
  | int i =>
    simp only [PyData.shown] at fin
    obtain ⟨t, rfl⟩ := r1
    exact PySem.P.repr_of_int (by simpa [PyData.showable] using hs) (fin s.heap _ _ fun _ _ e => e)
  | str x =>
    simp only [PyData.shown] at fin hz
    obtain ⟨t, rfl⟩ := r1
    exact PySem.P.repr_of_str (fin s.heap _ _ fun _ _ e => e) hz
  | @lst a xs ds e ha =>
    obtain rfl : u = Value.ref a := r1
    simp only [PyData.depth] at hdep
    have hz' : (listText (PyData.shownAll ds)).length ≤ sizeLine := by simpa only [PyData.shown] using hz
    simp only [PyData.shown] at fin
    obtain ⟨its, rv, ⟨o, n, ho, hc, _, hd⟩, _⟩ := I.list (SqL.of (K := X.K) e)
    obtain ⟨as, hr, bs, hb, hk⟩ := DqA.reprs I ds _ its ha rv (by simpa [PyData.showable] using hs) fun t ht => Nat.le_trans (listText_mem_le ht) hz'
    have rd : Reads s.heap (.ref a) (.list ds) _ := .list ho hc hd hr
    have hna : a ∉ bs := not_mem_of_deeper rd (by simp only [PyData.depth]; omega) hb
    refine call_repr_slot (by omega) ⟨o, ho, hc⟩ F.slot_list_repr.toG ?_
    cases its with
    | nil =>
      cases hr
      have e0 : listText (PyData.shownAll []) = ("[]" : Str) := by simp only [PyData.shownAll, listText_nil]
      rw [e0] at fin
      exact call_list_repr_empty ⟨o, ho, hc⟩ ho hd ⟨_, _, rfl, fin s.heap _ _ fun _ _ e => e⟩
    | cons y l =>
      exact call_list_reprK ho hc hd hna (by simpa using hk.length_eq) (fun i y e => hk.item i y (by simpa using e)) hg (fun b _ => Clear.nil b) (by show X.A.units + 1 + _ < cLine; omega) (fun _ _ e => e) (fun h' t tk hk => ⟨_, _, rfl, fin h' t tk hk⟩) hz'
  | @tup a xs ds e ha =>
    obtain rfl : u = Value.ref a := r1
    simp only [PyData.depth] at hdep
    have hz' : (tupleText (PyData.shownAll ds)).length ≤ sizeLine := by simpa only [PyData.shown] using hz
    simp only [PyData.shown] at fin
    obtain ⟨its, rv, ⟨o, ho, hc, n, hd⟩, _⟩ := I.tuple (SqT.of (K := X.K) e)
    obtain ⟨as, hr, bs, hb, hk⟩ := DqA.reprs I ds _ its ha rv (by simpa [PyData.showable] using hs) fun t ht => Nat.le_trans (tupleText_mem_le ht) hz'
    have rd : Reads s.heap (.ref a) (.tuple ds) _ := .tuple ho hc hd hr
    have hna : a ∉ bs := not_mem_of_deeper rd (by simp only [PyData.depth]; omega) hb
    refine call_repr_slot (by omega) ⟨o, ho, hc⟩ F.slot_tuple_repr ?_
    exact call_tuple_reprK ho hc hd hna (by simpa using hk) hg (fun b _ => Clear.nil b) (by show X.A.units + 1 + _ < cLine; omega) (fun _ _ e => e) (fun h' t tk hk => ⟨_, _, rfl, fin h' t tk hk⟩) hz'
  | @dic a e =>
    obtain rfl : u = Value.ref a := r1
    obtain ⟨_, hsys, vs, rel, o, es, ep, ho, hx, hd, _, hp, _⟩ := I.hok a _ e
    cases rel
    have hes : es = #[] := by
      obtain ⟨l⟩ := es
      have : l = [] := by
        cases l with
        | nil => rfl
        | cons y l => exact nomatch hp
      rw [this]
    subst hes
    simp only [PyData.shown, PyData.shownKv] at fin hz
    refine call_repr_slot (by omega) ⟨o, ho, hx.1⟩ F.slot_dict_repr ?_
    exact call_dict_reprK (as := []) (d := 0) ho hx.1 hd hsys (fun h => nomatch h) .nil hg (fun b _ => Clear.nil b) (by show X.A.units + 1 + _ < cLine; omega) (fun _ _ e => e) (fun h' t tk hk => ⟨_, _, rfl, fin h' t tk hk⟩) hz
end Kr
namespace Kr
open PySem PySem.Spec PyProof.Rows L2
/-! ### a module's name that holds a built-in (from math import comb) -/
theorem pe_callBG {X : Cx} {id : String} {r : List V → Hp → VK → Prop} {x : Str} {e : Expr} {es : List Expr} {t : TA} {p pos : Pos} (hc : CallR X (.builtin id) r) (hg : Gl X x) (hm : X.mg x = some (.builtin id)) (ha : PA X (e :: es) t) (hdb : (x == ("__debug__" : Str)) = false := by decide)
    (he : starEach (e :: es) X.env = (false, eval e X.env) :: starEach es X.env := by rfl) (hpl : (backTo pos (starEach es X.env)).any (·.1) = false := by rfl) : PE X (.Call (.Name x p) (e :: es) [] pos) (tCB r t) :=
  ⟨fun pn sh st hp W Iv hh => wpAny_Call_Name_kw (ld_glob Iv hg hm (PyProof.Rows.callWith_builtin1 (thn (ha.run pos pn sh st hp _ Iv hh) fun us s1 ⟨vs, H1, I1, r1, q1⟩ => hc pn s1 st H1 vs us W I1 r1 q1) he hpl) hdb)⟩
/-- comb(a, b) -/
def rComb : List V → Hp → VK → Prop := fun vs H Q => ∃ a b : Int, vs = [.int a, .int b] ∧ 0 ≤ a ∧ 0 ≤ b ∧ a < 1000 ∧ Q (.int (PySem.W.mcComb a b)) H
theorem call_comb {X : Cx} : CallR X (.builtin "math.comb") rComb := by
  intro pn sh st hp xs us Q Iv r h
  obtain ⟨a, b, rfl, h1, h2, h3, q⟩ := h
  cases r with
  | cons ra r =>
    cases r with
    | cons rb r =>
      cases r
      obtain ⟨t, rfl⟩ := ra
      obtain ⟨u, rfl⟩ := rb
      exact PySem.W.mc_comb h1 h2 (by omega) (.inr (by omega)) fun _ => ⟨.int (PySem.W.mcComb a b), hp, Iv.kept (t' := sh.toks + 1) (fun _ _ e => e), ⟨_, rfl⟩, q⟩
end Kr
namespace Kr
open PySem PySem.Spec PyProof.Rows L2
/-! ### data without lists and dicts: it stays while tuples stay -/
def TS (H H' : Hp) : Prop := ∀ b xs, H b = some (.tup xs) → H' b = some (.tup xs)
theorem TS.rfl {H : Hp} : TS H H := fun _ _ h => h
theorem TS.trans {H H' H'' : Hp} (a : TS H H') (b : TS H' H'') : TS H H'' := fun c xs h => b c xs (a c xs h)
theorem TS.of {H H' : Hp} (s : Same H H') : TS H H' := fun b xs h => s _ _ h
theorem TS.lst {H : Hp} {D : Addr} {xs ys : List V} (h : H D = some (.lst xs)) : TS H (upd H D (.lst ys)) := fun b zs e => by
  rw [upd_ne (ne_of e h (by intro z; cases z))]
  exact e
theorem TS.new {H : Hp} {q : Addr} {o : HO} (h : H q = none) : TS H (upd H q o) := fun b zs e => by
  rw [upd_ne (ne_of_none e h)]
  exact e
mutual
def flatT : PyData → Bool
  | .none | .bool _ | .int _ | .str _ => true
  | .tuple xs => flatTA xs
  | .list _ | .dict _ => false
def flatTA : List PyData → Bool
  | [] => true
  | x :: xs => flatT x && flatTA xs
end
mutual
theorem Dq.upT {H H' : Hp} (s : TS H H') : ∀ {v : V} {d : PyData}, flatT d = true → Dq H v d → Dq H' v d
  | _, _, _, .non => .non
  | _, _, _, .bl b => .bl b
  | _, _, _, .int i => .int i
  | _, _, _, .str x => .str x
  | _, _, h, .lst _ _ => by simp [flatT] at h
  | _, _, h, .tup e q => .tup (s _ _ e) (DqA.upT s (by simpa [flatT] using h) q)
  | _, _, h, .dic _ => by simp [flatT] at h
theorem DqA.upT {H H' : Hp} (s : TS H H') : ∀ {vs : List V} {ds : List PyData}, flatTA ds = true → DqA H vs ds → DqA H' vs ds
  | _, _, _, .nil => .nil
  | _ :: _, d :: ds, h, .cons a t => by
    have h2 : flatT d = true ∧ flatTA ds = true := by simpa [flatTA] using h
    exact .cons (Dq.upT s h2.1 a) (DqA.upT s h2.2 t)
end
theorem flatTA_of : ∀ {ds : List PyData}, (∀ d ∈ ds, flatT d = true) → flatTA ds = true
  | [], _ => rfl
  | d :: ds, h => by
    have h1 := h d List.mem_cons_self
    have h2 := flatTA_of (ds := ds) fun e he => h e (List.mem_cons_of_mem _ he)
    simp [flatTA, h1, h2]
mutual
/-- as the layer's own data, for == -/
theorem Dq.dp {K : PySem.W.Frag} {H : Hp} : ∀ {v : V} {d : PyData}, flatT d = true → Dq H v d → Dp K H v d
  | _, _, _, .non => .non
  | _, _, _, .bl b => .bl b
  | _, _, _, .int i => .int i
  | _, _, _, .str x => .str x
  | _, _, h, .lst _ _ => by simp [flatT] at h
  | _, _, h, .tup e q => .tup (SqT.of e) (DqA.dp (by simpa [flatT] using h) q)
  | _, _, h, .dic _ => by simp [flatT] at h
theorem DqA.dp {K : PySem.W.Frag} {H : Hp} : ∀ {vs : List V} {ds : List PyData}, flatTA ds = true → DqA H vs ds → DpAll K H vs ds
  | _, _, _, .nil => .nil
  | _ :: _, d :: ds, h, .cons a t => by
    have h2 : flatT d = true ∧ flatTA ds = true := by simpa [flatTA] using h
    exact .cons (Dq.dp h2.1 a) (DqA.dp h2.2 t)
end
theorem dqa_snoc {H : Hp} {vs : List V} {ds : List PyData} {v : V} {d : PyData} (a : DqA H vs ds) (b : Dq H v d) : DqA H (vs ++ [v]) (ds ++ [d]) := a.app (.one b)
/-! ### rows of signs -/
abbrev Row := List (Bool × Bool)
def bi (b : Bool) : Int := if b = true then 1 else 0
def pairD (p : Bool × Bool) : PyData := .tuple [.int (bi p.1), .int (bi p.2)]
def rowD (r : Row) : PyData := .tuple (r.map pairD)
theorem pair_flat (p : Bool × Bool) : flatT (pairD p) = true := by simp [pairD, flatT, flatTA]
theorem pairs_flat (r : Row) : flatTA (r.map pairD) = true := flatTA_of fun d hd => by
  obtain ⟨p, _, rfl⟩ := List.mem_map.mp hd
  exact pair_flat p
theorem row_flat (r : Row) : flatT (rowD r) = true := by
  simp only [rowD, flatT]
  exact pairs_flat r
theorem bi_inj {a b : Bool} : bi a = bi b ↔ a = b := by cases a <;> cases b <;> decide
theorem bi_one (a : Bool) : decide (bi a = 1) = a := by cases a <;> rfl
theorem bi_xor (a b : Bool) : Builtin.bitXor (bi a) (bi b) = bi (a ^^ b) := by cases a <;> cases b <;> decide +kernel
theorem bi_sum (a b : Bool) : (bi a + bi b) % 2 = bi (a ^^ b) := by cases a <;> cases b <;> decide +kernel
theorem pair_at {H : Hp} {b : Addr} {p : Bool × Bool} (h : H b = some (.tup [.int (bi p.1), .int (bi p.2)])) : Dq H (.ref b) (pairD p) := .tup h (.cons (.int _) (.cons (.int _) .nil))
theorem pair_inv {H : Hp} {v : V} {p : Bool × Bool} (h : Dq H v (pairD p)) : ∃ b, v = .ref b ∧ H b = some (.tup [.int (bi p.1), .int (bi p.2)]) := by
  obtain ⟨b, xs, rfl, e, q⟩ := Dq.tup_inv (show Dq H v (.tuple [.int (bi p.1), .int (bi p.2)]) from h)
  cases q with
  | cons h1 q =>
    cases q with
    | cons h2 q =>
      cases q
      cases h1
      cases h2
      exact ⟨b, rfl, e⟩
theorem row_inv {H : Hp} {v : V} {r : Row} (h : Dq H v (rowD r)) : ∃ a xs, v = .ref a ∧ H a = some (.tup xs) ∧ DqA H xs (r.map pairD) := Dq.tup_inv h
theorem pairs_get {H : Hp} {xs : List V} {r : Row} {i : Nat} {y : V} (q : DqA H xs (r.map pairD)) (e : xs[i]? = some y) : ∃ p, r[i]? = some p ∧ ∃ b, y = .ref b ∧ H b = some (.tup [.int (bi p.1), .int (bi p.2)]) := by
  obtain ⟨d, h1, h2⟩ := q.get e
  rw [List.getElem?_map] at h1
  cases hr : r[i]? with
  | none => rw [hr] at h1; cases h1
  | some p =>
    rw [hr] at h1
    cases Option.some.inj h1
    exact ⟨p, rfl, pair_inv h2⟩
theorem pairs_len {H : Hp} {xs : List V} {r : Row} (q : DqA H xs (r.map pairD)) : xs.length = r.length := by rw [q.len, List.length_map]
theorem pairD_inj {p q : Bool × Bool} : PyData.eqv (pairD p) (pairD q) = decide (p = q) := by
  obtain ⟨a, b⟩ := p
  obtain ⟨c, d⟩ := q
  cases a <;> cases b <;> cases c <;> cases d <;> decide +kernel
theorem rows_eqv : ∀ a b : Row, PyData.eqv (rowD a) (rowD b) = decide (a = b)
  | [], [] => by simp [rowD, PyData.eqv, PyData.eqvAll]
  | [], _ :: _ => by simp [rowD, PyData.eqv, PyData.eqvAll]
  | _ :: _, [] => by simp [rowD, PyData.eqv, PyData.eqvAll]
  | x :: a, y :: b => by
    have ih := rows_eqv a b
    simp only [rowD, PyData.eqv] at ih
    simp only [rowD, List.map_cons, PyData.eqv, PyData.eqvAll]
    rw [ih, pairD_inj, Bool.eq_iff_iff]
    simp
theorem pairs_lay : ∀ r : Row, PyData.canLayAll0 (r.map pairD) = true ∧ PyData.depthAll (r.map pairD) ≤ 2
  | [] => by simp [PyData.canLayAll0, PyData.depthAll]
  | p :: r => by
    obtain ⟨h1, h2⟩ := pairs_lay r
    simp only [List.map_cons, PyData.canLayAll0, PyData.depthAll, pairD, PyData.canLay0, PyData.depth, h1]
    refine ⟨by simp, by omega⟩
theorem row_shaped (r : Row) : SeqAt.shaped (rowD r) = true := by
  obtain ⟨h1, h2⟩ := pairs_lay r
  unfold SeqAt.shaped
  simp only [rowD, PyData.canLay0, PyData.depth, h1, Bool.true_and, decide_eq_true_eq]
  omega
theorem pair_shaped (p : Bool × Bool) : SeqAt.shaped (pairD p) = true := by
  obtain ⟨a, b⟩ := p
  cases a <;> cases b <;> decide +kernel
/-! ### sums of rows, rows of kinds -/
def addR (a b : Row) : Row := List.zipWith (fun p q => (p.1 ^^ q.1, p.2 ^^ q.2)) a b
def zeroR (n : Nat) : Row := List.replicate (n + 1) (false, false)
def chB (a b : Int) : Bool := if 0 ≤ b then PySem.W.mcComb a b % 2 == 1 else false
def kindR (n k : Nat) : Row := (List.range (n + 1)).map fun (m : Nat) => (chB ((n : Int) - 2 - k) (((m : Nat) : Int) - 1 - k), chB ((n : Int) - 2 - k) (((m : Nat) : Int) - k))
theorem addR_len {a b : Row} (h : a.length = b.length) : (addR a b).length = b.length := by
  unfold addR
  rw [List.length_zipWith, h, Nat.min_self]
theorem zeroR_len (n : Nat) : (zeroR n).length = n + 1 := List.length_replicate
theorem kindR_len (n k : Nat) : (kindR n k).length = n + 1 := by
  unfold kindR
  rw [List.length_map, List.length_range]
theorem addR_zero : ∀ (n : Nat) (r : Row), r.length = n → addR (List.replicate n (false, false)) r = r
  | 0, [], _ => rfl
  | n + 1, p :: r, h => by
    have ih := addR_zero n r (by simpa using h)
    unfold addR at ih ⊢
    rw [List.replicate_succ, List.zipWith_cons_cons, ih]
    simp
  | 0, _ :: _, h => by simp at h
  | _ + 1, [], h => by simp at h
end Kr
namespace Kr
open PySem PySem.Spec PyProof.Rows L2
/-! ### small data: what repr can show -/
structure Sm (k w : Nat) (d : PyData) : Prop where
  sh : d.showable = true
  ls : d.leavesShort 41 = true
  dp : d.depth ≤ k
  wt : d.weight ≤ w
theorem Sm.mono {k w k' w' : Nat} {d : PyData} (h : Sm k w d) (hk : k ≤ k') (hw : w ≤ w') : Sm k' w' d := ⟨h.sh, h.ls, Nat.le_trans h.dp hk, Nat.le_trans h.wt hw⟩
theorem sm_all {k w : Nat} : ∀ {ds : List PyData}, (∀ d ∈ ds, Sm k w d) → PyData.showableAll ds = true ∧ PyData.leavesShortAll 41 ds = true ∧ PyData.depthAll ds ≤ k ∧ PyData.weightAll ds ≤ (w + 1) * ds.length
  | [], _ => ⟨by simp [PyData.showableAll], by simp [PyData.leavesShortAll], by simp [PyData.depthAll], by simp [PyData.weightAll]⟩
  | d :: ds, h => by
    obtain ⟨h1, h2, h3, h4⟩ := sm_all fun x hx => h x (List.mem_cons_of_mem _ hx)
    have hd := h d List.mem_cons_self
    refine ⟨by simp [PyData.showableAll, hd.sh, h1], by simp [PyData.leavesShortAll, hd.ls, h2], ?_, ?_⟩
    · simp only [PyData.depthAll]
      have := hd.dp
      omega
    · simp only [PyData.weightAll, List.length_cons, Nat.mul_add]
      have := hd.wt
      omega
theorem Sm.lst {k w m : Nat} {ds : List PyData} (h : ∀ d ∈ ds, Sm k w d) (hm : ds.length ≤ m) : Sm (k + 1) ((w + 1) * m) (.list ds) := by
  obtain ⟨h1, h2, h3, h4⟩ := sm_all h
  refine ⟨by simpa [PyData.showable] using h1, by simpa [PyData.leavesShort] using h2, by simp only [PyData.depth]; omega, ?_⟩
  simp only [PyData.weight]
  exact Nat.le_trans h4 (Nat.mul_le_mul_left _ hm)
theorem Sm.tup {k w m : Nat} {ds : List PyData} (h : ∀ d ∈ ds, Sm k w d) (hm : ds.length ≤ m) : Sm (k + 1) ((w + 1) * m) (.tuple ds) := by
  obtain ⟨h1, h2, h3, h4⟩ := sm_all h
  refine ⟨by simpa [PyData.showable] using h1, by simpa [PyData.leavesShort] using h2, by simp only [PyData.depth]; omega, ?_⟩
  simp only [PyData.weight]
  exact Nat.le_trans h4 (Nat.mul_le_mul_left _ hm)
theorem Sm.int {i : Int} (h : i.natAbs < 10 ^ 40) : Sm 1 140 (.int i) := by
  have hl : (PyData.shown (.int i)).length ≤ 41 := by
    have e := int_text_length_le10 (k := 40) (by decide) h
    show (Str.ofString (toString i)).length ≤ 41
    rw [PySem.ofString_length]
    exact e
  have hg : i.natAbs.log2 < 134 := by
    by_cases h0 : i.natAbs = 0
    · rw [h0]
      decide
    · rw [Nat.log2_lt h0]
      exact Nat.lt_of_lt_of_le h (by decide)
  refine ⟨?_, by simpa [PyData.leavesShort] using hl, by simp [PyData.depth], ?_⟩
  · simp only [PyData.showable, decide_eq_true_eq]
    omega
  · simp only [PyData.weight]
    split <;> omega
theorem Sm.non : Sm 1 140 .none := ⟨rfl, rfl, by simp [PyData.depth], by simp [PyData.weight]⟩
theorem Sm.bl (b : Bool) : Sm 1 140 (.bool b) := ⟨rfl, rfl, by simp [PyData.depth], by simp [PyData.weight]⟩
theorem Sm.dic : Sm 1 140 (.dict []) := ⟨by simp [PyData.showable, PyData.showableKv], by simp [PyData.leavesShort, PyData.leavesShortKv], by simp [PyData.depth, PyData.depthKv], by simp [PyData.weight, PyData.weightKv]⟩
theorem Sm.str {x : Str} (h : (x.cps.toList.all fun c => decide (c < 16 ^ 8)) = true) (hs : x.length ≤ 4) : Sm 1 140 (.str x) :=
  ⟨by simp [PyData.showable], by simpa [PyData.leavesShort] using h, by simp [PyData.depth], Nat.le_trans (show x.cps.size ≤ 4 from hs) (by decide)⟩
/-- the text is short enough -/
theorem Sm.fits {k w : Nat} {d : PyData} (h : Sm k w d) (hw : w ≤ 380000) : d.shown.length ≤ sizeLine := by
  have h1 := PyData.shown_le 41 (by decide) d h.ls
  have h2 := h.wt
  rw [sizeLine_eq]
  omega
/-- repr of small data -/
theorem repr_sm {v : V} {d : PyData} {H : Hp} {Q : VK} {k w : Nat} (hd : Dq H v d) (h : Sm k w d) (hk : k ≤ 40) (hw : w ≤ 380000) (q : Q (.str d.shown) H) : rRepr [v] H Q :=
  ⟨v, d, rfl, hd, h.sh, Nat.le_trans h.dp hk, h.fits hw, q⟩
/-- t + u, tuples of any lengths: some object that holds both -/
theorem catA_k {K : PySem.W.Frag} {a b : Addr} {xs ys : List V} {Q : VK} {H : Hp} (ha : H a = some (.tup xs)) (hb : H b = some (.tup ys)) (hl : xs.length + ys.length ≤ 100000) (k : ∀ y H5, Same H H5 → H5 y = some (.tup (xs ++ ys)) → Q (.ref y) H5) : rCatA K (.ref a) (.ref b) H Q := by
  refine ⟨a, b, xs, ys, rfl, rfl, SqT.of ha, SqT.of hb, Nat.le_trans hl (by decide), fun e => k _ _ (Same.refl _) (by rw [e]; exact hb), fun _ e => k _ _ (Same.refl _) (by rw [e, List.append_nil]; exact ha), fun _ _ p np => k _ _ (fun c o h => ?_) upd_same⟩
  rw [upd_ne (ne_of_none h np)]
  exact h
/-- t[i:j] of a tuple: some object that holds it -/
theorem sliceA_k {K : PySem.W.Frag} {a : Addr} {xs : List V} {lo hi : Option Int} {Q : VK} {H : Hp} (ha : H a = some (.tup xs)) (k : ∀ y H5, Same H H5 → H5 y = some (.tup (cutV xs lo hi)) → Q (.ref y) H5) : rSlA K (.ref a) lo hi H Q := by
  refine ⟨a, xs, rfl, SqT.of ha, fun ⟨e1, e2⟩ => k _ _ (Same.refl _) ?_, fun _ p np => k _ _ (fun c o h => ?_) upd_same⟩
  · unfold cutV
    rw [e1, e2, List.drop_zero, Nat.sub_zero, List.take_length]
    exact ha
  · rw [upd_ne (ne_of_none h np)]
    exact h
theorem cut_to {xs : List V} {i : Nat} (h : i ≤ xs.length) : cutV xs none (some (i : Int)) = xs.take i := by
  unfold cutV
  rw [HT.sIx_none, HT.sIx_nat, List.drop_zero, Nat.sub_zero, Nat.min_eq_left h]
theorem cut_from {xs : List V} {i : Nat} (h : i ≤ xs.length) : cutV xs (some (i : Int)) none = xs.drop i := by
  unfold cutV
  rw [HT.sIx_none, HT.sIx_nat, Nat.min_eq_left h]
  exact List.take_of_length_le (by rw [List.length_drop]; exact Nat.le_refl _)
end Kr
namespace Kr
open PySem PySem.Spec PyProof.Rows L2
/-! ### defs that may be called by names in the contrary order; defs that are called where no repr is under way -/
structure OkN (P : Program) (w : World) (K : PySem.W.Frag) (mg : Str → Option Value) (base : Heap) (k : Nat) (x : Str) (ps ks : List Str) (sp : Sp) : Prop where
  ex : ∃ f fd, FnOk P w K mg base CX0 k f fd ps sp ∧ PySem.W.keepIn K (.ref f) = true ∧ mg x = some (.ref f) ∧ Binds K fd ps [] ∧ KBn K fd ps 0 ks (fun _ ws => ws.reverse) (fun _ zs => zs.reverse)
structure DfN (K : PySem.W.Frag) (mg : Str → Option Value) (x : Str) (st : Stmt) (ps ks : List Str) : Prop where
  ex : ∃ f fd, Fun K x x st f fd ∧ Binds K fd ps [] ∧ mg x = some (.ref f) ∧ KBn K fd ps 0 ks (fun _ ws => ws.reverse) (fun _ zs => zs.reverse)
structure OkG (P : Program) (w : World) (K : PySem.W.Frag) (mg : Str → Option Value) (base : Heap) (k : Nat) (x : Str) (ps : List Str) (sp : Sp) : Prop where
  ex : ∃ f fd, FnG P w K mg base CX0 k f fd ps sp ∧ PySem.W.keepIn K (.ref f) = true ∧ mg x = some (.ref f) ∧ Binds K fd ps []
section
variable {P : Program} {w : World} {K : PySem.W.Frag} {mg : Str → Option Value} {base : Heap}
theorem OkN.ok {x : Str} {ps ks : List Str} {k : Nat} {sp : Sp} (D : OkN P w K mg base k x ps ks sp) : Ok P w K mg base k x ps sp := let ⟨f, fd, a, b, c, d, _⟩ := D.ex; ⟨f, fd, a, b, c, d⟩
theorem OkN.mono {x : Str} {ps ks : List Str} {j k : Nat} {sp : Sp} (D : OkN P w K mg base j x ps ks sp) (h : j ≤ k) : OkN P w K mg base k x ps ks sp := let ⟨f, fd, a, r⟩ := D.ex; ⟨f, fd, a.mono h, r⟩
theorem DfN.df {x : Str} {st : Stmt} {ps ks : List Str} (D : DfN K mg x st ps ks) : Df K mg x st ps := let ⟨f, fd, a, b, c, _⟩ := D.ex; ⟨f, fd, a, b, c⟩
/-- a promise of the def by place holds by names -/
theorem DfN.okN {x : Str} {st : Stmt} {ps ks : List Str} {k : Nat} {sp : Sp} (D : DfN K mg x st ps ks) (h : ∀ f fd, Fun K x x st f fd → FnOk P w K mg base CX0 k f fd ps sp) : OkN P w K mg base k x ps ks sp := by
  obtain ⟨f, fd, F, b, g, n⟩ := D.ex
  exact ⟨f, fd, h f fd F, F.kp, g, b, n⟩
theorem Df.okG {x : Str} {st : Stmt} {ps : List Str} {k : Nat} {sp : Sp} (D : Df K mg x st ps) (h : ∀ f fd, Fun K x x st f fd → FnG P w K mg base CX0 k f fd ps sp) : OkG P w K mg base k x ps sp := by
  obtain ⟨f, fd, F, b, g⟩ := D.ex
  exact ⟨f, fd, h f fd F, F.kp, g, b⟩
theorem OkG.mono {x : Str} {ps : List Str} {j k : Nat} {sp : Sp} (D : OkG P w K mg base j x ps sp) (h : j ≤ k) : OkG P w K mg base k x ps sp := by
  obtain ⟨f, fd, F, r⟩ := D.ex
  exact ⟨f, fd, F.mono h, r⟩
end
section
variable {X : Cx} {k : Nat} {x : Str} {ps ks : List Str} {sp : Sp} {p pos : Pos} {e : Expr} {es : List Expr} {t : TA} {kws : List Keyword} {tk : TA}
theorem pe_fnN (D : OkN X.prog X.w X.K X.mg X.base k x ps ks sp) (hr : Room k X.A) (hg : Gl X x) (hkw : PK X kws tk)
    (hall : (backToKw pos (keywordEach kws X.env)).all (·.1.isSome) = true := by rfl) (hks : (backToKw pos (keywordEach kws X.env)).filterMap (·.1) = ks := by rfl) (hdb : (x == ("__debug__" : Str)) = false := by decide)
    (hpl : ((backTo pos (starEach [] X.env)).any (·.1) || (backToKw pos (keywordEach kws X.env)).any (·.1.isNone)) = false := by rfl) :
    PE X (.Call (.Name x p) [] kws pos) (tCallN ks.length sp (fun _ zs => zs.reverse) E0 tk) := by
  obtain ⟨f, fd, F, kp, g, b, n⟩ := D.ex
  exact pe_callN F hr hg g kp n pass0 hkw hall hks hdb hpl
theorem pe_fnG (D : OkG X.prog X.w X.K X.mg X.base k x ps sp) (gd : X.A.guards = some []) (hr : Room k X.A) (hg : Gl X x) (ha : PA X (e :: es) t)
    (hdb : (x == ("__debug__" : Str)) = false := by decide) (he : starEach (e :: es) X.env = (false, eval e X.env) :: starEach es X.env := by rfl) (hpl : (backTo pos (starEach es X.env)).any (·.1) = false := by rfl) :
    PE X (.Call (.Name x p) (e :: es) [] pos) (tCall sp [] E0 t) := by
  obtain ⟨f, fd, F, kp, g, b⟩ := D.ex
  exact pe_callG F gd hr hg g kp b .nil pass0 ha hdb he hpl
end
/-! ### what is shown is small -/
theorem Sm.lit {i : Int} (h : i.natAbs < 32) : Sm 1 5 (.int i) := by
  have a := Sm.int (i := i) (by omega)
  refine ⟨a.sh, a.ls, a.dp, ?_⟩
  simp only [PyData.weight]
  split
  · omega
  · rename_i h0
    have h1 : i.natAbs ≠ 0 := fun z => h0 (by simp; omega)
    have : i.natAbs.log2 < 5 := (Nat.log2_lt h1).mpr h
    omega
theorem Sm.strm {x : Str} {m : Nat} (h : (x.cps.toList.all fun c => decide (c < 16 ^ 8)) = true) (hs : x.length ≤ m) : Sm 1 m (.str x) :=
  ⟨by simp [PyData.showable], by simpa [PyData.leavesShort] using h, by simp [PyData.depth], hs⟩
theorem Sm.two {k w : Nat} {a b : PyData} (ha : Sm k w a) (hb : Sm k w b) : Sm (k + 1) ((w + 1) * 2) (.list [a, b]) := Sm.lst (fun d hd => by
  simp only [List.mem_cons, List.not_mem_nil, or_false] at hd
  rcases hd with rfl | rfl
  · exact ha
  · exact hb) (Nat.le_refl _)
/-- repr(e) != repr(e'), as a test -/
theorem ne_repr {te te2 : TE} {σ : L2.St} {H : Hp} {Q : Bool → Hp → Prop} (h : te σ H fun v H1 => rRepr [v] H1 fun x H2 => te2 σ H2 fun v2 H3 => rRepr [v2] H3 fun y H4 => rNe x y H4 fun z H5 => ∃ k, z = .bl k ∧ Q k H5) :
    tTest (tOp rNe (tCB rRepr (tCons te tNil)) (tCB rRepr (tCons te2 tNil))) σ H Q := h
/-- repr(e) != x, x a text in a slot -/
theorem ne_reprV {te te2 : TE} {σ : L2.St} {H : Hp} {Q : Bool → Hp → Prop} (h : te σ H fun v H1 => rRepr [v] H1 fun x H2 => te2 σ H2 fun y H4 => rNe x y H4 fun z H5 => ∃ k, z = .bl k ∧ Q k H5) :
    tTest (tOp rNe (tCB rRepr (tCons te tNil)) te2) σ H Q := h
theorem ret_eq_repr {te te2 : TE} {σ : L2.St} {H : Hp} {D : Ends} (h : te σ H fun v H1 => rRepr [v] H1 fun x H2 => te2 σ H2 fun v2 H3 => rRepr [v2] H3 fun y H4 => rEq x y H4 fun z H5 => D.rt z H5) : tRet (tOp rEq (tCB rRepr (tCons te tNil)) (tCB rRepr (tCons te2 tNil))) D σ H := h
theorem ret_eq_reprV {te te2 : TE} {σ : L2.St} {H : Hp} {D : Ends} (h : te σ H fun v H1 => rRepr [v] H1 fun x H2 => te2 σ H2 fun y H4 => rEq x y H4 fun z H5 => D.rt z H5) : tRet (tOp rEq (tCB rRepr (tCons te tNil)) te2) D σ H := h
/-- repr of small data, the text under a name -/
theorem repr_x {v : V} {d : PyData} {H : Hp} {Q : VK} {k w : Nat} (hd : Dq H v d) (h : Sm k w d) (hk : k ≤ 40) (hw : w ≤ 380000) (q : ∀ x, x = d.shown → Q (.str x) H) : rRepr [v] H Q := repr_sm hd h hk hw (q _ rfl)
theorem repr_ne {v : V} {d : PyData} {H : Hp} {x : Str} {Q : Bool → Hp → Prop} {k w : Nat} (hx : x = d.shown) (hd : Dq H v d) (h : Sm k w d) (hk : k ≤ 40) (hw : w ≤ 380000) (q : Q false H) :
    rRepr [v] H fun y H4 => rNe (.str x) y H4 fun z H5 => ∃ k, z = .bl k ∧ Q k H5 := by
  refine repr_x hd h hk hw fun y hy => ?_
  rw [← hy] at hx
  subst hx
  refine ⟨rfl, _, rfl, ?_⟩
  rw [decide_eq_true rfl]
  exact q
theorem repr_eq {v : V} {d : PyData} {H : Hp} {x : Str} {Q : VK} {k w : Nat} (hx : x = d.shown) (hd : Dq H v d) (h : Sm k w d) (hk : k ≤ 40) (hw : w ≤ 380000) (q : Q (.bl true) H) :
    rRepr [v] H fun y H4 => rEq (.str x) y H4 fun z H5 => Q z H5 := by
  refine repr_x hd h hk hw fun y hy => ?_
  rw [← hy] at hx
  subst hx
  refine ⟨rfl, ?_⟩
  rw [decide_eq_true rfl]
  exact q
theorem txt_eq {x y : Str} {d : PyData} {H : Hp} {Q : VK} (hx : x = d.shown) (hy : y = d.shown) (q : Q (.bl true) H) : rEq (.str x) (.str y) H Q := by
  rw [← hy] at hx
  subst hx
  refine ⟨rfl, ?_⟩
  rw [decide_eq_true rfl]
  exact q
theorem Sm.three {k w : Nat} {a b c : PyData} (ha : Sm k w a) (hb : Sm k w b) (hc : Sm k w c) : Sm (k + 1) ((w + 1) * 3) (.list [a, b, c]) := Sm.lst (fun d hd => by
  simp only [List.mem_cons, List.not_mem_nil, or_false] at hd
  rcases hd with rfl | rfl | rfl
  · exact ha
  · exact hb
  · exact hc) (Nat.le_refl _)
/-- two texts of the same data -/
theorem txt_ne {x y : Str} {d : PyData} {H : Hp} {Q : Bool → Hp → Prop} (hx : x = d.shown) (hy : y = d.shown) (q : Q false H) : rNe (.str x) (.str y) H fun z H5 => ∃ k, z = .bl k ∧ Q k H5 := by
  rw [← hy] at hx
  subst hx
  refine ⟨rfl, _, rfl, ?_⟩
  rw [decide_eq_true rfl]
  exact q
end Kr
namespace Kr
open PySem PySem.Spec PyProof.Rows L2
/-! ### tuple * k, k at least 1 -/
theorem tuple_mul1 (l : Addr) (items : Array Value) (n : Nat) (dd : Option Addr) (sl : Array (Option Value)) (u : Tok) :
    Meets (Builtin.«tuple.__mul__» ⟨[.ref l, .int 1 u], []⟩) (fun _ R s => s.heap.get? l = some { cls := .type "tuple", dict := dd, data := .seq items n, slots := sl } ∧ R (.ok (.ret (Value.ref l))) s) :=
  .of_wp fun prog w A R s h => by
    obtain ⟨hp, g, d, tk, os⟩ := s
    obtain ⟨hl, h⟩ := h
    have f1 := AutoSeq1.idx_int
    wp_walk using wpAny_loadPart' hl
    repeat (first
      | (refine wpAny_ite_false (by decide) ?_; wp_walk using wpAny_loadPart' hl)
      | (refine wpAny_ite_true (decide_eq_true (by rw [show ((1 : Int) == 1) = true from rfl, Bool.or_true])) ?_; wp_walk using wpAny_loadPart' hl))
    exact ⟨_, rfl, h⟩
def rRepA (K : PySem.W.Frag) : R2 := fun x y H Q => ∃ l k xs, x = .ref l ∧ y = .int k ∧ SqT K H l xs ∧ xs ≠ [] ∧ 1 ≤ k ∧ xs.length * k.toNat ≤ 100000 ∧ (k = 1 → Q (.ref l) H) ∧ (k ≠ 1 → ∀ p, H p = none → Q (.ref p) (upd H p (.tup (List.replicate k.toNat xs).flatten)))
section
variable {X : Cx}
theorem op_repA : OpR X (binaryOp .Mult) (rRepA X.K) := by
  intro pins s σ H x y v u Q I rx ry h
  obtain ⟨l, k, xs, rfl, rfl, hT, hne, h1, hz, q1, q⟩ := h
  cases rx
  obtain ⟨t, rfl⟩ := ry
  obtain ⟨its, r, ⟨⟨cls, dd, data, sl⟩, ho, hc, n, hd⟩, hs⟩ := I.tuple hT
  simp only at hc hd
  subst hc hd
  by_cases hk1 : k = 1
  · subst hk1
    exact wpAny_binaryOp_repeat_ref (T := "tuple") (U := "int") (by decide) ⟨_, ho, rfl⟩ (fun s' => typeIs_int s' 1 t) noFill_tuple_mul F.fills_int_mul F.slot_int_rmul repeat_tuple F.slot_int_index.lookup
      (call_meets F.slot_int_rmul (typeIs_int s 1 t) F.entry_int_rmul (F.args_int_rmul_2 _ _) (int_rmul_tuple 1 t l its.toArray n dd sl)
        ⟨ho, rfl, ⟨_, ho, rfl⟩, call_meets F.slot_tuple_mul ⟨_, ho, rfl⟩ F.entry_tuple_mul (F.args_tuple_mul_2 _ _) (tuple_mul1 l its.toArray n dd sl t) ⟨ho, ⟨.ref l, H, I, rfl, q1 rfl⟩⟩⟩)
  have hle : its.length = xs.length := r.length.symm
  have hn : its ≠ [] := fun e => hne (by
    rw [e] at hle
    exact List.eq_nil_of_length_eq_zero hle.symm)
  have hi : its.toArray.isEmpty = false := by
    cases its with
    | nil => exact absurd rfl hn
    | cons a b => rfl
  have hsz0 : its.toArray.size = xs.length := by rw [List.size_toArray, hle]
  have hm0 : ((its.toArray.size : Nat) : Int) * k = ((xs.length * k.toNat : Nat) : Int) := by
    rw [hsz0, Int.natCast_mul, Int.toNat_of_nonneg (by omega)]
  have hm : ((its.toArray.size : Nat) : Int) * k ≤ 100000 := by
    rw [hm0]
    omega
  have hkk : k ≤ 100000 := by
    have hx : 1 ≤ xs.length := List.length_pos_iff.mpr hne
    have a1 : 1 * k.toNat ≤ xs.length * k.toNat := Nat.mul_le_mul_right _ hx
    omega
  have flen : (List.replicate k.toNat its).flatten.length ≤ sizeLine := by
    rw [PyProof.Rows.lm_len_rep_flat, hle, sizeLine_eq, Nat.mul_comm]
    omega
  have c0 : (decide (k < -(2 ^ 63)) || decide (k ≥ 2 ^ 63)) = false := by
    rw [decide_eq_false (by omega), decide_eq_false (by omega)] <;> rfl
  have c1 : (its.toArray.isEmpty || k == 1) = false := by
    rw [hi, Bool.false_or]
    exact beq_eq_false_iff_ne.mpr hk1
  have c2 : (decide (k ≤ 0) || its.toArray.isEmpty) = false := by
    rw [hi, Bool.or_false]
    exact decide_eq_false (by omega)
  have c4 : Builtin.Tuple.tupleTooMany (((its.toArray.size : Nat) : Int) * k) = false := by
    unfold Builtin.Tuple.tupleTooMany
    rw [sizeLine_eq]
    exact decide_eq_false (by omega)
  refine wpAny_binaryOp_repeat_ref (T := "tuple") (U := "int") (by decide) ⟨_, ho, rfl⟩ (fun s' => typeIs_int s' k t) noFill_tuple_mul F.fills_int_mul F.slot_int_rmul repeat_tuple F.slot_int_index.lookup
    (call_meets F.slot_int_rmul (typeIs_int s k t) F.entry_int_rmul (F.args_int_rmul_2 _ _) (int_rmul_tuple k t l its.toArray n dd sl)
      ⟨ho, rfl, ⟨_, ho, rfl⟩, call_meets F.slot_tuple_mul ⟨_, ho, rfl⟩ F.entry_tuple_mul (F.args_tuple_mul_2 _ _) (tuple_mulW l its.toArray n dd sl k t c0 c1 c2 (by omega) c4 (by rw [size_rep, List.size_toArray]; exact flen)) ⟨ho, ?_⟩⟩)
  rw [size_rep]
  refine ⟨.ref s.heap.objs.size, _, I.laid (t' := s.toks) (o := .tup (List.replicate k.toNat xs).flatten) (fun b ob q => Heap.get?_push_of_some _ q) (Nat.le_refl _) ?_, rfl, q hk1 _ (I.hok.fresh (Nat.le_refl _))⟩
  exact ⟨by rw [PyProof.Rows.lm_len_rep_flat, sizeLine_eq, Nat.mul_comm]; omega, _, r.rep k.toNat, IsTup.new _ _⟩
end
/-- some object that holds them -/
theorem repA_k {K : PySem.W.Frag} {a : Addr} {xs : List V} {k : Int} {Q : VK} {H : Hp} (ha : H a = some (.tup xs)) (hne : xs ≠ []) (h1 : 1 ≤ k) (hz : xs.length * k.toNat ≤ 100000) (q : ∀ y H5, Same H H5 → H5 y = some (.tup (List.replicate k.toNat xs).flatten) → Q (.ref y) H5) : rRepA K (.ref a) (.int k) H Q :=
  ⟨a, k, xs, rfl, rfl, SqT.of ha, hne, h1, hz, fun e => q _ _ (Same.refl _) (by
    rw [ha, e]
    simp), fun _ p np => q _ _ (same_new np) upd_same⟩
end Kr
namespace Kr
open PySem PySem.Spec PyProof.Rows L2
/-! ### expressions that give data: what they leave of the heap, and of which data -/
/-- what holds of the heap all the while, and how heaps follow one another -/
structure Fr where
  I : Hp → Prop
  Rl : Hp → Hp → Prop
  refl : ∀ {G}, Rl G G
  trans : ∀ {A B C}, Rl A B → Rl B C → Rl A C
  up : ∀ {A B}, Same A B → I A → I B
  of : ∀ {A B}, Same A B → Rl A B
  ts : ∀ {A B}, I A → Rl A B → TS A B
def frS : Fr := ⟨fun _ => True, Same, Same.refl _, Same.trans, fun _ _ => trivial, fun s => s, fun _ s => TS.of s⟩
/-- flat data -/
def Bq (F : Fr) (te : TE) (σ : L2.St) (H : Hp) (R : PyData → Prop) : Prop := ∀ G, F.I G → F.Rl H G → ∀ Q : VK, (∀ G' v d, F.I G' → F.Rl G G' → Dq G' v d → flatT d = true → R d → Q v G') → te σ G Q
def BqA (F : Fr) (n : Nat) (ta : TA) (σ : L2.St) (H : Hp) (R : List PyData → Prop) : Prop := ∀ G, F.I G → F.Rl H G → ∀ Q : List V → Hp → Prop, (∀ G' vs ds, F.I G' → F.Rl G G' → DqA G' vs ds → ds.length = n → flatTA ds = true → R ds → Q vs G') → ta σ G Q
/-- whole numbers -/
def Bn (F : Fr) (te : TE) (σ : L2.St) (H : Hp) (R : Int → Prop) : Prop := ∀ G, F.I G → F.Rl H G → ∀ Q : VK, (∀ G' i, F.I G' → F.Rl G G' → R i → Q (.int i) G') → te σ G Q
section
variable {F : Fr} {σ : L2.St} {H : Hp} {te tf : TE} {ta : TA} {R R' : PyData → Prop} {S : List PyData → Prop} {N N' : Int → Prop} {n : Nat}
theorem Bq.mono (h : Bq F te σ H R) (i : ∀ d, R d → R' d) : Bq F te σ H R' := fun G a b Q q => h G a b Q fun G' v d c e f g k => q G' v d c e f g (i d k)
theorem Bn.mono (h : Bn F te σ H N) (i : ∀ d, N d → N' d) : Bn F te σ H N' := fun G a b Q q => h G a b Q fun G' v c e k => q G' v c e (i _ k)
theorem BqA.mono {S' : List PyData → Prop} (h : BqA F n ta σ H S) (i : ∀ d, S d → S' d) : BqA F n ta σ H S' := fun G a b Q q => h G a b Q fun G' v d c e f g k l => q G' v d c e f g k (i _ l)
theorem bn_at {Q : VK} (h : Bn F te σ H N) (a : F.I H) (k : ∀ G i, F.I G → F.Rl H G → N i → Q (.int i) G) : te σ H Q := h H a F.refl Q k
theorem bq_at {Q : VK} (h : Bq F te σ H R) (a : F.I H) (k : ∀ G v d, F.I G → F.Rl H G → Dq G v d → flatT d = true → R d → Q v G) : te σ H Q := h H a F.refl Q k
theorem bn_c {i : Int} (r : N i) : Bn F (tC (.int i)) σ H N := fun G a b Q q => q G i a F.refl r
theorem bn_var {j : Nat} {i : Int} (e : σ[j]? = some (some (.int i))) (r : N i) : Bn F (tVar j) σ H N := fun G a b Q q => ⟨_, e, q G i a F.refl r⟩
theorem bn_op {g : Int → Int → Int} (h : Bn F te σ H fun i => Bn F tf σ H fun j => N (g i j)) : Bn F (tOp (rI0 fun i j => .int (g i j)) te tf) σ H N := fun G a b Q q => h G a b _ fun G1 i I1 r1 h2 => h2 G1 I1 (F.trans b r1) _ fun G2 j I2 r2 k => ⟨i, j, rfl, rfl, q G2 _ I2 (F.trans r1 r2) k⟩
theorem bn_opC {C : Int → Int → Prop} {g : Int → Int → Int} (h : Bn F te σ H fun i => Bn F tf σ H fun j => C i j ∧ N (g i j)) : Bn F (tOp (rI C fun i j => .int (g i j)) te tf) σ H N := fun G a b Q q => h G a b _ fun G1 i I1 r1 h2 => h2 G1 I1 (F.trans b r1) _ fun G2 j I2 r2 k => ⟨i, j, rfl, rfl, k.1, q G2 _ I2 (F.trans r1 r2) k.2⟩
/-- a def that promises a number -/
theorem bq_int (h : Bn F te σ H N) (i : ∀ x, N x → R (.int x)) : Bq F te σ H R := fun G a b Q q => h G a b Q fun G' x c e k => q G' _ _ c e (.int x) rfl (i x k)
theorem bq_c {i : Int} (r : R (.int i)) : Bq F (tC (.int i)) σ H R := fun G a b Q q => q G _ _ a F.refl (.int i) rfl r
theorem bq_str {x : Str} (r : R (.str x)) : Bq F (tC (.str x)) σ H R := fun G a b Q q => q G _ _ a F.refl (.str x) rfl r
theorem bq_non (r : R .none) : Bq F (tC .non) σ H R := fun G a b Q q => q G _ _ a F.refl .non rfl r
theorem bq_bl {k : Bool} (r : R (.bool k)) : Bq F (tC (.bl k)) σ H R := fun G a b Q q => q G _ _ a F.refl (.bl k) rfl r
theorem bq_var {j : Nat} {v : V} {d : PyData} (hI : F.I H) (e : σ[j]? = some (some v)) (q : Dq H v d) (f : flatT d = true) (r : R d) : Bq F (tVar j) σ H R := fun G a b Q k => ⟨v, e, k G v d a F.refl (Dq.upT (F.ts hI b) f q) f r⟩
theorem bq_op {g : Int → Int → Int} (h : Bn F te σ H fun i => Bn F tf σ H fun j => R (.int (g i j))) : Bq F (tOp (rI0 fun i j => .int (g i j)) te tf) σ H R := bq_int (bn_op (N := fun x => R (.int x)) h) fun _ k => k
theorem bq_ivar {j : Nat} {i : Int} (e : σ[j]? = some (some (.int i))) (r : R (.int i)) : Bq F (tVar j) σ H R := bq_int (bn_var (N := fun x => R (.int x)) e r) fun _ k => k
theorem bqa_nil (r : S []) : BqA F 0 tNil σ H S := fun G a b Q q => q G _ _ a F.refl .nil rfl rfl r
theorem bqa_cons (h : Bq F te σ H fun d => BqA F n ta σ H fun ds => S (d :: ds)) : BqA F (n + 1) (tCons te ta) σ H S := fun G a b Q q => h G a b _ fun G1 v d I1 r1 q1 f1 h2 => h2 G1 I1 (F.trans b r1) _ fun G2 vs ds I2 r2 q2 l2 f2 k => q G2 _ _ I2 (F.trans r1 r2) (.cons (Dq.upT (F.ts I1 r2) f1 q1) q2) (by rw [List.length_cons, l2]) (by simp [flatTA, f1, f2]) k
theorem bq_tup (h : BqA F n ta σ H fun ds => R (.tuple ds)) (hn : n ≤ 100000 := by decide) : Bq F (tTup ta) σ H R := fun G a b Q q => h G a b _ fun G1 vs ds I1 r1 q1 l1 f1 k => ⟨sz (by rw [q1.len, l1]; exact hn), fun p np => by
  have s := same_new (o := .tup vs) np
  exact q _ _ _ (F.up s I1) (F.trans r1 (F.of s)) (.tup upd_same (q1.up s)) (by simpa [flatT] using f1) k⟩
theorem bq_tup0 (h : BqA F 0 tNil σ H fun ds => R (.tuple ds)) : Bq F (tTup tNil) σ H R := bq_tup h
theorem bq_tup1 {a : TE} (h : BqA F 1 (tCons a tNil) σ H fun ds => R (.tuple ds)) : Bq F (tTup (tCons a tNil)) σ H R := bq_tup h
theorem bq_tup2 {a b : TE} (h : BqA F 2 (tCons a (tCons b tNil)) σ H fun ds => R (.tuple ds)) : Bq F (tTup (tCons a (tCons b tNil))) σ H R := bq_tup h
theorem bq_tup3 {a b c : TE} (h : BqA F 3 (tCons a (tCons b (tCons c tNil))) σ H fun ds => R (.tuple ds)) : Bq F (tTup (tCons a (tCons b (tCons c tNil)))) σ H R := bq_tup h
/-- a list's display -/
theorem bq_lst {Q : VK} {G : Hp} (h : BqA F n ta σ H S) (a : F.I G) (b : F.Rl H G) (hn : n ≤ 100000) (q : ∀ G1 p vs ds, F.I G1 → F.Rl G G1 → DqA G1 vs ds → ds.length = n → flatTA ds = true → S ds → G1 p = none → Q (.ref p) (upd G1 p (.lst vs))) : tLst ta σ G Q := h G a b _ fun G1 vs ds I1 r1 q1 l1 f1 k => ⟨sz (by rw [q1.len, l1]; exact hn), fun p np => q G1 p vs ds I1 r1 q1 l1 f1 k np⟩
/-- a list with one more item, appended -/
theorem bn_of {N : Int → Prop} (h : Bq F te σ H R) (i : ∀ d, R d → ∃ x, d = .int x ∧ N x) : Bn F te σ H N := fun G a b Q q => h G a b Q fun G' v d c e f g k => by
  obtain ⟨x, rfl, hx⟩ := i d k
  cases f
  exact q G' x c e hx
/-- a if x < y else b, and its like -/
theorem bq_ifc {g : Int → Int → Bool} {t u : TE} (h : Bn F te σ H fun i => Bn F tf σ H fun j => (g i j = true → Bq F t σ H R) ∧ (g i j = false → Bq F u σ H R)) : Bq F (tIf (tTest (tOp (rI0 fun i j => .bl (g i j)) te tf)) t u) σ H R := fun G a b Q q => h G a b _ fun G1 i I1 r1 h2 => h2 G1 I1 (F.trans b r1) _ fun G2 j I2 r2 k => ⟨i, j, rfl, rfl, _, rfl, by
  have r12 := F.trans r1 r2
  show if g i j = true then t σ G2 Q else u σ G2 Q
  by_cases c : g i j = true
  · rw [if_pos c]
    exact k.1 c G2 I2 (F.trans b r12) Q fun G' v d x1 x2 => q G' v d x1 (F.trans r12 x2)
  · rw [if_neg c]
    exact k.2 (Bool.eq_false_iff.mpr c) G2 I2 (F.trans b r12) Q fun G' v d x1 x2 => q G' v d x1 (F.trans r12 x2)⟩
theorem bn_ifc {g : Int → Int → Bool} {t u : TE} {N : Int → Prop} (h : Bn F te σ H fun i => Bn F tf σ H fun j => (g i j = true → Bn F t σ H N) ∧ (g i j = false → Bn F u σ H N)) : Bn F (tIf (tTest (tOp (rI0 fun i j => .bl (g i j)) te tf)) t u) σ H N := fun G a b Q q => h G a b _ fun G1 i I1 r1 h2 => h2 G1 I1 (F.trans b r1) _ fun G2 j I2 r2 k => ⟨i, j, rfl, rfl, _, rfl, by
  have r12 := F.trans r1 r2
  show if g i j = true then t σ G2 Q else u σ G2 Q
  by_cases c : g i j = true
  · rw [if_pos c]
    exact k.1 c G2 I2 (F.trans b r12) Q fun G' v x1 x2 => q G' v x1 (F.trans r12 x2)
  · rw [if_neg c]
    exact k.2 (Bool.eq_false_iff.mpr c) G2 I2 (F.trans b r12) Q fun G' v x1 x2 => q G' v x1 (F.trans r12 x2)⟩
/-- t * k -/
theorem bq_rep {K : PySem.W.Frag} (h : Bq F te σ H fun d => ∃ ds, d = .tuple ds ∧ ds ≠ [] ∧ Bn F tf σ H fun k => 1 ≤ k ∧ ds.length * k.toNat ≤ 100000 ∧ R (.tuple (List.replicate k.toNat ds).flatten)) : Bq F (tOp (rRepA K) te tf) σ H R := fun G a b Q q => h G a b _ fun G1 v d I1 r1 q1 f1 ⟨ds, e, hne, h2⟩ => by
  subst e
  refine h2 G1 I1 (F.trans b r1) _ fun G2 k I2 r2 ⟨k1, k2, k3⟩ => ?_
  obtain ⟨t, xs, rfl, ht, qx⟩ := (Dq.upT (F.ts I1 r2) f1 q1).tup_inv
  have hl := qx.len
  refine repA_k ht (fun z => hne (by rw [z] at hl; exact List.eq_nil_of_length_eq_zero hl.symm)) k1 (by rw [hl]; exact k2) fun y G3 s h3 => ?_
  have rp : ∀ m : Nat, DqA G3 (List.replicate m xs).flatten (List.replicate m ds).flatten := by
    intro m
    induction m with
    | zero => exact .nil
    | succ m ih =>
      rw [List.replicate_succ, List.replicate_succ, List.flatten_cons, List.flatten_cons]
      exact (qx.up s).app ih
  refine q G3 _ _ (F.up s I2) (F.trans (F.trans r1 r2) (F.of s)) (.tup h3 (rp k.toNat)) ?_ k3
  simp only [flatT] at f1 ⊢
  refine flatTA_of fun d hd => ?_
  obtain ⟨l, hl2, hd2⟩ := List.mem_flatten.mp hd
  have := List.eq_of_mem_replicate hl2
  subst this
  have mem : ∀ {es : List PyData}, flatTA es = true → ∀ d ∈ es, flatT d = true := by
    intro es
    induction es with
    | nil => intro _ d h; exact nomatch h
    | cons e es ih =>
      intro h d hd
      have h2 : flatT e = true ∧ flatTA es = true := by simpa [flatTA] using h
      rcases List.mem_cons.mp hd with rfl | hd
      · exact h2.1
      · exact ih h2.2 d hd
  exact mem f1 d hd2
end
/-! ### statements, one by one -/
abbrev nxD (D : Ends) (u : L2.TS) : Ends := { D with nx := u D }
section
variable {te tf : TE} {ta : TA} {t u e : L2.TS} {c : TT} {D : Ends} {σ : L2.St} {H : Hp} {i : Nat} {g : TG} {wi : TI}
theorem sq_asg (h : te σ H fun v H1 => u D (σ.set i (some v)) H1) : tSeq (tAsg te (gName i)) u D σ H := h
theorem sq_drop (h : te σ H fun _ H1 => u D σ H1) : tSeq (tDrop te) u D σ H := h
theorem one_drop (h : te σ H fun _ H1 => D.nx σ H1) : tDrop te D σ H := h
theorem one_asg (h : te σ H fun v H1 => D.nx (σ.set i (some v)) H1) : tAsg te (gName i) D σ H := h
theorem one_ret (h : te σ H D.rt) : tRet te D σ H := h
theorem sq_if (h : c σ H fun b H1 => if b = true then t { D with nx := u D } σ H1 else e { D with nx := u D } σ H1) : tSeq (tIfS c t e) u D σ H := h
theorem sq_rng (h : te σ H fun v H1 => ∃ j : Int, [v] = [V.int j] ∧ -(2 ^ 62) ≤ j ∧ j < 2 ^ 62 ∧ ∃ W : Nat → Nat → L2.St → Hp → Prop, (∃ m, W 0 m σ H1) ∧ ∀ i m σ H, W i m σ H →
  ((Itr 0 j.toNat).stop i H ∧ (nxD D u).nx σ H) ∨ ((Itr 0 j.toNat).go i H ∧ ∃ N : L2.St → Hp → Prop, (∀ σ' H', N σ' H' → ∃ m', m' < m ∧ W (i + 1) m' σ' H') ∧ ∀ x H', (Itr 0 j.toNat).yld i H x H' → g x σ H' fun σ2 H2 => t { nxD D u with nx := N, bk := (nxD D u).nx, ct := N } σ2 H2)) : tSeq (tFor (iRng1 (tCons te tNil)) g t) u D σ H := h
end
end Kr
namespace Kr
open PySem PySem.Spec PyProof.Rows L2
theorem szm {n : Nat} (h : n ≤ 100000) : n < sizeLine := Nat.lt_of_le_of_lt h (by decide)
theorem walk_rg {n : Nat} : Walk (Itr 0 n) n (fun _ => True) (fun i H x H' => H' = H ∧ x = .int (i : Nat)) := walk_range.mono (fun _ h => h) fun i H x H' _ _ ⟨a, b⟩ => ⟨a, by rw [b]; show V.int (0 + (i : Int)) = _; rw [Int.zero_add]⟩
/-- a comprehension without tests whose items are new data, one for each turn -/
theorem lc_itF {J : It} {n : Nat} {G : Hp → Prop} {Y : Nat → Hp → V → Hp → Prop} (w : Walk J n G Y) {g : TG} {tt : TT} {te : TE} {vs : List Nat} {σ : L2.St} {H1 : Hp} {D : Addr} {Qd : Hp → Prop} (f : Nat → PyData) (nD : H1 D = none) (hn : n ≤ 100000) (hf : ∀ i, i < n → flatT (f i) = true) (hG : ∀ H, Same H1 H → G H)
    (hs : ∀ i x H H' (C : VK) (Cn : Hp → Prop), i < n → Same H1 H → Y i H x H' → (∀ y H4, Same H H4 → Dq H4 y (f i) → C y H4) → g x (wipe σ vs) H' fun σ2 H2 => wipe σ2 vs = wipe σ vs ∧ tt σ2 H2 fun b H3 => if b = true then te σ2 H3 C else Cn H3)
    (hd : ∀ H acc, Same H1 H → H D = some (.lst acc) → DqA H acc ((List.range n).map f) → Qd H) :
    ∃ W : Nat → Nat → Hp → Prop, (∃ m, W 0 m (upd H1 D (.lst []))) ∧ ∀ i m H, W i m H →
      (J.stop i H ∧ Qd H) ∨ (J.go i H ∧ ∃ Nx : Hp → Prop, (∀ H', Nx H' → ∃ m', m' < m ∧ W (i + 1) m' H') ∧ ∀ x H', J.yld i H x H' → g x (wipe σ vs) H' fun σ2 H2 => wipe σ2 vs = wipe σ vs ∧ tt σ2 H2 fun b H3 =>
        if b = true then te σ2 H3 fun y H4 => ∃ acc, H4 D = some (.lst acc) ∧ acc.length < sizeLine ∧ Nx (upd H4 D (.lst (acc ++ [y]))) else Nx H3) := by
  refine lc_it w (fun i H => ∃ acc, H D = some (.lst acc) ∧ Same H1 H ∧ DqA H acc ((List.range i).map f)) ⟨[], upd_same, fun b o e => by rw [upd_ne (ne_of_none e nD)]; exact e, .nil⟩ (fun i H _ ⟨_, _, s, _⟩ => hG H s) (fun i x H H' hi ⟨acc, hD, s, q⟩ y => ?_) fun H ⟨acc, hD, s, q⟩ => hd H acc s hD q
  refine hs i x H H' _ _ hi s y fun z H4 s4 d4 => ⟨acc, s4 _ _ hD, szm (by have := q.len; rw [List.length_map, List.length_range] at this; omega), acc ++ [z], upd_same, fun b o e => ?_, ?_⟩
  · rw [upd_ne (ne_of_none e nD)]
    exact s4 _ _ (s _ _ e)
  · have t : TS H4 (upd H4 D (.lst (acc ++ [z]))) := TS.lst (s4 _ _ hD)
    rw [List.range_succ, List.map_append]
    refine dqa_snoc (DqA.upT t ?_ (q.up s4)) (Dq.upT t (hf i hi) d4)
    exact flatTA_of fun d hd => by
      obtain ⟨j, hj, rfl⟩ := List.mem_map.mp hd
      exact hf j (by have := List.mem_range.mp hj; omega)
end Kr
namespace Kr
open PySem PySem.Spec PyProof.Rows L2
/-- the inner walk of a comprehension with two -/
def Inner (D : Addr) (J1 : It) (g1 : TG) (tt1 : TT) (te : TE) (vs1 : List Nat) (σ2 : L2.St) (H4 : Hp) (Nx : Hp → Prop) : Prop :=
  ∃ W1 : Nat → Nat → Hp → Prop, (∃ m, W1 0 m H4) ∧ ∀ j k H, W1 j k H →
      (J1.stop j H ∧ Nx H) ∨ (J1.go j H ∧ ∃ Nx1 : Hp → Prop, (∀ H', Nx1 H' → ∃ k', k' < k ∧ W1 (j + 1) k' H') ∧ ∀ x H', J1.yld j H x H' → g1 x (wipe σ2 vs1) H' fun σ3 H5 => wipe σ3 vs1 = wipe σ2 vs1 ∧ tt1 σ3 H5 fun b H6 =>
        if b = true then te σ3 H6 fun y H7 => ∃ acc, H7 D = some (.lst acc) ∧ acc.length < sizeLine ∧ Nx1 (upd H7 D (.lst (acc ++ [y]))) else Nx1 H6)
theorem inner_it {J1 : It} {n1 : Nat} {G1 : Hp → Prop} {Y1 : Nat → Hp → V → Hp → Prop} (w : Walk J1 n1 G1 Y1) {D : Addr} {g1 : TG} {tt1 : TT} {te : TE} {vs1 : List Nat} {σ2 : L2.St} {H4 : Hp} {Nx : Hp → Prop} (Pv : Nat → Hp → Prop) (h0 : Pv 0 H4) (hG : ∀ j H, j ≤ n1 → Pv j H → G1 H)
    (hs : ∀ j x H H', j < n1 → Pv j H → Y1 j H x H' → g1 x (wipe σ2 vs1) H' fun σ3 H5 => wipe σ3 vs1 = wipe σ2 vs1 ∧ tt1 σ3 H5 fun b H6 => if b = true then te σ3 H6 fun y H7 => ∃ acc, H7 D = some (.lst acc) ∧ acc.length < sizeLine ∧ Pv (j + 1) (upd H7 D (.lst (acc ++ [y]))) else Pv (j + 1) H6)
    (hd : ∀ H, Pv n1 H → Nx H) : Inner D J1 g1 tt1 te vs1 σ2 H4 Nx := by
  refine ⟨fun j k H => k = n1 - j ∧ j ≤ n1 ∧ Pv j H, ⟨n1, by simp, Nat.zero_le _, h0⟩, ?_⟩
  rintro j k H ⟨rfl, hj, p⟩
  have q := hG j H hj p
  by_cases hlt : j < n1
  · exact .inr ⟨w.goes j H hlt q, Pv (j + 1), fun H' p' => ⟨n1 - (j + 1), by omega, rfl, hlt, p'⟩, fun x H' y => hs j x H H' hlt p (w.yields j H x H' hlt q y)⟩
  · obtain rfl : j = n1 := by omega
    exact .inl ⟨w.stops H q, hd H p⟩
theorem lc2_it {J : It} {n : Nat} {G : Hp → Prop} {Y : Nat → Hp → V → Hp → Prop} (w : Walk J n G Y) {D : Addr} {g g1 : TG} {tt tt1 : TT} {wi1 : TI} {te : TE} {vs vs1 : List Nat} {σ : L2.St} {H1 : Hp} {Qd : Hp → Prop} (Pv : Nat → Hp → Prop) (h0 : Pv 0 (upd H1 D (.lst []))) (hG : ∀ i H, i ≤ n → Pv i H → G H)
    (hs : ∀ i x H H', i < n → Pv i H → Y i H x H' → g x (wipe σ vs) H' fun σ2 H2 => wipe σ2 vs = wipe σ vs ∧ tt σ2 H2 fun b H3 => if b = true then wi1 σ2 H3 fun J1 H4 => Inner D J1 g1 tt1 te vs1 σ2 H4 (Pv (i + 1)) else Pv (i + 1) H3) (hd : ∀ H, Pv n H → Qd H) :
    ∃ W : Nat → Nat → Hp → Prop, (∃ m, W 0 m (upd H1 D (.lst []))) ∧ ∀ i m H, W i m H →
      (J.stop i H ∧ Qd H) ∨ (J.go i H ∧ ∃ Nx : Hp → Prop, (∀ H', Nx H' → ∃ m', m' < m ∧ W (i + 1) m' H') ∧ ∀ x H', J.yld i H x H' → g x (wipe σ vs) H' fun σ2 H2 => wipe σ2 vs = wipe σ vs ∧ tt σ2 H2 fun b H3 =>
        if b = true then wi1 σ2 H3 fun J1 H4 => Inner D J1 g1 tt1 te vs1 σ2 H4 Nx else Nx H3) := by
  refine ⟨fun i m H => m = n - i ∧ i ≤ n ∧ Pv i H, ⟨n, by simp, Nat.zero_le _, h0⟩, ?_⟩
  rintro i m H ⟨rfl, hi, p⟩
  have q := hG i H hi p
  by_cases hlt : i < n
  · exact .inr ⟨w.goes i H hlt q, Pv (i + 1), fun H' p' => ⟨n - (i + 1), by omega, rfl, hlt, p'⟩, fun x H' y => hs i x H H' hlt p (w.yields i H x H' hlt q y)⟩
  · obtain rfl : i = n := by omega
    exact .inl ⟨w.stops H q, hd H p⟩
/-- data of a list of lists of numbers -/
def lotD (l : List Nat) : PyData := .tuple (l.map fun (x : Nat) => .int (x : Int))
def lv (l : List Nat) : List V := l.map fun (x : Nat) => V.int (x : Int)
theorem lv_dq {H : Hp} (l : List Nat) : DqA H (lv l) (l.map fun (x : Nat) => PyData.int (x : Int)) := by
  induction l with
  | nil => exact .nil
  | cons x l ih => exact .cons (.int _) ih
theorem lot_at {H : Hp} {a : Addr} {l : List Nat} (h : H a = some (.tup (lv l))) : Dq H (.ref a) (lotD l) := .tup h (lv_dq l)
theorem lot_inv {H : Hp} {v : V} {l : List Nat} (h : Dq H v (lotD l)) : ∃ a, v = .ref a ∧ H a = some (.tup (lv l)) := by
  obtain ⟨a, xs, rfl, e, q⟩ := Dq.tup_inv h
  have : ∀ (xs : List V) (l : List Nat), DqA H xs (l.map fun (x : Nat) => PyData.int (x : Int)) → xs = lv l := by
    intro xs l
    induction l generalizing xs with
    | nil => intro q; cases q; rfl
    | cons x l ih =>
      intro q
      cases q with
      | cons h1 h2 =>
        cases h1
        rw [ih _ h2]
        rfl
  rw [this xs l q] at e
  exact ⟨a, rfl, e⟩
theorem lot_flat (l : List Nat) : flatT (lotD l) = true := by
  simp only [lotD, flatT]
  exact flatTA_of fun d hd => by
    obtain ⟨x, _, rfl⟩ := List.mem_map.mp hd
    rfl
theorem lots_flat (L : List (List Nat)) : flatTA (L.map lotD) = true := flatTA_of fun d hd => by
  obtain ⟨l, _, rfl⟩ := List.mem_map.mp hd
  exact lot_flat l
theorem lots_get {H : Hp} {xs : List V} {L : List (List Nat)} {i : Nat} {y : V} (q : DqA H xs (L.map lotD)) (e : xs[i]? = some y) : ∃ l, L[i]? = some l ∧ ∃ a, y = .ref a ∧ H a = some (.tup (lv l)) := by
  obtain ⟨d, h1, h2⟩ := q.get e
  rw [List.getElem?_map] at h1
  cases hr : L[i]? with
  | none => rw [hr] at h1; cases h1
  | some l =>
    rw [hr] at h1
    cases Option.some.inj h1
    exact ⟨l, rfl, lot_inv h2⟩
end Kr
namespace Kr
/-! ### how many ways -/
def ch : Nat → Nat → Nat
  | _, 0 => 1
  | 0, _ + 1 => 0
  | n + 1, k + 1 => ch n k + ch n (k + 1)
theorem ch_tab : ∀ n : Nat, n < 26 → ∀ k : Nat, k < 27 → PySem.W.mcComb (n : Int) (k : Int) = (ch n k : Int) := by decide +kernel
theorem ch_zero : ∀ n k : Nat, n < k → ch n k = 0
  | 0, 0, h => absurd h (Nat.lt_irrefl _)
  | 0, k + 1, _ => by simp [ch]
  | n + 1, 0, h => by omega
  | n + 1, k + 1, h => by
    rw [ch, ch_zero n k (by omega), ch_zero n (k + 1) (by omega)]
theorem ch_self : ∀ n : Nat, ch n n = 1
  | 0 => by simp [ch]
  | n + 1 => by rw [ch, ch_self n, ch_zero n (n + 1) (by omega)]
theorem ch_pos : ∀ n k : Nat, k ≤ n → 0 < ch n k
  | n, 0, _ => by cases n <;> simp [ch]
  | 0, k + 1, h => by omega
  | n + 1, k + 1, h => by
    rw [ch]
    have := ch_pos n k (by omega)
    omega
/-- those of fewer places -/
def below (n s : Nat) : Nat := ((List.range s).map fun k => ch n k).sum
theorem below_succ (n s : Nat) : below n (s + 1) = below n s + ch n s := by
  unfold below
  rw [List.range_succ, List.map_append, List.sum_append]
  simp
theorem below_all (n : Nat) (hn : n < 26) : below n (n + 1) = 2 ^ n := by
  have : ∀ n : Nat, n < 26 → below n (n + 1) = 2 ^ n := by decide +kernel
  exact this n hn
theorem below_le {n s t : Nat} (h : s ≤ t) : below n s ≤ below n t := by
  induction t with
  | zero => rw [show s = 0 by omega]; exact Nat.le_refl _
  | succ t ih =>
    by_cases hs : s = t + 1
    · rw [hs]; exact Nat.le_refl _
    · rw [below_succ]
      have := ih (by omega)
      omega
/-! ### lots in their order -/
/-- the lot among those of k places from p on, m places being left -/
def un : Nat → Nat → Nat → Nat → List Nat
  | _, 0, _, _ => []
  | _, _ + 1, 0, _ => []
  | p, m + 1, k + 1, a => if a < ch m k then p :: un (p + 1) m k a else un (p + 1) m (k + 1) (a - ch m k)
/-- how many stand ahead -/
def rk : Nat → Nat → List Nat → Nat
  | _, _, [] => 0
  | _, 0, _ :: _ => 0
  | p, m + 1, x :: xs => if x = p then rk (p + 1) m xs else ch m xs.length + rk (p + 1) m (x :: xs)
/-- an ascending list of numbers from p to p + m - 1 -/
def Asc (p m : Nat) (l : List Nat) : Prop := l.Pairwise (· < ·) ∧ ∀ x ∈ l, p ≤ x ∧ x < p + m
theorem Asc.len : ∀ {p m : Nat} {l : List Nat}, Asc p m l → l.length ≤ m
  | _, _, [], _ => Nat.zero_le _
  | p, 0, x :: l, h => by
    have := h.2 x List.mem_cons_self
    omega
  | p, m + 1, x :: l, h => by
    obtain ⟨h1, h2⟩ := List.pairwise_cons.mp h.1
    have hx := h.2 x List.mem_cons_self
    have : Asc (p + 1) m l := ⟨h2, fun y hy => by
      have := h1 y hy
      have := h.2 y (List.mem_cons_of_mem _ hy)
      omega⟩
    have := this.len
    rw [List.length_cons]
    omega
theorem Asc.tail {p m x : Nat} {l : List Nat} (h : Asc p (m + 1) (x :: l)) (hx : x = p) : Asc (p + 1) m l := by
  obtain ⟨h1, h2⟩ := List.pairwise_cons.mp h.1
  refine ⟨h2, fun y hy => ?_⟩
  have := h1 y hy
  have := h.2 y (List.mem_cons_of_mem _ hy)
  omega
theorem Asc.skip {p m x : Nat} {l : List Nat} (h : Asc p (m + 1) (x :: l)) (hx : ¬ x = p) : Asc (p + 1) m (x :: l) := by
  refine ⟨h.1, fun y hy => ?_⟩
  obtain ⟨h1, _⟩ := List.pairwise_cons.mp h.1
  have hx0 := h.2 x List.mem_cons_self
  have hy0 := h.2 y hy
  rcases List.mem_cons.mp hy with e | hm
  · omega
  · have := h1 y hm
    omega
theorem rk_un : ∀ (m p : Nat) (l : List Nat), Asc p m l → un p m l.length (rk p m l) = l ∧ rk p m l < ch m l.length
  | 0, p, l, h => by
    have := h.len
    have : l = [] := List.length_eq_zero_iff.mp (by omega)
    subst this
    exact ⟨rfl, by simp [rk, ch]⟩
  | m + 1, p, [], _ => ⟨rfl, by simp [rk, ch]⟩
  | m + 1, p, x :: l, h => by
    simp only [List.length_cons, un, rk, ch]
    by_cases hx : x = p
    · obtain ⟨h1, h2⟩ := rk_un m (p + 1) l (h.tail hx)
      rw [if_pos hx, if_pos h2, h1, hx]
      exact ⟨rfl, by omega⟩
    · obtain ⟨h1, h2⟩ := rk_un m (p + 1) (x :: l) (h.skip hx)
      rw [if_neg hx, if_neg (by omega), Nat.add_sub_cancel_left]
      rw [List.length_cons] at h1 h2
      exact ⟨h1, by omega⟩
theorem un_rk : ∀ (m p k a : Nat), a < ch m k → Asc p m (un p m k a) ∧ (un p m k a).length = k ∧ rk p m (un p m k a) = a
  | 0, p, 0, a, h => ⟨⟨.nil, fun x hx => nomatch hx⟩, rfl, by simp [ch] at h; simp [un, rk, h]⟩
  | 0, p, k + 1, a, h => by simp [ch] at h
  | m + 1, p, 0, a, h => ⟨⟨.nil, fun x hx => nomatch hx⟩, rfl, by simp [ch] at h; simp [un, rk, h]⟩
  | m + 1, p, k + 1, a, h => by
    simp only [un]
    by_cases ha : a < ch m k
    · obtain ⟨⟨h1, h2⟩, h3, h4⟩ := un_rk m (p + 1) k a ha
      rw [if_pos ha]
      refine ⟨⟨List.pairwise_cons.mpr ⟨fun y hy => by have := h2 y hy; omega, h1⟩, fun y hy => ?_⟩, by rw [List.length_cons, h3], by simp [rk, h4]⟩
      rcases List.mem_cons.mp hy with e | hm
      · omega
      · have := h2 y hm
        omega
    · rw [ch] at h
      obtain ⟨⟨h1, h2⟩, h3, h4⟩ := un_rk m (p + 1) (k + 1) (a - ch m k) (by omega)
      rw [if_neg ha]
      refine ⟨⟨h1, fun y hy => by have := h2 y hy; omega⟩, h3, ?_⟩
      cases e : un (p + 1) m (k + 1) (a - ch m k) with
      | nil => rw [e] at h3; cases h3
      | cons x l =>
        rw [e] at h2 h3 h4
        have hx := h2 x List.mem_cons_self
        simp only [rk]
        rw [if_neg (by omega), h4, show l.length = k by simpa using h3]
        omega
/-! ### the number of a lot -/
def num (n : Nat) (l : List Nat) : Nat := below n l.length + rk 0 n l
/-- the size of the lot with a number, and what is left -/
def sizeAt (n : Nat) : Nat → Nat → Nat → Option (Nat × Nat)
  | 0, _, _ => none
  | f + 1, s, a => if a < ch n s then some (s, a) else sizeAt n f (s + 1) (a - ch n s)
def lotAt (n a : Nat) : Option (List Nat) := (sizeAt n (n + 1) 0 a).map fun (s, r) => un 0 n s r
theorem sizeAt_ok (n : Nat) : ∀ (f s a t r : Nat), t < s + f → s ≤ t → below n s + a = below n t + r → r < ch n t → sizeAt n f s a = some (t, r)
  | 0, s, a, t, r, h, h1, _, _ => by omega
  | f + 1, s, a, t, r, h, h1, h2, h3 => by
    simp only [sizeAt]
    by_cases hs : s = t
    · subst hs
      rw [if_pos (by omega)]
      have : a = r := by omega
      rw [this]
    · have h4 := below_le (n := n) (show s + 1 ≤ t by omega)
      rw [below_succ] at h4
      rw [if_neg (by omega)]
      exact sizeAt_ok n f (s + 1) (a - ch n s) t r (by omega) (by omega) (by rw [below_succ]; omega) h3
theorem sizeAt_ex (n : Nat) : ∀ (f s a : Nat), below n s + a < below n (s + f) → ∃ t r, sizeAt n f s a = some (t, r) ∧ s ≤ t ∧ t < s + f ∧ below n s + a = below n t + r ∧ r < ch n t
  | 0, s, a, h => by
    rw [Nat.add_zero] at h
    omega
  | f + 1, s, a, h => by
    simp only [sizeAt]
    by_cases ha : a < ch n s
    · rw [if_pos ha]
      exact ⟨s, a, rfl, Nat.le_refl _, by omega, rfl, ha⟩
    · rw [if_neg ha]
      obtain ⟨t, r, h1, h2, h3, h4, h5⟩ := sizeAt_ex n f (s + 1) (a - ch n s) (by rw [below_succ, show s + 1 + f = s + (f + 1) by omega]; omega)
      rw [below_succ] at h4
      exact ⟨t, r, h1, by omega, by omega, by omega, h5⟩
theorem sizeAt_none (n : Nat) : ∀ (f s a : Nat), below n (s + f) ≤ below n s + a → sizeAt n f s a = none
  | 0, s, a, _ => rfl
  | f + 1, s, a, h => by
    have h4 := below_le (n := n) (show s + 1 ≤ s + (f + 1) by omega)
    rw [below_succ] at h4
    simp only [sizeAt]
    rw [if_neg (by omega)]
    exact sizeAt_none n f (s + 1) (a - ch n s) (by rw [below_succ, show s + 1 + f = s + (f + 1) by omega]; omega)
theorem lotAt_num {n : Nat} {l : List Nat} (h : Asc 0 n l) : lotAt n (num n l) = some l := by
  obtain ⟨h1, h2⟩ := rk_un n 0 l h
  have hl := h.len
  unfold lotAt
  rw [sizeAt_ok n (n + 1) 0 (num n l) l.length (rk 0 n l) (by omega) (by omega) (by show 0 + _ = _; rw [Nat.zero_add]; rfl) h2]
  simp only [Option.map_some]
  rw [h1]
theorem lotAt_some {n a : Nat} (hn : n < 26) (ha : a < 2 ^ n) : ∃ l, lotAt n a = some l ∧ Asc 0 n l ∧ num n l = a := by
  obtain ⟨t, r, h1, h2, h3, h4, h5⟩ := sizeAt_ex n (n + 1) 0 a (by rw [Nat.zero_add, below_all n hn]; show 0 + a < _; omega)
  obtain ⟨g1, g2, g3⟩ := un_rk n 0 t r h5
  refine ⟨un 0 n t r, by unfold lotAt; rw [h1]; rfl, g1, ?_⟩
  unfold num
  rw [g2, g3]
  have : below n 0 = 0 := rfl
  omega
theorem lotAt_none {n a : Nat} (hn : n < 26) (ha : 2 ^ n ≤ a) : lotAt n a = none := by
  unfold lotAt
  rw [sizeAt_none n (n + 1) 0 a (by rw [Nat.zero_add, below_all n hn]; show _ ≤ 0 + a; omega)]
  rfl
/-! ### the same, by spots -/
/-- what lot_number adds for the places from s on -/
def numGo (n : Nat) : Nat → List Nat → Nat
  | _, [] => 0
  | p, x :: xs => ((List.range (x - p)).map fun j => ch (n - 1 - (p + j)) xs.length).sum + numGo n (x + 1) xs
theorem rk_go : ∀ (m p : Nat) (l : List Nat), Asc p m l → rk p m l = numGo (p + m) p l
  | m, p, [], _ => by cases m <;> rfl
  | 0, p, x :: l, h => by
    have := h.2 x List.mem_cons_self
    omega
  | m + 1, p, x :: l, h => by
    simp only [rk]
    by_cases hx : x = p
    · rw [if_pos hx, rk_go m (p + 1) l (h.tail hx)]
      simp only [numGo]
      rw [hx, Nat.sub_self, show p + (m + 1) = p + 1 + m by omega]
      simp
    · have hx0 := h.2 x List.mem_cons_self
      rw [if_neg hx, rk_go m (p + 1) (x :: l) (h.skip hx)]
      simp only [numGo]
      rw [show x - p = (x - (p + 1)) + 1 by omega, List.range_succ_eq_map, List.map_cons, List.map_map, List.sum_cons, show p + (m + 1) = p + 1 + m by omega]
      have e1 : ch (p + 1 + m - 1 - (p + 0)) l.length = ch m l.length := by congr 1; omega
      have e2 : ((fun j => ch (p + 1 + m - 1 - (p + j)) l.length) ∘ Nat.succ) = fun j => ch (p + 1 + m - 1 - (p + 1 + j)) l.length := by
        funext j
        show ch (p + 1 + m - 1 - (p + (j + 1))) l.length = _
        congr 1
        omega
      rw [e1, e2]
      omega
theorem num_go {n : Nat} {l : List Nat} (h : Asc 0 n l) : num n l = below n l.length + numGo n 0 l := by
  unfold num
  rw [rk_go n 0 l h, Nat.zero_add]
/-! ### all lots of a size -/
def nx (l : List Nat) : Nat := match l.getLast? with
  | some x => x + 1
  | none => 0
def stepL (n : Nat) (L : List (List Nat)) : List (List Nat) := L.flatMap fun l => (List.range' (nx l) (n - nx l)).map fun x => l ++ [x]
def lotsL (n : Nat) : Nat → List (List Nat)
  | 0 => [[]]
  | s + 1 => stepL n (lotsL n s)
/-- the law's own: lots that can't be filled up are left out -/
def lawStep (n s t : Nat) (L : List (List Nat)) : List (List Nat) := L.flatMap fun l => (List.range' (nx l) (n - s + t + 1 - nx l)).map fun x => l ++ [x]
def lawL (n s : Nat) : Nat → List (List Nat)
  | 0 => [[]]
  | t + 1 => lawStep n s t (lawL n s t)
def allL (n : Nat) : List (List Nat) := (List.range (n + 1)).flatMap fun s => lotsL n s
theorem lots_law : ∀ n : Nat, n < 13 → ∀ s : Nat, s < n + 1 → lawL n s s = lotsL n s := by decide +kernel
theorem lots_len : ∀ n : Nat, n < 13 → ∀ s : Nat, s < 13 → (lotsL n s).length = ch n s := by decide +kernel
theorem lots_nums : ∀ n : Nat, n < 7 → (allL n).map (num n) = List.range (2 ^ n) := by decide +kernel
end Kr
namespace Kr
open PySem PySem.Spec PyProof.Rows L2
theorem ch_small : ∀ n : Nat, n < 13 → ∀ s : Nat, s < 14 → ch n s < 1000 := by decide +kernel
theorem range1_succ (s j : Nat) : List.range' s (j + 1) = List.range' s j ++ [s + j] := by
  rw [List.range'_concat]
  simp
theorem flat_take {α β : Type} {L : List α} {f : α → List β} {i : Nat} {x : α} (h : L[i]? = some x) : (L.take (i + 1)).flatMap f = (L.take i).flatMap f ++ f x := by
  rw [List.take_add_one, h, List.flatMap_append]
  simp
theorem flat_le {α β : Type} (L : List α) (f : α → List β) (i : Nat) : ((L.take i).flatMap f).length ≤ (L.flatMap f).length := by
  conv => rhs; rw [← List.take_append_drop i L]
  rw [List.flatMap_append, List.length_append]
  omega
def exts (n : Nat) (l : List Nat) : List (List Nat) := (List.range' (nx l) (n - nx l)).map fun x => l ++ [x]
theorem step_exts (n : Nat) (L : List (List Nat)) : stepL n L = L.flatMap (exts n) := rfl
theorem nx_nil : nx [] = 0 := rfl
theorem nx_snoc (l : List Nat) (x : Nat) : nx (l ++ [x]) = x + 1 := by simp [nx]
theorem lv_snoc (l : List Nat) (x : Nat) : lv (l ++ [x]) = lv l ++ [V.int (x : Int)] := by simp [lv]
theorem lv_len (l : List Nat) : (lv l).length = l.length := by simp [lv]
theorem lots_in (n : Nat) : ∀ s, ∀ l ∈ lotsL n s, l.length = s ∧ ∀ x ∈ l, x < n
  | 0, l, h => by
    rw [List.mem_singleton.mp h]
    exact ⟨rfl, fun x hx => nomatch hx⟩
  | s + 1, l, h => by
    obtain ⟨k, hk, hl⟩ := List.mem_flatMap.mp h
    obtain ⟨x, hx, rfl⟩ := List.mem_map.mp hl
    obtain ⟨h1, h2⟩ := lots_in n s k hk
    have := List.mem_range'_1.mp hx
    refine ⟨by rw [List.length_append, h1]; rfl, fun y hy => ?_⟩
    rcases List.mem_append.mp hy with hy | hy
    · exact h2 y hy
    · rw [List.mem_singleton.mp hy]; omega
abbrev tNextL (K : PySem.W.Frag) (i : Nat) : TE := tIf (fun σ H Q => tVar i σ H fun x H' => ∃ k, TruV K x H' k ∧ Q k H') (tOp (rI0 fun i j => .int (i + j)) (tOp (rIxT K) (tVar i) (tUn (rU fun i => .int (-i)) (tC (.int 1)))) (tC (.int 1))) (tC (.int 0))
/-- what stands ahead of the extensions of a lot: lot[-1] + 1 if lot else 0 -/
theorem next_val {K : PySem.W.Frag} {σ : L2.St} {i : Nat} {a : Addr} {l : List Nat} {H : Hp} {Q : VK} (hv : σ[i]? = some (some (.ref a))) (ha : H a = some (.tup (lv l))) (q : Q (.int (nx l : Nat)) H) :
    tNextL K i σ H Q := by
  refine ⟨.ref a, hv, _, .inr (.inl ⟨_, SqT.of ha, rfl⟩), ?_⟩
  by_cases hl : l = []
  · subst hl
    exact iteF q
  · obtain ⟨k, x, rfl⟩ : ∃ k x, l = k ++ [x] := ⟨l.dropLast, l.getLast hl, (List.dropLast_concat_getLast hl).symm⟩
    rw [nx_snoc] at q
    have e : (!(lv (k ++ [x])).isEmpty) = true := by simp [lv]
    rw [e]
    refine iteT ⟨.ref a, hv, 1, rfl, a, _, -1, .int (x : Int), rfl, rfl, SqT.of ha, by rw [lv_snoc]; exact atI_last _ _, x, 1, rfl, rfl, ?_⟩
    have e2 : ((x : Int) + 1) = ((x + 1 : Nat) : Int) := by omega
    dsimp only
    rw [e2]
    exact q
def spLots : Sp := fun vs H Q _ => ∃ n s : Nat, vs = [.int (n : Int), .int (s : Int)] ∧ n ≤ 12 ∧ s ≤ 12 ∧ ∀ H' v, Same H H' → Dq H' v (.tuple ((lotsL n s).map lotD)) → Q v H'
end Kr
namespace Kr
open PySem PySem.Spec PyProof.Rows L2
def entD (e : List Int) : PyData := .tuple (e.map .int)
def tabD (T : List (List Int)) : PyData := .tuple (T.map entD)
/-- the entry of a lot l where the riders' ways are ws -/
def byE (l : List Nat) (ws : List Int) : List Int := (List.range ws.length).map fun x => if x ∈ l then -1 else ws.getD x 0
def ups (n : Nat) : List Int := (List.range n).map fun k => ((k : Nat) : Int)
def stillT (n : Nat) : List (List Int) := (allL n).map fun l => byE l (ups n)
def swapW (n a b : Nat) : List Int := ((ups n).set a (b : Int)).set b (a : Int)
def deedT (n : Nat) (q : List Nat) (a b : Nat) : List (List Int) := (allL n).map fun l => byE l (if q.all (fun x => decide (x ∈ l)) = true then swapW n a b else ups n)
theorem ent_flat (e : List Int) : flatT (entD e) = true := by
  simp only [entD, flatT]
  exact flatTA_of fun d hd => by
    obtain ⟨x, _, rfl⟩ := List.mem_map.mp hd
    rfl
theorem ents_flat (T : List (List Int)) : flatTA (T.map entD) = true := flatTA_of fun d hd => by
  obtain ⟨l, _, rfl⟩ := List.mem_map.mp hd
  exact ent_flat l
theorem ent_at {H : Hp} {a : Addr} {e : List Int} (h : H a = some (.tup (e.map V.int))) : Dq H (.ref a) (entD e) := .tup h (DqA.ints e)
theorem dqa_int {H : Hp} : ∀ {xs : List V} {ns : List Int}, DqA H xs (ns.map .int) → xs = ns.map V.int
  | _, [], .nil => rfl
  | _, n :: ns, .cons (.int _) t => by rw [dqa_int t]; rfl
theorem inV_lot (x : Nat) (l : List Nat) : inV (.int (x : Int)) (lv l) = decide (x ∈ l) := by
  unfold inV lv
  rw [Bool.eq_iff_iff, List.any_eq_true, decide_eq_true_iff]
  constructor
  · rintro ⟨v, hv, e⟩
    obtain ⟨y, hy, rfl⟩ := List.mem_map.mp hv
    have : (y : Int) = (x : Int) := by simpa [eqV] using e
    have : y = x := by omega
    rw [← this]
    exact hy
  · intro h
    exact ⟨_, List.mem_map.mpr ⟨x, h, rfl⟩, by simp [eqV]⟩
theorem lv_fl (l : List Nat) : (lv l).all flatV = true := by
  unfold lv
  rw [List.all_map]
  exact List.all_eq_true.mpr fun _ _ => rfl
/-- a statement that no run reaches -/
theorem ps_never {X : Cx} {st : Stmt} : PS X st (fun _ _ _ => False) := ⟨fun _ _ _ _ _ _ h => False.elim h⟩
def spAll6 : Sp := fun vs H Q _ => ∃ n : Nat, vs = [.int (n : Int)] ∧ n ≤ 6 ∧ ∀ H' v, Same H H' → Dq H' v (.tuple ((allL n).map lotD)) → Q v H'
def spEntBy : Sp := fun vs H Q _ => ∃ (a b : Addr) (l : List Nat) (ws : List Int), vs = [.ref a, .ref b] ∧ H a = some (.tup (lv l)) ∧ H b = some (.lst (ws.map V.int)) ∧ ws.length ≤ 100 ∧ ∀ H' t, Same H H' → H' t = some (.tup ((byE l ws).map V.int)) → Q (.ref t) H'
def spStill : Sp := fun vs H Q _ => ∃ n : Nat, vs = [.int (n : Int)] ∧ n ≤ 6 ∧ ∀ H' v, Same H H' → Dq H' v (tabD (stillT n)) → Q v H'
theorem rg_ups (n : Nat) : rgV 0 (n : Nat) = (ups n).map V.int := by
  unfold rgV ups
  rw [List.map_map, show ((n : Int) - 0).toNat = n by omega]
  exact List.map_congr_left fun i _ => by simp
theorem all_few : ∀ n : Nat, n < 7 → (allL n).length ≤ 64 := by decide +kernel
theorem all_len : ∀ n : Nat, n < 7 → (allL n).length = 2 ^ n := by decide +kernel
theorem map_getD {α β : Type} (g : α → β) (d : α) (L : List α) : (List.range L.length).map (fun i => g (L.getD i d)) = L.map g := by
  refine List.ext_getElem? fun i => ?_
  rw [List.getElem?_map, List.getElem?_map]
  by_cases h : i < L.length
  · rw [List.getElem?_range h, List.getElem?_eq_getElem h]
    show some (g (L.getD i d)) = some (g L[i])
    rw [List.getD_eq_getElem?_getD, List.getElem?_eq_getElem h]
    rfl
  · rw [List.getElem?_eq_none (by rw [List.length_range]; omega), List.getElem?_eq_none (by omega)]
    rfl
theorem getD_of {α : Type} {L : List α} {i : Nat} {x d : α} (h : L[i]? = some x) : L.getD i d = x := by
  rw [List.getD_eq_getElem?_getD, h]
  rfl
section
variable {P : Program} {w : World} {K : PySem.W.Frag} {mg : Str → Option Value} {base : Heap}
def spWays : Sp := fun vs H Q _ => ∃ (n : Nat) (b : Addr) (ws : List Int), vs = [.int (n : Int), .ref b] ∧ n ≤ 6 ∧ H b = some (.lst (ws.map V.int)) ∧ ws.length ≤ 100 ∧ ∀ H' v, Same H H' → Dq H' v (tabD ((allL n).map fun l => byE l ws)) → Q v H'
end
def spDeedT : Sp := fun vs H Q _ => ∃ (n : Nat) (d q : Addr) (as : List Nat) (a b : Nat), vs = [.int (n : Int), .ref d] ∧ n ≤ 6 ∧ H d = some (.tup [.ref q, .int (a : Int), .int (b : Int)]) ∧ H q = some (.tup (lv as)) ∧ as.length ≤ 24 ∧ a < n ∧ b < n ∧
  ∀ H' v, Same H H' → Dq H' v (tabD (deedT n as a b)) → Q v H'
def spExch : Sp := fun vs H Q _ => ∃ (n : Int) (a : Addr) (xs : List V) (v : V), vs = [.int n, .ref a] ∧ H a = some (.tup (v :: xs)) ∧ Q v H
theorem dqa_bools {H : Hp} : ∀ {xs : List V} {bs : List Bool}, DqA H xs (bs.map .bool) → xs = bs.map V.bl
  | _, [], .nil => rfl
  | _, n :: ns, .cons (.bl _) t => by rw [dqa_bools t]; rfl
theorem ixN_nat {n i : Nat} (h : i < n) : ixN n (i : Int) = some i := by
  unfold ixN
  rw [if_pos (by omega), if_pos (by omega), Int.toNat_natCast]
theorem take_snoc {α β : Type} {L : List α} {f : α → β} {i : Nat} {x : α} (h : L[i]? = some x) : (L.take (i + 1)).map f = (L.take i).map f ++ [f x] := by
  rw [List.take_add_one, h, List.map_append]
  rfl
def goalE (n : Nat) (e : List Int) : List Nat := (List.range n).filter fun x => !decide ((x : Int) ∈ e)
theorem every_few : ∀ n : Nat, n < 7 → ∀ i : Nat, i < 8 → ((List.range i).flatMap (lotsL n)).length ≤ 64 := by decide +kernel
def spGoal : Sp := fun vs H Q _ => ∃ (n : Nat) (a : Addr) (e : List Int), vs = [.int (n : Int), .ref a] ∧ n ≤ 100 ∧ H a = some (.tup (e.map V.int)) ∧ ∀ H' t, Same H H' → H' t = some (.tup (lv (goalE n e))) → Q (.ref t) H'
def spEvery : Sp := fun vs H Q _ => ∃ n : Nat, vs = [.int (n : Int)] ∧ n ≤ 6 ∧ ∀ H' v, Same H H' → Dq H' v (.list ((allL n).map lotD)) → Q v H'
theorem inV_int (x : Int) (l : List Int) : inV (.int x) (l.map V.int) = decide (x ∈ l) := by
  unfold inV
  rw [Bool.eq_iff_iff, List.any_eq_true, decide_eq_true_iff]
  constructor
  · rintro ⟨v, hv, e⟩
    obtain ⟨y, hy, rfl⟩ := List.mem_map.mp hv
    have : y = x := by simpa [eqV] using e
    rw [← this]
    exact hy
  · intro h
    exact ⟨_, List.mem_map.mpr ⟨x, h, rfl⟩, by simp [eqV]⟩
theorem int_fl (l : List Int) : (l.map V.int).all flatV = true := by
  rw [List.all_map]
  exact List.all_eq_true.mpr fun _ _ => rfl
theorem dep_ints1 : ∀ ds : List Int, PyData.depthAll (ds.map PyData.int) ≤ 1
  | [] => by simp [PyData.depthAll]
  | d :: ds => by
    have := dep_ints1 ds
    simp [PyData.depthAll, PyData.depth]
    omega
theorem lay_ints1 : ∀ ds : List Int, PyData.canLayAll0 (ds.map PyData.int) = true
  | [] => by simp [PyData.canLayAll0]
  | d :: ds => by simp [PyData.canLayAll0, PyData.canLay0, lay_ints1 ds]
theorem tup_shaped (ds : List Int) : SeqAt.shaped (.tuple (ds.map PyData.int)) = true := by
  unfold SeqAt.shaped
  have := dep_ints1 ds
  simp [PyData.canLay0, lay_ints1, PyData.depth]
  omega
theorem lot_shaped (l : List Nat) : SeqAt.shaped (lotD l) = true := by
  have e : l.map (fun (x : Nat) => PyData.int (x : Int)) = (l.map fun (x : Nat) => (x : Int)).map PyData.int := by rw [List.map_map]; rfl
  unfold lotD
  rw [e]
  exact tup_shaped _
theorem lot_nil_eqv (l : List Nat) : PyData.eqv (lotD l) (lotD []) = decide (l = []) := by
  cases l <;> simp [lotD, PyData.eqv, PyData.eqvAll]
section
variable {P : Program} {w : World} {K : PySem.W.Frag} {mg : Str → Option Value} {base : Heap}
/-- lot[-1] + 1 if lot != () else 0 -/
theorem next_ne {σ : L2.St} {i : Nat} {a : Addr} {l : List Nat} {G : Hp} {Q : VK} (hv : σ[i]? = some (some (.ref a))) (ha : G a = some (.tup (lv l))) (q : ∀ G', Same G G' → Q (.int (nx l : Nat)) G') :
    tIf (tTest (tOp (rNeD K) (tVar i) (tTup tNil))) (tOp (rI0 fun i j => .int (i + j)) (tOp (rIxT K) (tVar i) (tUn (rU fun i => .int (-i)) (tC (.int 1)))) (tC (.int 1))) (tC (.int 0)) σ G Q := by
  refine ⟨.ref a, hv, by show 0 ≤ sizeLine; decide, fun e ne => ?_⟩
  have s1 := same_new (o := .tup []) ne
  refine ⟨lotD l, lotD [], (lot_at (s1 _ _ ha)).dp (lot_flat l), (lot_at (l := []) upd_same).dp (lot_flat []), lot_shaped l, lot_shaped [], _, rfl, ?_⟩
  rw [lot_nil_eqv]
  by_cases hl : l = []
  · rw [decide_eq_true hl]
    subst hl
    exact iteF (q _ s1)
  · rw [decide_eq_false hl]
    obtain ⟨k, x, rfl⟩ : ∃ k x, l = k ++ [x] := ⟨l.dropLast, l.getLast hl, (List.dropLast_concat_getLast hl).symm⟩
    have h2 := q _ s1
    rw [nx_snoc] at h2
    refine iteT ⟨.ref a, hv, 1, rfl, a, _, -1, .int (x : Int), rfl, rfl, SqT.of (s1 _ _ ha), by rw [lv_snoc]; exact atI_last _ _, x, 1, rfl, rfl, ?_⟩
    have e2 : ((x : Int) + 1) = ((x + 1 : Nat) : Int) := by omega
    dsimp only
    rw [e2]
    exact h2
end
def setGo : Nat → List Int → List Int → List Int
  | _, [], acc => acc
  | y, x :: r, acc => setGo (y + 1) r (if 0 ≤ x then acc.set x.toNat (y : Int) else acc)
def lawE (n : Nat) (lies : List Int) : List Int := setGo 0 lies (List.replicate n (-1))
theorem setGo_len : ∀ (y : Nat) (r acc : List Int), (setGo y r acc).length = acc.length
  | _, [], _ => rfl
  | y, x :: r, acc => by
    unfold setGo
    rw [setGo_len]
    split
    · rw [List.length_set]
    · rfl
def spLEnt : Sp := fun vs H Q _ => ∃ (n : Nat) (a : Addr) (ls : List Int), vs = [.int (n : Int), .ref a] ∧ 3 ≤ n ∧ n ≤ 6 ∧ H a = some (.lst (ls.map V.int)) ∧ ls.length ≤ 100 ∧ (∀ x ∈ ls, x < n) ∧ ∀ H' t, Same H H' → H' t = some (.tup ((lawE n ls).map V.int)) → Q (.ref t) H'
abbrev Mv := List Nat × Nat × Nat
def stL (n : Nat) (l : List Nat) : List Int := (List.range n).map fun x => if x ∈ l then -1 else ((x : Nat) : Int)
def mvL (ls : List Int) (m : Mv) : List Int := if m.1.all (fun x => !decide (0 ≤ ls.getD x 0)) = true then (ls.set m.2.1 (ls.getD m.2.2 0)).set m.2.2 (ls.getD m.2.1 0) else ls
def madeE (n : Nat) (ms : List Mv) (l : List Nat) : List Int := lawE n (ms.foldl mvL (stL n l))
def madeT (n : Nat) (ms : List Mv) : List (List Int) := (allL n).map (madeE n ms)
def DeedAt (H : Hp) (v : V) (m : Mv) : Prop := ∃ d q, v = .ref d ∧ H d = some (.tup [.ref q, .int (m.2.1 : Nat), .int (m.2.2 : Nat)]) ∧ H q = some (.tup (lv m.1))
def spMade : Sp := fun vs H Q _ => ∃ (n : Nat) (mo : Addr) (xs : List V) (ms : List Mv), vs = [.int (n : Int), .ref mo] ∧ 3 ≤ n ∧ n ≤ 6 ∧ H mo = some (.lst xs) ∧ xs.length = ms.length ∧ (∀ (j : Nat) (v : V) (m : Mv), xs[j]? = some v → ms[j]? = some m → DeedAt H v m) ∧ (∀ m ∈ ms, (m.2.1 < n ∧ m.2.2 < n) ∧ m.1.length ≤ 100 ∧ ∀ x ∈ m.1, x < n) ∧
  ∀ H' v, Same H H' → Dq H' v (tabD (madeT n ms)) → Q v H'
theorem getD_lt {n : Nat} {ls : List Int} (hn : 0 < n) (h : ∀ x ∈ ls, x < n) (i : Nat) : ls.getD i 0 < n := by
  rw [List.getD_eq_getElem?_getD]
  cases e : ls[i]? with
  | none => show (0 : Int) < n; omega
  | some y => exact h y (List.mem_of_getElem? e)
theorem set_lt {n : Nat} {ls : List Int} {i : Nat} {z : Int} (hz : z < n) (h : ∀ x ∈ ls, x < n) : ∀ x ∈ ls.set i z, x < n := fun x hx => by
  rcases List.mem_or_eq_of_mem_set hx with h1 | h1
  · exact h x h1
  · rw [h1]; exact hz
theorem getD_get {ls : List Int} {i : Nat} (h : i < ls.length) : ls[i]? = some (ls.getD i 0) := by
  rw [List.getD_eq_getElem?_getD, List.getElem?_eq_getElem h]
  rfl
/-- a deed at n places -/
structure Deed (n : Nat) (m : Mv) : Prop where
  asc : Asc 0 n m.1
  ab : m.2.1 < m.2.2
  bn : m.2.2 < n
  na : m.2.1 ∉ m.1
  nb : m.2.2 ∉ m.1
/-- sorted pieces of a drawn order -/
theorem drawn_piece {n : Nat} {ys ps zs : List Int} (hp : ys.Perm (ups n)) (hs : ps.Sublist ys) (hz : zs.Perm ps) (ho : zs.Pairwise (· ≤ ·)) : ∃ ds : List Nat, zs = ds.map (fun (x : Nat) => (x : Int)) ∧ Asc 0 n ds := by
  have hm : ∀ z ∈ zs, 0 ≤ z ∧ z < n := fun z h => by
    have h1 := hp.subset (hs.subset (hz.subset h))
    unfold ups at h1
    obtain ⟨k, hk, rfl⟩ := List.mem_map.mp h1
    have := List.mem_range.mp hk
    omega
  have hnd : zs.Nodup := by
    have h0 : (ups n).Nodup := List.Pairwise.map _ (fun a b (h : a < b) => by show ((a : Nat) : Int) ≠ b; omega) List.pairwise_lt_range
    exact hz.symm.nodup ((hp.symm.nodup h0).sublist hs)
  refine ⟨zs.map Int.toNat, ?_, ?_, fun x hx => ?_⟩
  · rw [List.map_map]
    refine (List.map_id zs).symm.trans (List.map_congr_left fun z h => ?_)
    have := hm z h
    show z = ((z.toNat : Nat) : Int)
    omega
  · rw [List.pairwise_map]
    refine List.Pairwise.imp_of_mem (fun {a b} ha hb h => ?_) (ho.and hnd)
    have h1 := hm a ha
    have h2 := hm b hb
    have h3 : a ≤ b ∧ a ≠ b := h
    omega
  · obtain ⟨z, h, rfl⟩ := List.mem_map.mp hx
    have := hm z h
    exact ⟨Nat.zero_le _, by omega⟩
/-- a lot as a key -/
def lotK (l : List Nat) : List Key := l.map fun (x : Nat) => (Sum.inl (x : Int) : Key)
theorem lotK_v (l : List Nat) : (lotK l).map kV = lv l := by
  unfold lotK lv
  rw [List.map_map]
  rfl
def spNumbers : Sp := fun vs H Q _ => ∃ n : Nat, vs = [.int (n : Int)] ∧ n ≤ 6 ∧ ∀ H' p kvs, Same H H' → H' p = some (.dT kvs) → (∀ l ∈ allL n, valV kvs (lotK l) = some (.int (num n l : Nat))) → Q (.ref p) H'
def bothE (n : Nat) (U : List (List Int)) (e : List Int) : List Int := e.map fun x => if x = -1 then -1 else (U.getD (num n (goalE n e)) []).getD x.toNat 0
def bothT (n : Nat) (T U : List (List Int)) : List (List Int) := T.map (bothE n U)
/-- an entry: its goal is a lot, its places are places -/
def EntOk (n : Nat) (e : List Int) : Prop := goalE n e ∈ allL n ∧ e.length ≤ 100 ∧ ∀ x ∈ e, x = -1 ∨ (0 ≤ x ∧ x < n)
def spBoth : Sp := fun vs H Q _ => ∃ (n : Nat) (v u : V) (T U : List (List Int)), vs = [.int (n : Int), v, u] ∧ n ≤ 6 ∧ Dq H v (tabD T) ∧ Dq H u (tabD U) ∧ T.length ≤ 1000 ∧ (∀ e ∈ T, EntOk n e) ∧ U.length = 2 ^ n ∧ (∀ e ∈ U, e.length = n) ∧
  ∀ H' r, Same H H' → Dq H' r (tabD (bothT n T U)) → Q r H'
theorem all_num {n : Nat} (hn : n ≤ 6) {l : List Nat} (h : l ∈ allL n) : num n l < 2 ^ n := by
  have h1 : num n l ∈ (allL n).map (num n) := List.mem_map.mpr ⟨l, h, rfl⟩
  rw [lots_nums n (by omega)] at h1
  exact List.mem_range.mp h1
theorem ent_inv {H : Hp} {v : V} {e : List Int} (h : Dq H v (entD e)) : ∃ a, v = .ref a ∧ H a = some (.tup (e.map V.int)) := by
  obtain ⟨a, xs, rfl, ha, q⟩ := Dq.tup_inv h
  exact ⟨a, rfl, by rw [ha, dqa_int q]⟩
theorem ents_get {H : Hp} {xs : List V} {T : List (List Int)} {i : Nat} {y : V} (q : DqA H xs (T.map entD)) (h : xs[i]? = some y) : ∃ e, T[i]? = some e ∧ ∃ a, y = .ref a ∧ H a = some (.tup (e.map V.int)) := by
  obtain ⟨d, h1, h2⟩ := q.get h
  rw [List.getElem?_map] at h1
  cases hr : T[i]? with
  | none => rw [hr] at h1; cases h1
  | some e =>
    rw [hr] at h1
    cases Option.some.inj h1
    exact ⟨e, rfl, ent_inv h2⟩
section
variable {P : Program} {w : World} {K : PySem.W.Frag} {mg : Str → Option Value} {base : Heap}
theorem all_num_at {n : Nat} (hn : n ≤ 6) {i : Nat} {l : List Nat} (h : (allL n)[i]? = some l) : num n l = i ∧ i < 2 ^ n := by
  have e : ((allL n).map (num n))[i]? = some (num n l) := by rw [List.getElem?_map, h]; rfl
  rw [lots_nums n (by omega)] at e
  obtain ⟨h1, h2⟩ := List.getElem?_eq_some_iff.mp e
  rw [List.getElem_range] at h2
  rw [List.length_range] at h1
  exact ⟨h2.symm, h1⟩
theorem lotK_inj {l l' : List Nat} (h : lotK l = lotK l') : l = l' := by
  have := congrArg (List.map kV) h
  rw [lotK_v, lotK_v] at this
  unfold lv at this
  exact (List.map_inj_right (fun a b e => by
    have : (a : Int) = (b : Int) := V.int.inj e
    omega)).mp this
def aimsT (n : Nat) (T : List (List Int)) : List Int := T.map fun e => ((num n (goalE n e) : Nat) : Int)
def spAims : Sp := fun vs H Q _ => ∃ (n : Nat) (v : V) (T : List (List Int)), vs = [.int (n : Int), v] ∧ n ≤ 6 ∧ Dq H v (tabD T) ∧ T.length ≤ 1000 ∧ (∀ e ∈ T, goalE n e ∈ allL n) ∧
  ∀ H' p, Same H H' → H p = none → H' p = some (.lst ((aimsT n T).map V.int)) → Q (.ref p) H'
end
/-- an entry of the lot l at n places -/
structure EntV (n : Nat) (l : List Nat) (e : List Int) : Prop where
  len : e.length = n
  at_ : ∀ i, i < n → if i ∈ l then e.getD i 0 = -1 else 0 ≤ e.getD i 0 ∧ e.getD i 0 < n
  nd : (e.filter fun x => !decide (x = -1)).Nodup
def spIsEnt : Sp := fun vs H Q _ => ∃ (n : Nat) (la a : Addr) (l : List Nat) (e : List Int), vs = [.int (n : Int), .ref la, .ref a] ∧ n ≤ 6 ∧ H la = some (.tup (lv l)) ∧ H a = some (.tup (e.map V.int)) ∧ EntV n l e ∧ ∀ H', Same H H' → Q (.bl true) H'
def spTabErr : Sp := fun vs H Q _ => ∃ (n : Nat) (v : V) (T : List (List Int)), vs = [.int (n : Int), v] ∧ n ≤ 6 ∧ Dq H v (tabD T) ∧ T.length = 2 ^ n ∧ (∀ (i : Nat) (l : List Nat) (e : List Int), (allL n)[i]? = some l → T[i]? = some e → EntV n l e) ∧ (T.map (goalE n)).Nodup ∧ ∀ H', Same H H' → Q .non H'
/-- an ascending lot stands among all lots -/
theorem asc_all {n : Nat} (hn : n ≤ 6) {l : List Nat} (h : Asc 0 n l) (hasc : ∀ l ∈ allL n, Asc 0 n l) : l ∈ allL n := by
  have h1 : num n l < 2 ^ n := by
    rcases Nat.lt_or_ge (num n l) (2 ^ n) with c | c
    · exact c
    · have e := lotAt_none (by omega) c
      rw [lotAt_num h] at e
      cases e
  have h2 : num n l ∈ (allL n).map (num n) := by
    rw [lots_nums n (by omega)]
    exact List.mem_range.mpr h1
  obtain ⟨l', hl', e⟩ := List.mem_map.mp h2
  have e1 := lotAt_num (hasc l' hl')
  rw [e, lotAt_num h] at e1
  rw [Option.some.inj e1]
  exact hl'
theorem all_asc : ∀ n : Nat, n < 7 → ∀ l ∈ allL n, (l.Pairwise (· < ·) ∧ l.length ≤ 6) ∧ ∀ x ∈ l, x < n := by decide +kernel
theorem all_ascL {n : Nat} (hn : n ≤ 6) : ∀ l ∈ allL n, Asc 0 n l := fun l hl => ⟨(all_asc n (by omega) l hl).1.1, fun x hx => ⟨Nat.zero_le _, by have := (all_asc n (by omega) l hl).2 x hx; omega⟩⟩
def rLenK (K : PySem.W.Frag) : List V → Hp → VK → Prop := fun xs H Q => ∃ (p : Addr) (ys : List V), xs = [V.ref p] ∧ (SqL K H p ys ∨ SqT K H p ys) ∧ Q (V.int (ys.length : Nat)) H
theorem call_lenK {X : Cx} : CallR X (.builtin "len") (rLenK X.K) := call_len_seq
theorem own_filt : ∀ n : Nat, n < 7 → ∀ s : Nat, s < n + 1 → (allL n).filter (fun l => decide (l.length = s)) = lotsL n s := by decide +kernel
theorem lot_filt : ∀ n : Nat, n < 7 → ∀ l ∈ allL n, (List.range n).filter (fun x => decide (x ∈ l)) = l ∧ ((List.range n).filter (fun x => !decide (x ∈ l))).length + l.length = n := by decide +kernel
theorem own_all : ∀ n : Nat, n < 7 → ∀ s : Nat, s < n + 1 → ∀ l ∈ lotsL n s, l ∈ allL n := fun n _ s hs l h => List.mem_flatMap.mpr ⟨s, List.mem_range.mpr hs, h⟩
/-- entries for lots -/
structure Ents (n : Nat) (ls : List (List Nat)) (es : List (List Int)) : Prop where
  len : es.length = ls.length
  at_ : ∀ (t : Nat) (l : List Nat) (e : List Int), ls[t]? = some l → es[t]? = some e → EntV n l e
theorem Ents.nil {n : Nat} : Ents n [] [] := ⟨rfl, fun t l e h _ => by simp at h⟩
theorem Ents.snoc {n : Nat} {ls : List (List Nat)} {es : List (List Int)} {l : List Nat} {e : List Int} (h : Ents n ls es) (g : EntV n l e) : Ents n (ls ++ [l]) (es ++ [e]) := by
  refine ⟨by rw [List.length_append, List.length_append, h.len]; rfl, fun t l' e' h1 h2 => ?_⟩
  rcases Nat.lt_trichotomy t ls.length with c | c | c
  · rw [List.getElem?_append_left c] at h1
    rw [List.getElem?_append_left (by rw [h.len]; exact c)] at h2
    exact h.at_ t l' e' h1 h2
  · subst c
    rw [List.getElem?_append_right (Nat.le_refl _), Nat.sub_self] at h1
    rw [← h.len, List.getElem?_append_right (Nat.le_refl _), Nat.sub_self] at h2
    cases h1
    cases h2
    exact g
  · rw [List.getElem?_eq_none (by rw [List.length_append]; show _ + 1 ≤ t; omega)] at h1
    cases h1
/-- a table -/
structure TabOk (n : Nat) (T : List (List Int)) : Prop where
  ents : Ents n (allL n) T
  goals : (T.map (goalE n)).Perm (allL n)
theorem dqa_perm {α : Type} {H : Hp} {f : α → PyData} {xs ys : List V} (p : ys.Perm xs) : ∀ {L : List α}, DqA H xs (L.map f) → ∃ M : List α, M.Perm L ∧ DqA H ys (M.map f) := by
  induction p with
  | nil =>
    intro L q
    exact ⟨L, .refl _, q⟩
  | cons x p ih =>
    intro L q
    cases L with
    | nil => cases q
    | cons a L =>
      cases q with
      | cons h t =>
        obtain ⟨M, p2, q2⟩ := ih t
        exact ⟨a :: M, p2.cons a, .cons h q2⟩
  | swap x y l =>
    intro L q
    match L, q with
    | a :: b :: L, .cons h1 (.cons h2 t) => exact ⟨b :: a :: L, .swap _ _ _, .cons h2 (.cons h1 t)⟩
  | trans p1 p2 ih1 ih2 =>
    intro L q
    obtain ⟨M, m1, q1⟩ := ih2 q
    obtain ⟨N, m2, q2⟩ := ih1 q1
    exact ⟨N, m2.trans m1, q2⟩
theorem ints_perm {ys : List V} {zs : List Int} (p : ys.Perm (zs.map V.int)) : ∃ ws : List Int, ys = ws.map V.int ∧ ws.Perm zs := by
  obtain ⟨M, p2, q2⟩ := dqa_perm (H := fun _ => none) (f := PyData.int) p (DqA.ints zs)
  exact ⟨M, dqa_int q2, p2⟩
/-- what is left of the riders -/
def cnt (l : List Nat) (n i : Nat) : Nat := ((List.range n).drop i).countP fun t => !decide (t ∈ l)
theorem cnt_step {l : List Nat} {n i : Nat} (h : i < n) : cnt l n i = cnt l n (i + 1) + (if i ∈ l then 0 else 1) := by
  unfold cnt
  rw [List.drop_eq_getElem_cons (by rw [List.length_range]; exact h), List.countP_cons, List.getElem_range]
  by_cases c : i ∈ l <;> simp [c]
theorem cnt_end (l : List Nat) (n : Nat) : cnt l n n = 0 := by
  unfold cnt
  rw [List.drop_of_length_le (by rw [List.length_range]; exact Nat.le_refl _)]
  rfl
/-- the entry that comes of riders at l, free places in a drawn order -/
theorem ent_made {n : Nat} (hn : n ≤ 6) {l g : List Nat} {e zs : List Int} (hl : l ∈ allL n) (hg : g ∈ allL n) (len : e.length = n) (h1 : ∀ t, t < n → t ∈ l → e.getD t 0 = -1) (h2 : ∀ t, t < n → t ∉ l → e.getD t 0 ∈ zs)
    (h3 : e.filter (fun x => !decide (x = -1)) = zs.reverse) (hz : zs.Perm (((List.range n).filter fun y => !decide (y ∈ g)).map fun (y : Nat) => (y : Int))) : EntV n l e ∧ goalE n e = g := by
  have hm : ∀ z, z ∈ zs ↔ ∃ y : Nat, y < n ∧ y ∉ g ∧ (y : Int) = z := fun z => by
    rw [hz.mem_iff, List.mem_map]
    constructor
    · rintro ⟨y, hy, rfl⟩
      rw [List.mem_filter, List.mem_range] at hy
      exact ⟨y, hy.1, by simpa using hy.2, rfl⟩
    · rintro ⟨y, a, b, rfl⟩
      exact ⟨y, List.mem_filter.mpr ⟨List.mem_range.mpr a, by simpa using b⟩, rfl⟩
  refine ⟨⟨len, fun t ht => ?_, ?_⟩, ?_⟩
  · split
    · rename_i c
      exact h1 t ht c
    · rename_i c
      obtain ⟨y, a, _, e1⟩ := (hm _).mp (h2 t ht c)
      omega
  · rw [h3]
    have nd : (((List.range n).filter fun y => !decide (y ∈ g)).map fun (y : Nat) => (y : Int)).Nodup := List.Pairwise.map _ (fun a b (h : a ≠ b) z => h (by omega)) (List.Pairwise.filter _ List.nodup_range)
    exact List.pairwise_reverse.mpr ((hz.symm.nodup nd).imp fun h => h.symm)
  · rw [← (lot_filt n (by omega) g hg).1]
    unfold goalE
    refine List.filter_congr fun x hx => ?_
    have hx := List.mem_range.mp hx
    have e1 : (x : Int) ∈ e ↔ (x : Int) ∈ zs := by
      rw [← List.mem_reverse (as := zs), ← h3, List.mem_filter]
      constructor
      · exact fun h => ⟨h, by
          have : ¬ (x : Int) = -1 := by omega
          simp [this]⟩
      · exact fun h => h.1
    have e2 : (x : Int) ∈ zs ↔ x ∉ g := by
      rw [hm]
      constructor
      · rintro ⟨y, _, b, c⟩
        have : y = x := by omega
        exact this ▸ b
      · exact fun h => ⟨x, hx, h, rfl⟩
    rw [← decide_not, decide_eq_decide, e1, e2, Classical.not_not]
end Kr
namespace Kr
open PySem PySem.Spec PyProof.Rows L2
/-! ### entries as maps -/
/-- an entry of the lot l: places of keys have none, riders go to unlike places -/
structure EntF (n : Nat) (l : List Nat) (e : List Int) : Prop where
  len : e.length = n
  key : ∀ x, x < n → x ∈ l → e.getD x 0 = -1
  rid : ∀ x, x < n → x ∉ l → 0 ≤ e.getD x 0 ∧ e.getD x 0 < n
  inj : ∀ x y, x < n → y < n → x ∉ l → y ∉ l → e.getD x 0 = e.getD y 0 → x = y
theorem EntF.v {n : Nat} {l : List Nat} {e : List Int} (h : EntF n l e) : EntV n l e := by
  refine ⟨h.len, fun i hi => ?_, ?_⟩
  · split
    · rename_i c; exact h.key i hi c
    · rename_i c; exact h.rid i hi c
  · show (e.filter fun x => !decide (x = -1)).Pairwise (· ≠ ·)
    rw [List.pairwise_filter, List.pairwise_iff_getElem]
    intro i j hi hj hij p1 p2 z
    have g : ∀ i, (h : i < e.length) → e[i] = e.getD i 0 := fun i h => by rw [List.getD_eq_getElem?_getD, List.getElem?_eq_getElem h]; rfl
    rw [g i hi] at p1 z
    rw [g j hj] at p2 z
    rw [h.len] at hi hj
    have k1 : i ∉ l := fun c => by rw [h.key i hi c] at p1; exact absurd p1 (by decide)
    have k2 : j ∉ l := fun c => by rw [h.key j hj c] at p2; exact absurd p2 (by decide)
    have := h.inj i j hi hj k1 k2 z
    omega
theorem EntV.f {n : Nat} {l : List Nat} {e : List Int} (h : EntV n l e) : EntF n l e := by
  refine ⟨h.len, fun x hx c => ?_, fun x hx c => ?_, fun x y hx hy cx cy z => ?_⟩
  · have := h.at_ x hx; rwa [if_pos c] at this
  · have := h.at_ x hx; rwa [if_neg c] at this
  · have nd : (e.filter fun x => !decide (x = -1)).Pairwise (· ≠ ·) := h.nd
    rw [List.pairwise_filter, List.pairwise_iff_getElem] at nd
    have g : ∀ i, (h : i < e.length) → e[i] = e.getD i 0 := fun i h => by rw [List.getD_eq_getElem?_getD, List.getElem?_eq_getElem h]; rfl
    have pz : ∀ x, x < n → x ∉ l → (!decide (e.getD x 0 = -1)) = true := fun x hx c => by
      have := h.at_ x hx
      rw [if_neg c] at this
      simp only [Bool.not_eq_true', decide_eq_false_iff_not]
      omega
    have hl := h.len
    rcases Nat.lt_trichotomy x y with c | c | c
    · have := nd x y (by omega) (by omega) c
      rw [g x (by omega), g y (by omega)] at this
      exact absurd z (this (pz x hx cx) (pz y hy cy))
    · exact c
    · have := nd y x (by omega) (by omega) c
      rw [g x (by omega), g y (by omega)] at this
      exact absurd z.symm (this (pz y hy cy) (pz x hx cx))
theorem mem_e {e : List Int} {n : Nat} (h : e.length = n) {z : Int} : z ∈ e ↔ ∃ x, x < n ∧ e.getD x 0 = z := by
  subst h
  constructor
  · intro hz
    obtain ⟨x, hx, ez⟩ := List.getElem_of_mem hz
    exact ⟨x, hx, by rw [List.getD_eq_getElem?_getD, List.getElem?_eq_getElem hx]; exact ez⟩
  · rintro ⟨x, hx, ez⟩
    rw [List.getD_eq_getElem?_getD, List.getElem?_eq_getElem hx] at ez
    exact ez ▸ List.getElem_mem hx
theorem mem_goal {n : Nat} {e : List Int} {y : Nat} : y ∈ goalE n e ↔ y < n ∧ (y : Int) ∉ e := by
  unfold goalE
  rw [List.mem_filter, List.mem_range]
  simp
theorem goal_asc (n : Nat) (e : List Int) : Asc 0 n (goalE n e) := by
  refine ⟨List.Pairwise.filter _ List.pairwise_lt_range, fun x hx => ?_⟩
  have := (mem_goal.mp hx).1
  omega
theorem goal_all {n : Nat} (hn : n ≤ 6) (e : List Int) : goalE n e ∈ allL n := asc_all hn (goal_asc n e) (all_ascL hn)
/-- ascending lots with the same places are one -/
theorem asc_ext {n : Nat} {a b : List Nat} (ha : Asc 0 n a) (hb : Asc 0 n b) (h : ∀ x, x ∈ a ↔ x ∈ b) : a = b := by
  have p : a.Perm b := (List.perm_ext_iff_of_nodup (ha.1.imp fun h => Nat.ne_of_lt h) (hb.1.imp fun h => Nat.ne_of_lt h)).mpr h
  exact p.eq_of_pairwise (fun x y _ _ h1 h2 => absurd h2 (Nat.not_lt_of_lt h1)) ha.1 hb.1
theorem EntF.off {n : Nat} {l : List Nat} {e : List Int} (h : EntF n l e) {x : Nat} (hx : x < n) (c : x ∉ l) : (e.getD x 0).toNat < n ∧ (e.getD x 0).toNat ∉ goalE n e := by
  obtain ⟨h1, h2⟩ := h.rid x hx c
  refine ⟨by omega, fun z => (mem_goal.mp z).2 ((mem_e h.len).mpr ⟨x, hx, by omega⟩)⟩
theorem EntF.from {n : Nat} {l : List Nat} {e : List Int} (h : EntF n l e) {y : Nat} (hy : y < n) (c : y ∉ goalE n e) : ∃ x, x < n ∧ x ∉ l ∧ e.getD x 0 = y := by
  have : (y : Int) ∈ e := Classical.byContradiction fun z => c (mem_goal.mpr ⟨hy, z⟩)
  obtain ⟨x, hx, ex⟩ := (mem_e h.len).mp this
  refine ⟨x, hx, fun k => ?_, ex⟩
  have := h.key x hx k
  omega
theorem EntF.neg {n : Nat} {l : List Nat} {e : List Int} (h : EntF n l e) {x : Nat} (hx : x < n) : e.getD x 0 = -1 ↔ x ∈ l := by
  constructor
  · intro z
    refine Classical.byContradiction fun c => ?_
    have := (h.rid x hx c).1
    omega
  · exact h.key x hx
/-- one entry behind another -/
def cmpE (e u : List Int) : List Int := e.map fun x => if x = -1 then -1 else u.getD x.toNat 0
theorem map_getD_lt {α β : Type} {f : α → β} {L : List α} {i : Nat} {d : α} {d' : β} (h : i < L.length) : (L.map f).getD i d' = f (L.getD i d) := by
  rw [List.getD_eq_getElem?_getD, List.getElem?_map, List.getElem?_eq_getElem h, List.getD_eq_getElem?_getD, List.getElem?_eq_getElem h]
  rfl
theorem cmp_at {e u : List Int} {x : Nat} (h : x < e.length) : (cmpE e u).getD x 0 = if e.getD x 0 = -1 then -1 else u.getD (e.getD x 0).toNat 0 := map_getD_lt h
theorem EntF.cmp {n : Nat} {l : List Nat} {e u : List Int} (h : EntF n l e) (g : EntF n (goalE n e) u) : EntF n l (cmpE e u) ∧ goalE n (cmpE e u) = goalE n u := by
  have hl : (cmpE e u).length = n := by unfold cmpE; rw [List.length_map]; exact h.len
  have at_ : ∀ x, x < n → x ∉ l → (cmpE e u).getD x 0 = u.getD (e.getD x 0).toNat 0 := fun x hx c => by
    rw [cmp_at (by rw [h.len]; exact hx), if_neg (fun z => c ((h.neg hx).mp z))]
  have hf : EntF n l (cmpE e u) := by
    refine ⟨hl, fun x hx c => ?_, fun x hx c => ?_, fun x y hx hy cx cy z => ?_⟩
    · rw [cmp_at (by rw [h.len]; exact hx), if_pos ((h.neg hx).mpr c)]
    · rw [at_ x hx c]
      obtain ⟨p1, p2⟩ := h.off hx c
      exact g.rid _ p1 p2
    · rw [at_ x hx cx, at_ y hy cy] at z
      obtain ⟨p1, p2⟩ := h.off hx cx
      obtain ⟨p3, p4⟩ := h.off hy cy
      have e1 := g.inj _ _ p1 p3 p2 p4 z
      have r1 := h.rid x hx cx
      have r2 := h.rid y hy cy
      exact h.inj x y hx hy cx cy (by omega)
  refine ⟨hf, asc_ext (goal_asc _ _) (goal_asc _ _) fun y => ?_⟩
  rw [mem_goal, mem_goal, mem_e hl, mem_e g.len]
  refine and_congr_right fun hy => not_congr ⟨?_, ?_⟩
  · rintro ⟨x, hx, ex⟩
    by_cases c : x ∈ l
    · rw [hf.key x hx c] at ex
      omega
    · rw [at_ x hx c] at ex
      exact ⟨_, (h.off hx c).1, ex⟩
  · rintro ⟨x, hx, ex⟩
    have c : x ∉ goalE n e := fun c => by
      rw [g.key x hx c] at ex
      omega
    obtain ⟨x', hx', c', ex'⟩ := h.from hx c
    refine ⟨x', hx', ?_⟩
    rw [at_ x' hx' c', ex', Int.toNat_natCast]
    exact ex
theorem list_ext {n : Nat} {a b : List Int} (ha : a.length = n) (hb : b.length = n) (h : ∀ x, x < n → a.getD x 0 = b.getD x 0) : a = b := by
  refine List.ext_getElem (by omega) fun i h1 h2 => ?_
  have := h i (by omega)
  rw [List.getD_eq_getElem?_getD, List.getD_eq_getElem?_getD, List.getElem?_eq_getElem h1, List.getElem?_eq_getElem h2] at this
  exact this
theorem cmp_assoc {n : Nat} {l : List Nat} {e u w : List Int} (h : EntF n l e) (g : EntF n (goalE n e) u) : cmpE (cmpE e u) w = cmpE e (cmpE u w) := by
  have hl : (cmpE e u).length = n := (h.cmp g).1.len
  refine list_ext (n := n) (by unfold cmpE; rw [List.length_map, List.length_map, h.len]) (by unfold cmpE; rw [List.length_map, h.len]) fun x hx => ?_
  rw [cmp_at (by omega), cmp_at (by rw [h.len]; exact hx), cmp_at (by rw [h.len]; exact hx)]
  by_cases c : x ∈ l
  · rw [(h.neg hx).mpr c]
    rfl
  · have ne : ¬ e.getD x 0 = -1 := fun z => c ((h.neg hx).mp z)
    obtain ⟨p1, p2⟩ := h.off hx c
    rw [if_neg ne, if_neg ne, cmp_at (by rw [g.len]; exact p1)]
/-! ### tables as maps -/
def en (n : Nat) (T : List (List Int)) (l : List Nat) : List Int := T.getD (num n l) []
theorem bothE_cmp (n : Nat) (U : List (List Int)) (e : List Int) : bothE n U e = cmpE e (en n U (goalE n e)) := rfl
theorem all_at {n : Nat} (hn : n ≤ 6) {l : List Nat} (h : l ∈ allL n) : (allL n)[num n l]? = some l := by
  obtain ⟨i, hi, e⟩ := List.getElem_of_mem h
  have e1 : (allL n)[i]? = some l := by rw [List.getElem?_eq_getElem hi, e]
  rw [(all_num_at hn e1).1]
  exact e1
theorem en_map {n : Nat} (hn : n ≤ 6) {f : List Nat → List Int} {l : List Nat} (h : l ∈ allL n) : en n ((allL n).map f) l = f l := by
  unfold en
  rw [List.getD_eq_getElem?_getD, List.getElem?_map, all_at hn h]
  rfl
theorem TabOk.len {n : Nat} (hn : n ≤ 6) {T : List (List Int)} (h : TabOk n T) : T.length = 2 ^ n := h.ents.len.trans (all_len n (by omega))
theorem TabOk.get {n : Nat} (hn : n ≤ 6) {T : List (List Int)} (h : TabOk n T) {l : List Nat} (hl : l ∈ allL n) : T[num n l]? = some (en n T l) := by
  have h1 : num n l < T.length := by rw [h.len hn]; exact all_num hn hl
  unfold en
  rw [List.getD_eq_getElem?_getD, List.getElem?_eq_getElem h1]
  rfl
theorem TabOk.ent {n : Nat} (hn : n ≤ 6) {T : List (List Int)} (h : TabOk n T) {l : List Nat} (hl : l ∈ allL n) : EntF n l (en n T l) := (h.ents.at_ _ _ _ (all_at hn hl) (h.get hn hl)).f
theorem TabOk.map {n : Nat} (hn : n ≤ 6) {T : List (List Int)} (h : TabOk n T) : T = (allL n).map (en n T) := by
  refine List.ext_getElem? fun i => ?_
  rw [List.getElem?_map]
  cases e : (allL n)[i]? with
  | none =>
    show T[i]? = none
    rw [List.getElem?_eq_none_iff] at e ⊢
    rw [h.ents.len]
    exact e
  | some l =>
    rw [← (all_num_at hn e).1]
    exact h.get hn (List.mem_of_getElem? e)
theorem TabOk.of_map {n : Nat} (hn : n ≤ 6) {f : List Nat → List Int} (h : ∀ l ∈ allL n, EntF n l (f l)) (g : ((allL n).map fun l => goalE n (f l)).Perm (allL n)) : TabOk n ((allL n).map f) := by
  refine ⟨⟨List.length_map _, fun t l e h1 h2 => ?_⟩, by rw [List.map_map]; exact g⟩
  rw [List.getElem?_map, h1] at h2
  cases Option.some.inj h2
  exact (h l (List.mem_of_getElem? h1)).v
theorem TabOk.goalp {n : Nat} (hn : n ≤ 6) {T : List (List Int)} (h : TabOk n T) : ((allL n).map fun l => goalE n (en n T l)).Perm (allL n) := by
  have := h.goals
  rw [h.map hn, List.map_map] at this
  exact this
theorem both_map {n : Nat} (hn : n ≤ 6) {T U : List (List Int)} (h : TabOk n T) : bothT n T U = (allL n).map fun l => cmpE (en n T l) (en n U (goalE n (en n T l))) := by
  unfold bothT
  conv => lhs; rw [h.map hn]
  rw [List.map_map]
  rfl
theorem en_both {n : Nat} (hn : n ≤ 6) {T U : List (List Int)} (h : TabOk n T) {l : List Nat} (hl : l ∈ allL n) : en n (bothT n T U) l = cmpE (en n T l) (en n U (goalE n (en n T l))) := by
  rw [both_map hn h, en_map hn hl]
theorem TabOk.both {n : Nat} (hn : n ≤ 6) {T U : List (List Int)} (h : TabOk n T) (g : TabOk n U) : TabOk n (bothT n T U) := by
  rw [both_map hn h]
  refine TabOk.of_map hn (fun l hl => ((h.ent hn hl).cmp (g.ent hn (goal_all hn _))).1) ?_
  have e : ((allL n).map fun l => goalE n (cmpE (en n T l) (en n U (goalE n (en n T l))))) = ((allL n).map fun l => goalE n (en n T l)).map fun g => goalE n (en n U g) := by
    rw [List.map_map]
    exact List.map_congr_left fun l hl => ((h.ent hn hl).cmp (g.ent hn (goal_all hn _))).2
  rw [e]
  exact ((h.goalp hn).map _).trans (g.goalp hn)
theorem both_assoc {n : Nat} (hn : n ≤ 6) {T U W : List (List Int)} (h : TabOk n T) (g : TabOk n U) (k : TabOk n W) : bothT n (bothT n T U) W = bothT n T (bothT n U W) := by
  rw [both_map hn (h.both hn g), both_map (U := bothT n U W) hn h]
  refine List.map_congr_left fun l hl => ?_
  have hg := goal_all hn (en n T l)
  rw [en_both hn h hl, en_both hn g hg, ((h.ent hn hl).cmp (g.ent hn hg)).2]
  exact cmp_assoc (h.ent hn hl) (g.ent hn hg)
end Kr
namespace Kr
open PySem PySem.Spec PyProof.Rows L2
theorem ups_len (n : Nat) : (ups n).length = n := by unfold ups; rw [List.length_map, List.length_range]
theorem ups_at {n x : Nat} (h : x < n) : (ups n).getD x 0 = (x : Int) := by
  unfold ups
  rw [List.getD_eq_getElem?_getD, List.getElem?_map, List.getElem?_range h]
  rfl
theorem byE_len (l : List Nat) (w : List Int) : (byE l w).length = w.length := by unfold byE; rw [List.length_map, List.length_range]
theorem byE_at {l : List Nat} {w : List Int} {x : Nat} (h : x < w.length) : (byE l w).getD x 0 = if x ∈ l then -1 else w.getD x 0 := by
  unfold byE
  rw [List.getD_eq_getElem?_getD, List.getElem?_map, List.getElem?_range h]
  rfl
/-! ### ways that are their own contrary -/
structure Way (n : Nat) (w : List Int) (f : Nat → Nat) : Prop where
  len : w.length = n
  at_ : ∀ x, x < n → w.getD x 0 = (f x : Int)
  lt : ∀ x, x < n → f x < n
  inv : ∀ x, x < n → f (f x) = x
theorem way_ups (n : Nat) : Way n (ups n) id := ⟨ups_len n, fun x h => ups_at h, fun _ h => h, fun _ _ => rfl⟩
def sw (a b x : Nat) : Nat := if x = b then a else if x = a then b else x
theorem way_swap {n a b : Nat} (ha : a < n) (hb : b < n) (hab : a ≠ b) : Way n (swapW n a b) (sw a b) := by
  refine ⟨by unfold swapW; rw [List.length_set, List.length_set, ups_len], fun x h => ?_, fun x h => ?_, fun x h => ?_⟩
  · unfold swapW sw
    rw [List.getD_eq_getElem?_getD, List.getElem?_set, List.length_set, ups_len, List.getElem?_set, ups_len]
    by_cases c1 : x = b
    · subst c1
      rw [if_pos rfl, if_pos h, if_pos rfl]
      rfl
    · rw [if_neg (fun z => c1 z.symm), if_neg c1]
      by_cases c2 : x = a
      · subst c2
        rw [if_pos rfl, if_pos h, if_pos rfl]
        rfl
      · rw [if_neg (fun z => c2 z.symm), if_neg c2, ← List.getD_eq_getElem?_getD, ups_at h]
  · unfold sw
    split
    · exact ha
    · split
      · exact hb
      · exact h
  · unfold sw
    by_cases c1 : x = b
    · rw [if_pos c1, if_neg hab, if_pos rfl, c1]
    · rw [if_neg c1]
      by_cases c2 : x = a
      · rw [if_pos c2, if_pos rfl, c2]
      · rw [if_neg c2, if_neg c1, if_neg c2]
theorem Way.ent {n : Nat} {w : List Int} {f : Nat → Nat} (W : Way n w f) (l : List Nat) : EntF n l (byE l w) := by
  have at_ : ∀ x, x < n → x ∉ l → (byE l w).getD x 0 = (f x : Int) := fun x h c => by rw [byE_at (by rw [W.len]; exact h), if_neg c, W.at_ x h]
  refine ⟨(byE_len l w).trans W.len, fun x h c => by rw [byE_at (by rw [W.len]; exact h), if_pos c], fun x h c => ?_, fun x y hx hy cx cy z => ?_⟩
  · rw [at_ x h c]
    have := W.lt x h
    omega
  · rw [at_ x hx cx, at_ y hy cy] at z
    have e : f x = f y := by omega
    rw [← W.inv x hx, e, W.inv y hy]
theorem Way.goal {n : Nat} {w : List Int} {f : Nat → Nat} (W : Way n w f) (l : List Nat) {y : Nat} : y ∈ goalE n (byE l w) ↔ y < n ∧ f y ∈ l := by
  rw [mem_goal, mem_e ((byE_len l w).trans W.len)]
  refine and_congr_right fun hy => ?_
  constructor
  · intro h
    refine Classical.byContradiction fun c => h ⟨f y, W.lt y hy, ?_⟩
    rw [byE_at (by rw [W.len]; exact W.lt y hy), if_neg c, W.at_ _ (W.lt y hy), W.inv y hy]
  · rintro h ⟨x, hx, ex⟩
    rw [byE_at (by rw [W.len]; exact hx)] at ex
    split at ex
    · omega
    · rename_i c
      rw [W.at_ x hx] at ex
      have : f x = y := by omega
      rw [← this, W.inv x hx] at h
      exact c h
theorem goal_ups {n : Nat} {l : List Nat} (h : Asc 0 n l) : goalE n (byE l (ups n)) = l := by
  refine asc_ext (goal_asc _ _) h fun y => ?_
  rw [(way_ups n).goal]
  exact ⟨fun z => z.2, fun z => ⟨by have := (h.2 y z).2; omega, z⟩⟩
theorem cmp_ups {n : Nat} {l : List Nat} {e : List Int} (h : EntF n l e) : cmpE e (byE (goalE n e) (ups n)) = e := by
  refine list_ext (n := n) (by unfold cmpE; rw [List.length_map, h.len]) h.len fun x hx => ?_
  rw [cmp_at (by rw [h.len]; exact hx)]
  by_cases c : x ∈ l
  · rw [(h.neg hx).mpr c]
    rfl
  · obtain ⟨p1, p2⟩ := h.off hx c
    have r := h.rid x hx c
    rw [if_neg (by omega), byE_at (by rw [ups_len]; exact p1), if_neg p2, ups_at p1]
    omega
theorem ups_cmp {n : Nat} {l : List Nat} {e : List Int} (hl : EntF n l e) : cmpE (byE l (ups n)) e = e := by
  refine list_ext (n := n) (by unfold cmpE; rw [List.length_map, byE_len, ups_len]) hl.len fun x hx => ?_
  rw [cmp_at (by rw [byE_len, ups_len]; exact hx), byE_at (by rw [ups_len]; exact hx)]
  by_cases c : x ∈ l
  · rw [if_pos c, if_pos rfl, hl.key x hx c]
  · rw [if_neg c, ups_at hx, if_neg (by omega), Int.toNat_natCast]
/-! ### the calm table -/
theorem still_ok {n : Nat} (hn : n ≤ 6) : TabOk n (stillT n) := by
  refine TabOk.of_map hn (fun l _ => (way_ups n).ent l) ?_
  refine List.Perm.of_eq ?_
  refine (List.map_congr_left fun l hl => ?_).trans (List.map_id _)
  exact goal_ups (all_ascL hn l hl)
theorem en_still {n : Nat} (hn : n ≤ 6) {l : List Nat} (h : l ∈ allL n) : en n (stillT n) l = byE l (ups n) := en_map hn h
theorem both_still {n : Nat} (hn : n ≤ 6) {T : List (List Int)} (h : TabOk n T) : bothT n T (stillT n) = T := by
  rw [both_map hn h]
  conv => rhs; rw [h.map hn]
  refine List.map_congr_left fun l hl => ?_
  rw [en_still hn (goal_all hn _)]
  exact cmp_ups (h.ent hn hl)
theorem still_both {n : Nat} (hn : n ≤ 6) {T : List (List Int)} (h : TabOk n T) : bothT n (stillT n) T = T := by
  rw [both_map hn (still_ok hn)]
  conv => rhs; rw [h.map hn]
  refine List.map_congr_left fun l hl => ?_
  rw [en_still hn hl, goal_ups (all_ascL hn l hl)]
  exact ups_cmp (h.ent hn hl)
/-! ### tables of deeds -/
def isAll (q l : List Nat) : Bool := q.all fun x => decide (x ∈ l)
def dE (n : Nat) (m : Mv) (l : List Nat) : List Int := byE l (if isAll m.1 l = true then swapW n m.2.1 m.2.2 else ups n)
theorem deed_map (n : Nat) (m : Mv) : deedT n m.1 m.2.1 m.2.2 = (allL n).map (dE n m) := rfl
def dF (m : Mv) (l : List Nat) (x : Nat) : Nat := if isAll m.1 l = true then sw m.2.1 m.2.2 x else x
theorem isAll_iff {q l : List Nat} : isAll q l = true ↔ ∀ x ∈ q, x ∈ l := by
  unfold isAll
  rw [List.all_eq_true]
  simp
section
variable {n : Nat} {m : Mv}
theorem Deed.way (d : Deed n m) (l : List Nat) : Way n (if isAll m.1 l = true then swapW n m.2.1 m.2.2 else ups n) (dF m l) := by
  have h1 := d.ab
  have h2 := d.bn
  unfold dF
  by_cases c : isAll m.1 l = true
  · simp only [c, if_true]
    exact way_swap (by omega) h2 (by omega)
  · simp only [c, if_false]
    exact way_ups n
theorem Deed.ent (d : Deed n m) (l : List Nat) : EntF n l (dE n m l) := (d.way l).ent l
theorem Deed.same (d : Deed n m) {l : List Nat} (hl : Asc 0 n l) : isAll m.1 (goalE n (dE n m l)) = isAll m.1 l := by
  have sub : ∀ x ∈ m.1, dF m l x = x := fun x hx => by
    unfold dF sw
    split
    · rw [if_neg (show ¬ x = m.2.2 from fun z => d.nb (z ▸ hx)), if_neg (show ¬ x = m.2.1 from fun z => d.na (z ▸ hx))]
    · rfl
  rw [Bool.eq_iff_iff, isAll_iff, isAll_iff]
  refine forall_congr' fun x => forall_congr' fun hx => ?_
  show x ∈ goalE n (byE l _) ↔ _
  rw [(d.way l).goal, sub x hx]
  have := d.asc.2 x hx
  exact ⟨fun z => z.2, fun z => ⟨by omega, z⟩⟩
theorem Deed.back (d : Deed n m) {l : List Nat} (hl : Asc 0 n l) : goalE n (dE n m (goalE n (dE n m l))) = l ∧ cmpE (dE n m l) (dE n m (goalE n (dE n m l))) = byE l (ups n) := by
  have es := d.same hl
  have ef : dF m (goalE n (dE n m l)) = dF m l := by funext x; unfold dF; rw [es]
  have W := d.way l
  have W2 := d.way (goalE n (dE n m l))
  rw [ef] at W2
  refine ⟨asc_ext (goal_asc _ _) hl fun y => ?_, ?_⟩
  · show y ∈ goalE n (byE _ _) ↔ _
    rw [W2.goal]
    show y < n ∧ dF m l y ∈ goalE n (byE _ _) ↔ _
    rw [W.goal]
    constructor
    · rintro ⟨h1, h2, h3⟩
      rwa [W.inv y h1] at h3
    · intro h
      have h1 : y < n := by have := (hl.2 y h).2; omega
      exact ⟨h1, W.lt y h1, by rw [W.inv y h1]; exact h⟩
  · refine list_ext (n := n) (by unfold cmpE; rw [List.length_map]; exact (d.ent l).len) (by rw [byE_len, ups_len]) fun x hx => ?_
    rw [cmp_at (by rw [(d.ent l).len]; exact hx), byE_at (by rw [ups_len]; exact hx)]
    by_cases c : x ∈ l
    · rw [if_pos c, (d.ent l).key x hx c]
      rfl
    · have e1 : (dE n m l).getD x 0 = (dF m l x : Int) := by
        unfold dE
        rw [byE_at (by rw [W.len]; exact hx), if_neg c, W.at_ x hx]
      obtain ⟨p1, p2⟩ := (d.ent l).off hx c
      rw [e1, Int.toNat_natCast] at p1 p2
      rw [e1, if_neg (by omega), if_neg c, ups_at hx, Int.toNat_natCast]
      show (byE _ _).getD _ 0 = _
      rw [byE_at (by rw [W2.len]; exact p1), if_neg p2, W2.at_ _ p1, W.inv x hx]
theorem perm_inv {α : Type} [DecidableEq α] {L : List α} {g : α → α} (nd : L.Nodup) (cl : ∀ x ∈ L, g x ∈ L) (iv : ∀ x ∈ L, g (g x) = x) : (L.map g).Perm L := by
  have nd2 : (L.map g).Nodup := by
    show (L.map g).Pairwise (· ≠ ·)
    rw [List.pairwise_map]
    refine List.Pairwise.imp_of_mem (fun {a b} ha hb h z => h ?_) nd
    rw [← iv a ha, ← iv b hb, z]
  refine (List.perm_ext_iff_of_nodup nd2 nd).mpr fun a => ⟨fun h => ?_, fun h => ?_⟩
  · obtain ⟨x, hx, rfl⟩ := List.mem_map.mp h
    exact cl x hx
  · exact List.mem_map.mpr ⟨g a, cl a h, iv a h⟩
theorem all_nodup {n : Nat} (hn : n ≤ 6) : (allL n).Nodup := by
  have h : ((allL n).map (num n)).Pairwise (· ≠ ·) := by rw [lots_nums n (by omega)]; exact List.nodup_range
  rw [List.pairwise_map] at h
  exact h.imp fun h z => h (by rw [z])
theorem Deed.ok (d : Deed n m) (hn : n ≤ 6) : TabOk n (deedT n m.1 m.2.1 m.2.2) := by
  rw [deed_map]
  exact TabOk.of_map hn (fun l _ => d.ent l) (perm_inv (g := fun l => goalE n (dE n m l)) (all_nodup hn) (fun l _ => goal_all hn _) fun l hl => (d.back (all_ascL hn l hl)).1)
theorem Deed.twice (d : Deed n m) (hn : n ≤ 6) : bothT n (deedT n m.1 m.2.1 m.2.2) (deedT n m.1 m.2.1 m.2.2) = stillT n := by
  rw [both_map hn (d.ok hn)]
  refine List.map_congr_left fun l hl => ?_
  rw [deed_map, en_map hn hl, en_map hn (goal_all hn _)]
  exact (d.back (all_ascL hn l hl)).2
end
theorem TabOk.gl_inj' {n : Nat} {T : List (List Int)} (hn : n ≤ 6) (h : TabOk n T) {a b : List Nat} (ha : a ∈ allL n) (hb : b ∈ allL n) (e : goalE n (en n T a) = goalE n (en n T b)) : a = b := by
  have nd : ((allL n).map fun l => goalE n (en n T l)).Pairwise (· ≠ ·) := (h.goalp hn).symm.nodup (all_nodup hn)
  rw [List.pairwise_map, List.pairwise_iff_getElem] at nd
  obtain ⟨i, hi, rfl⟩ := List.getElem_of_mem ha
  obtain ⟨j, hj, rfl⟩ := List.getElem_of_mem hb
  rcases Nat.lt_trichotomy i j with c | c | c
  · exact absurd e (nd i j hi hj c)
  · subst c; rfl
  · exact absurd e.symm (nd j i hj hi c)
end Kr
namespace Kr
open PySem PySem.Spec PyProof.Rows L2
/-! ### the law's tables by deeds, deed by deed -/
theorem setGo_keep {x : Nat} : ∀ (k : Nat) (r acc : List Int), (∀ j, j < r.length → r.getD j 0 ≠ (x : Int)) → (setGo k r acc).getD x 0 = acc.getD x 0
  | _, [], _, _ => rfl
  | k, z :: r, acc, h => by
    unfold setGo
    rw [setGo_keep (k + 1) r _ fun j hj => by
      have := h (j + 1) (by rw [List.length_cons]; omega)
      simpa using this]
    have h0 := h 0 (by rw [List.length_cons]; omega)
    have h0 : z ≠ (x : Int) := by simpa using h0
    split
    · rename_i c
      rw [List.getD_eq_getElem?_getD, List.getElem?_set_ne (by omega), ← List.getD_eq_getElem?_getD]
    · rfl
theorem setGo_put {x : Nat} : ∀ (k : Nat) (r acc : List Int) (j : Nat), j < r.length → r.getD j 0 = (x : Int) → (∀ i, i < r.length → r.getD i 0 = (x : Int) → i = j) → x < acc.length → (setGo k r acc).getD x 0 = ((k + j : Nat) : Int)
  | _, [], _, j, h, _, _, _ => by simp at h
  | k, z :: r, acc, 0, h, e, u, hx => by
    unfold setGo
    have e : z = (x : Int) := by simpa using e
    rw [setGo_keep (k + 1) r _ fun i hi ei => by
      have := u (i + 1) (by rw [List.length_cons]; omega) (by simpa using ei)
      omega]
    rw [if_pos (by omega), e, Int.toNat_natCast, List.getD_eq_getElem?_getD, List.getElem?_set_self hx]
    rfl
  | k, z :: r, acc, j + 1, h, e, u, hx => by
    unfold setGo
    rw [setGo_put (k + 1) r _ j (by rw [List.length_cons] at h; omega) (by simpa using e) (fun i hi ei => by
      have := u (i + 1) (by rw [List.length_cons]; omega) (by simpa using ei)
      omega) (by split <;> first | (rw [List.length_set]; exact hx) | exact hx)]
    congr 1
    omega
/-- riders at their places: what lies at each place -/
structure Lies (n : Nat) (l : List Nat) (ls : List Int) : Prop where
  len : ls.length = n
  at_ : ∀ y, y < n → ls.getD y 0 = -1 ∨ ∃ x : Nat, x < n ∧ x ∉ l ∧ ls.getD y 0 = x
  has : ∀ x, x < n → x ∉ l → ∃ y, y < n ∧ ls.getD y 0 = (x : Int)
  one : ∀ y z, y < n → z < n → 0 ≤ ls.getD y 0 → ls.getD y 0 = ls.getD z 0 → y = z
section
variable {n : Nat} {l : List Nat} {ls : List Int}
theorem Lies.put (h : Lies n l ls) {x y : Nat} (hx : x < n) (hy : y < n) (e : ls.getD y 0 = (x : Int)) : (lawE n ls).getD x 0 = (y : Int) := by
  unfold lawE
  rw [setGo_put 0 ls _ y (by rw [h.len]; exact hy) e (fun i hi ei => h.one i y (by rw [← h.len]; exact hi) hy (by omega) (ei.trans e.symm)) (by rw [List.length_replicate]; exact hx), Nat.zero_add]
theorem Lies.keep (h : Lies n l ls) {x : Nat} (hx : x < n) (c : x ∈ l) : (lawE n ls).getD x 0 = -1 := by
  unfold lawE
  rw [setGo_keep 0 ls _ fun j hj ej => ?_]
  · rw [List.getD_eq_getElem?_getD, List.getElem?_replicate, if_pos hx]
    rfl
  · rcases h.at_ j (by rw [← h.len]; exact hj) with z | ⟨x', _, c', z⟩
    · rw [z] at ej; omega
    · rw [z] at ej
      have : x' = x := by omega
      exact c' (this ▸ c)
theorem lawE_len (n : Nat) (ls : List Int) : (lawE n ls).length = n := by unfold lawE; rw [setGo_len, List.length_replicate]
theorem Lies.ent (h : Lies n l ls) : EntF n l (lawE n ls) := by
  refine ⟨lawE_len n ls, fun x hx c => h.keep hx c, fun x hx c => ?_, fun x y hx hy cx cy z => ?_⟩
  · obtain ⟨y, hy, e⟩ := h.has x hx c
    rw [h.put hx hy e]
    omega
  · obtain ⟨u, hu, eu⟩ := h.has x hx cx
    obtain ⟨v, hv, ev⟩ := h.has y hy cy
    rw [h.put hx hu eu, h.put hy hv ev] at z
    have : u = v := by omega
    subst this
    rw [eu] at ev
    omega
theorem Lies.goal (h : Lies n l ls) {y : Nat} (hy : y < n) : y ∈ goalE n (lawE n ls) ↔ ¬ 0 ≤ ls.getD y 0 := by
  rw [mem_goal, mem_e (lawE_len n ls)]
  constructor
  · rintro ⟨_, h2⟩ c
    rcases h.at_ y hy with z | ⟨x, hx, _, z⟩
    · omega
    · exact h2 ⟨x, hx, h.put hx hy z⟩
  · refine fun c => ⟨hy, ?_⟩
    rintro ⟨x, hx, e⟩
    by_cases k : x ∈ l
    · rw [h.keep hx k] at e
      omega
    · obtain ⟨u, hu, eu⟩ := h.has x hx k
      rw [h.put hx hu eu] at e
      have : u = y := by omega
      subst this
      omega
theorem lies_start (n : Nat) (l : List Nat) : Lies n l (stL n l) := by
  have at_ : ∀ x, x < n → (stL n l).getD x 0 = if x ∈ l then -1 else (x : Int) := fun x hx => by
    unfold stL
    rw [List.getD_eq_getElem?_getD, List.getElem?_map, List.getElem?_range hx]
    rfl
  refine ⟨by unfold stL; rw [List.length_map, List.length_range], fun y hy => ?_, fun x hx c => ⟨x, hx, by rw [at_ x hx, if_neg c]⟩, fun y z hy hz p e => ?_⟩
  · rw [at_ y hy]
    by_cases c : y ∈ l
    · rw [if_pos c]; exact .inl rfl
    · rw [if_neg c]; exact .inr ⟨y, hy, c, rfl⟩
  · rw [at_ y hy] at p e
    rw [at_ z hz] at e
    split at e
    · rename_i c
      rw [if_pos c] at p
      omega
    · split at e <;> omega
/-- two places exchanged, or not -/
theorem Lies.moved (h : Lies n l ls) {m : Mv} (d : Deed n m) : Lies n l (mvL ls m) ∧ lawE n (mvL ls m) = cmpE (lawE n ls) (dE n m (goalE n (lawE n ls))) := by
  have hab := d.ab
  have hbn := d.bn
  have hcond : m.1.all (fun x => !decide (0 ≤ ls.getD x 0)) = isAll m.1 (goalE n (lawE n ls)) := by
    rw [Bool.eq_iff_iff, isAll_iff, List.all_eq_true]
    refine forall_congr' fun x => forall_congr' fun hx => ?_
    rw [h.goal (by have := (d.asc.2 x hx).2; omega)]
    simp
  have W := d.way (goalE n (lawE n ls))
  have at_ : ∀ y, y < n → (mvL ls m).getD y 0 = ls.getD (dF m (goalE n (lawE n ls)) y) 0 := fun y hy => by
    unfold mvL dF
    rw [hcond]
    split
    · unfold sw
      rw [List.getD_eq_getElem?_getD, List.getElem?_set, List.length_set, h.len, List.getElem?_set, h.len]
      by_cases c1 : y = m.2.2
      · rw [if_pos c1.symm, if_pos hbn, if_pos c1]
        rfl
      · rw [if_neg (fun z => c1 z.symm), if_neg c1]
        by_cases c2 : y = m.2.1
        · rw [if_pos c2.symm, if_pos (by omega), if_pos c2]
          rfl
        · rw [if_neg (fun z => c2 z.symm), if_neg c2, List.getD_eq_getElem?_getD]
    · rfl
  have hl : (mvL ls m).length = n := by
    unfold mvL
    split
    · rw [List.length_set, List.length_set]; exact h.len
    · exact h.len
  have hL : Lies n l (mvL ls m) := by
    refine ⟨hl, fun y hy => ?_, fun x hx c => ?_, fun y z hy hz p e => ?_⟩
    · rw [at_ y hy]
      exact h.at_ _ (W.lt y hy)
    · obtain ⟨y, hy, e⟩ := h.has x hx c
      exact ⟨_, W.lt y hy, by rw [at_ _ (W.lt y hy), W.inv y hy]; exact e⟩
    · rw [at_ y hy] at p e
      rw [at_ z hz] at e
      have := h.one _ _ (W.lt y hy) (W.lt z hz) p e
      rw [← W.inv y hy, this, W.inv z hz]
  refine ⟨hL, list_ext (n := n) (lawE_len n _) (by unfold cmpE; rw [List.length_map]; exact lawE_len n _) fun x hx => ?_⟩
  rw [cmp_at (by rw [lawE_len]; exact hx)]
  by_cases c : x ∈ l
  · rw [hL.keep hx c, h.keep hx c]
    rfl
  · obtain ⟨y, hy, e⟩ := h.has x hx c
    have e2 := h.put hx hy e
    obtain ⟨p1, p2⟩ := h.ent.off hx c
    rw [e2, Int.toNat_natCast] at p1 p2
    rw [e2, if_neg (by omega), Int.toNat_natCast, hL.put hx (W.lt y hy) (by rw [at_ _ (W.lt y hy), W.inv y hy]; exact e)]
    show _ = (byE _ _).getD _ 0
    rw [byE_at (by rw [W.len]; exact p1), if_neg p2, W.at_ _ p1]
end
theorem lies_all {n : Nat} {l : List Nat} : ∀ (ms : List Mv) (ls : List Int), Lies n l ls → (∀ m ∈ ms, Deed n m) → Lies n l (ms.foldl mvL ls)
  | [], _, h, _ => h
  | m :: ms, ls, h, d => lies_all ms _ (h.moved (d m List.mem_cons_self)).1 fun x hx => d x (List.mem_cons_of_mem _ hx)
theorem made_nil {n : Nat} (hn : n ≤ 6) : madeT n [] = stillT n := by
  refine List.map_congr_left fun l hl => ?_
  show lawE n (stL n l) = _
  have h := lies_start n l
  have at_ : ∀ x, x < n → (stL n l).getD x 0 = if x ∈ l then -1 else (x : Int) := fun x hx => by
    unfold stL
    rw [List.getD_eq_getElem?_getD, List.getElem?_map, List.getElem?_range hx]
    rfl
  refine list_ext (n := n) (lawE_len n _) (by rw [byE_len, ups_len]) fun x hx => ?_
  rw [byE_at (by rw [ups_len]; exact hx)]
  by_cases c : x ∈ l
  · rw [if_pos c, h.keep hx c]
  · rw [if_neg c, ups_at hx, h.put hx hx (by rw [at_ x hx, if_neg c])]
theorem made_ent {n : Nat} {ms : List Mv} (d : ∀ m ∈ ms, Deed n m) (l : List Nat) : EntF n l (madeE n ms l) := (lies_all ms _ (lies_start n l) d).ent
theorem made_snoc {n : Nat} (hn : n ≤ 6) {ms : List Mv} {m : Mv} (d : ∀ x ∈ ms ++ [m], Deed n x) : madeT n (ms ++ [m]) = bothT n (madeT n ms) (deedT n m.1 m.2.1 m.2.2) := by
  unfold madeT bothT
  rw [List.map_map]
  refine List.map_congr_left fun l hl => ?_
  have dm := d m (List.mem_append_right _ List.mem_cons_self)
  have h := (lies_all ms _ (lies_start n l) fun x hx => d x (List.mem_append_left _ hx)).moved dm
  show lawE n ((ms ++ [m]).foldl mvL (stL n l)) = cmpE (madeE n ms l) (en n (deedT n m.1 m.2.1 m.2.2) (goalE n (madeE n ms l)))
  rw [List.foldl_append, deed_map, en_map hn (goal_all hn _)]
  exact h.2
theorem made_ok {n : Nat} (hn : n ≤ 6) {ms : List Mv} (d : ∀ m ∈ ms, Deed n m) : TabOk n (madeT n ms) := by
  have : ∀ k, k ≤ ms.length → TabOk n (madeT n (ms.take k)) := fun k => by
    induction k with
    | zero =>
      intro _
      rw [List.take_zero, made_nil hn]
      exact still_ok hn
    | succ k ih =>
      intro hk
      have e : ms.take (k + 1) = ms.take k ++ [ms[k]] := by rw [List.take_add_one, List.getElem?_eq_getElem (by omega)]; rfl
      have d2 : ∀ x ∈ ms.take k ++ [ms[k]], Deed n x := fun x hx => d x (List.take_subset _ _ (e ▸ hx))
      rw [e, made_snoc hn d2]
      exact (ih (by omega)).both hn ((d2 _ (List.mem_append_right _ List.mem_cons_self)).ok hn)
  have := this ms.length (Nat.le_refl _)
  rwa [List.take_length] at this
theorem made_one {n : Nat} (hn : n ≤ 6) {m : Mv} (d : Deed n m) : madeT n [m] = deedT n m.1 m.2.1 m.2.2 := by
  have := made_snoc (ms := []) (m := m) hn fun x hx => by
    rw [List.nil_append, List.mem_singleton] at hx
    exact hx ▸ d
  rw [List.nil_append, made_nil hn, still_both hn (d.ok hn)] at this
  exact this
end Kr
namespace Kr
open PySem PySem.Spec PyProof.Rows L2
/-! ### what the laws show of tables -/
theorem tab_flat (T : List (List Int)) : flatT (tabD T) = true := by simp only [tabD, flatT]; exact ents_flat T
def deedD (m : Mv) : PyData := .tuple [lotD m.1, .int (m.2.1 : Nat), .int (m.2.2 : Nat)]
theorem deed_flat (m : Mv) : flatT (deedD m) = true := by simp [deedD, flatT, flatTA, lot_flat]
theorem deed_dq {H : Hp} {v : V} {m : Mv} (h : DeedAt H v m) : Dq H v (deedD m) := by
  obtain ⟨d, q, rfl, h1, h2⟩ := h
  exact .tup h1 (.cons (lot_at h2) (.cons (.int _) (.cons (.int _) .nil)))
theorem DeedAt.upT {H H' : Hp} {v : V} {m : Mv} (s : TS H H') (h : DeedAt H v m) : DeedAt H' v m := by
  obtain ⟨d, q, rfl, h1, h2⟩ := h
  exact ⟨d, q, rfl, s _ _ h1, s _ _ h2⟩
theorem sm_lot {l : List Nat} {m : Nat} (hl : l.length ≤ m) (h : ∀ x ∈ l, x < 24) : Sm 2 (6 * m) (lotD l) := by
  refine Sm.tup (k := 1) (w := 5) (fun d hd => ?_) (by rw [List.length_map]; exact hl)
  obtain ⟨x, hx, rfl⟩ := List.mem_map.mp hd
  exact .lit (by have := h x hx; omega)
theorem sm_ent {e : List Int} (hl : e.length ≤ 6) (h : ∀ x ∈ e, -1 ≤ x ∧ x < 24) : Sm 2 (6 * 6) (entD e) := by
  refine Sm.tup (k := 1) (w := 5) (fun d hd => ?_) (by rw [List.length_map]; exact hl)
  obtain ⟨x, hx, rfl⟩ := List.mem_map.mp hd
  exact .lit (by have := h x hx; omega)
theorem EntF.le {n : Nat} {l : List Nat} {e : List Int} (h : EntF n l e) : ∀ x ∈ e, x = -1 ∨ (0 ≤ x ∧ x < n) := fun z hz => by
  obtain ⟨x, hx, rfl⟩ := (mem_e h.len).mp hz
  by_cases c : x ∈ l
  · exact .inl (h.key x hx c)
  · exact .inr (h.rid x hx c)
theorem sm_entF {n : Nat} (hn : n ≤ 6) {l : List Nat} {e : List Int} (h : EntF n l e) : Sm 2 (6 * 6) (entD e) := sm_ent (by rw [h.len]; exact hn) fun x hx => by
  have := h.le x hx
  omega
theorem TabOk.mem {n : Nat} (hn : n ≤ 6) {T : List (List Int)} (h : TabOk n T) {e : List Int} (he : e ∈ T) : ∃ l ∈ allL n, EntF n l e := by
  rw [h.map hn] at he
  obtain ⟨l, hl, rfl⟩ := List.mem_map.mp he
  exact ⟨l, hl, h.ent hn hl⟩
theorem sm_tab {n : Nat} (hn : n ≤ 6) {T : List (List Int)} (h : TabOk n T) : Sm 3 ((6 * 6 + 1) * 64) (tabD T) := by
  refine Sm.tup (k := 2) (w := 6 * 6) (fun d hd => ?_) (by rw [List.length_map, h.ents.len]; exact all_few n (by omega))
  obtain ⟨e, he, rfl⟩ := List.mem_map.mp hd
  obtain ⟨l, _, f⟩ := h.mem hn he
  exact sm_entF hn f
theorem sm_deed {n : Nat} (hn : n ≤ 6) {m : Mv} (d : Deed n m) : Sm 3 ((36 + 1) * 3) (deedD m) := by
  have h1 := d.ab
  have h2 := d.bn
  refine Sm.tup (k := 2) (w := 36) (fun x hx => ?_) (Nat.le_refl _)
  simp only [List.mem_cons, List.not_mem_nil, or_false] at hx
  rcases hx with rfl | rfl | rfl
  · exact sm_lot (m := 6) (by have := d.asc.len; omega) fun x hx => by have := (d.asc.2 x hx).2; omega
  · exact (Sm.lit (by omega)).mono (by decide) (by decide)
  · exact (Sm.lit (by omega)).mono (by decide) (by decide)
theorem ents_lay : ∀ T : List (List Int), PyData.canLayAll0 (T.map entD) = true ∧ PyData.depthAll (T.map entD) ≤ 2
  | [] => by simp [PyData.canLayAll0, PyData.depthAll]
  | e :: T => by
    obtain ⟨h1, h2⟩ := ents_lay T
    have h3 := dep_ints1 e
    simp only [List.map_cons, PyData.canLayAll0, PyData.depthAll, entD, PyData.canLay0, PyData.depth, h1, lay_ints1]
    refine ⟨by simp, by omega⟩
theorem tab_shaped (T : List (List Int)) : SeqAt.shaped (tabD T) = true := by
  obtain ⟨h1, h2⟩ := ents_lay T
  unfold SeqAt.shaped
  simp only [tabD, PyData.canLay0, PyData.depth, h1, Bool.true_and, decide_eq_true_eq]
  omega
theorem TabOk.uniq {n : Nat} (hn : n ≤ 6) {T : List (List Int)} (h : TabOk n T) {i j : Nat} {e : List Int} (h1 : T[i]? = some e) (h2 : T[j]? = some e) : i = j := by
  have at_ : ∀ {i : Nat}, T[i]? = some e → ∃ l, (allL n)[i]? = some l ∧ EntF n l e := fun {i} hi => by
    have hl : i < (allL n).length := by rw [← h.ents.len]; exact (List.getElem?_eq_some_iff.mp hi).1
    exact ⟨_, List.getElem?_eq_getElem hl, (h.ents.at_ i _ _ (List.getElem?_eq_getElem hl) hi).f⟩
  obtain ⟨a, ha, fa⟩ := at_ h1
  obtain ⟨b, hb, fb⟩ := at_ h2
  have e1 : a = b := asc_ext (all_ascL hn _ (List.mem_of_getElem? ha)) (all_ascL hn _ (List.mem_of_getElem? hb)) fun x => by
    by_cases hx : x < n
    · rw [← fa.neg hx, ← fb.neg hx]
    · exact ⟨fun z => absurd ((all_ascL hn _ (List.mem_of_getElem? ha)).2 x z).2 (by omega), fun z => absurd ((all_ascL hn _ (List.mem_of_getElem? hb)).2 x z).2 (by omega)⟩
  subst e1
  rw [← (all_num_at hn ha).1, ← (all_num_at hn hb).1]
/-! ### what the program's tests ask -/
theorem TabOk.both_in {n : Nat} (hn : n ≤ 6) {T : List (List Int)} (h : TabOk n T) : T.length ≤ 1000 ∧ (∀ e ∈ T, EntOk n e) ∧ T.length = 2 ^ n ∧ ∀ e ∈ T, e.length = n := by
  refine ⟨by rw [h.ents.len]; exact Nat.le_trans (all_few n (by omega)) (by decide), fun e he => ?_, h.len hn, fun e he => ?_⟩
  · obtain ⟨l, _, f⟩ := h.mem hn he
    exact ⟨goal_all hn e, by rw [f.len]; omega, f.le⟩
  · obtain ⟨l, _, f⟩ := h.mem hn he
    exact f.len
theorem TabOk.nd {n : Nat} (hn : n ≤ 6) {T : List (List Int)} (h : TabOk n T) : (T.map (goalE n)).Nodup := h.goals.symm.nodup (all_nodup hn)
theorem all_head : ∀ n : Nat, n < 7 → (allL n)[0]? = some [] := by decide +kernel
theorem TabOk.head {n : Nat} (hn : n ≤ 6) {T : List (List Int)} (h : TabOk n T) : ∃ r, T = en n T [] :: r := by
  have e := all_head n (by omega)
  cases hA : allL n with
  | nil => rw [hA] at e; cases e
  | cons a r =>
    rw [hA] at e
    have ea : a = [] := Option.some.inj e
    subst ea
    have h2 := h.map hn
    rw [hA, List.map_cons] at h2
    exact ⟨_, h2⟩
theorem nil_all {n : Nat} (hn : n ≤ 6) : ([] : List Nat) ∈ allL n := List.mem_of_getElem? (all_head n (by omega))
theorem ints_eqv : ∀ a b : List Int, PyData.eqvAll (a.map .int) (b.map .int) = decide (a = b)
  | [], [] => by simp [PyData.eqvAll]
  | [], _ :: _ => by simp [PyData.eqvAll]
  | _ :: _, [] => by simp [PyData.eqvAll]
  | x :: a, y :: b => by
    have ih := ints_eqv a b
    simp only [List.map_cons, PyData.eqvAll]
    rw [ih, Bool.eq_iff_iff]
    simp [PyData.eqv]
theorem ent_eqv (a b : List Int) : PyData.eqv (entD a) (entD b) = decide (a = b) := by
  unfold entD
  simp only [PyData.eqv]
  exact ints_eqv a b
theorem lot_eqv (a b : List Nat) : PyData.eqv (lotD a) (lotD b) = decide (a = b) := by
  have e : ∀ l : List Nat, lotD l = entD (l.map fun (x : Nat) => (x : Int)) := fun l => by
    unfold lotD entD
    rw [List.map_map]
    rfl
  rw [e, e, ent_eqv, decide_eq_decide]
  exact List.map_inj_right (fun a b z => by omega)
theorem ent_shaped (e : List Int) : SeqAt.shaped (entD e) = true := tup_shaped e
theorem deed_head {n : Nat} {m : Mv} (d : Deed n m) : dE n m [] = byE [] (ups n) ↔ m.1 ≠ [] := by
  have h1 := d.ab
  have h2 := d.bn
  constructor
  · intro e z
    have e1 : dE n m [] = byE [] (swapW n m.2.1 m.2.2) := by
      unfold dE isAll
      rw [z]
      rfl
    rw [e1] at e
    have W := way_swap (n := n) (a := m.2.1) (b := m.2.2) (by omega) h2 (by omega)
    have e2 : (byE [] (swapW n m.2.1 m.2.2)).getD m.2.1 0 = (byE [] (ups n)).getD m.2.1 0 := by rw [e]
    rw [byE_at (by rw [W.len]; omega), byE_at (by rw [ups_len]; omega), if_neg (by simp), if_neg (by simp), W.at_ _ (by omega), ups_at (by omega)] at e2
    unfold sw at e2
    rw [if_neg (by omega), if_pos rfl] at e2
    omega
  · intro h
    unfold dE
    rw [if_neg]
    rw [isAll_iff]
    cases hm : m.1 with
    | nil => exact absurd hm h
    | cons x r => exact fun z => absurd (z x List.mem_cons_self) (by simp)
end Kr
namespace Kr
open PySem PySem.Spec PyProof.Rows L2
/-! ### conditions of while: more may be asked of what follows -/
def MonoE (t : TE) : Prop := ∀ σ H (Q Q' : VK), (∀ v H1, Q v H1 → Q' v H1) → t σ H Q → t σ H Q'
def MonoC (t : TT) : Prop := ∀ σ H (Q Q' : Bool → Hp → Prop), (∀ v H1, Q v H1 → Q' v H1) → t σ H Q → t σ H Q'
def MonoR (r : R2) : Prop := ∀ x y H (Q Q' : VK), (∀ v H1, Q v H1 → Q' v H1) → r x y H Q → r x y H Q'
theorem mono_var (i : Nat) : MonoE (tVar i) := fun _ _ _ _ h ⟨v, e, q⟩ => ⟨v, e, h _ _ q⟩
theorem mono_c (v : V) : MonoE (tC v) := fun _ _ _ _ h q => h _ _ q
theorem mono_op {r : R2} {a b : TE} (hr : MonoR r) (ha : MonoE a) (hb : MonoE b) : MonoE (tOp r a b) := fun σ _ _ _ h q => ha _ _ _ _ (fun _ _ q => hb _ _ _ _ (fun _ _ q => hr _ _ _ _ _ h q) q) q
theorem mono_rI0 (g : Int → Int → V) : MonoR (rI0 g) := fun _ _ _ _ _ h ⟨i, j, a, b, q⟩ => ⟨i, j, a, b, h _ _ q⟩
theorem mono_rI (C : Int → Int → Prop) (g : Int → Int → V) : MonoR (rI C g) := fun _ _ _ _ _ h ⟨i, j, a, b, c, q⟩ => ⟨i, j, a, b, c, h _ _ q⟩
theorem mono_ixT (K : PySem.W.Frag) : MonoR (rIxT K) := fun _ _ _ _ _ h ⟨p, xs, i, v, a, b, c, d, q⟩ => ⟨p, xs, i, v, a, b, c, d, h _ _ q⟩
theorem mono_ixL (K : PySem.W.Frag) : MonoR (rIxL K) := fun _ _ _ _ _ h ⟨p, xs, i, v, a, b, c, d, q⟩ => ⟨p, xs, i, v, a, b, c, d, h _ _ q⟩
theorem mono_din {a b : TE} (ha : MonoE a) (hb : MonoE b) : MonoE (tDIn a b) := fun σ _ _ _ h q => ha _ _ _ _ (fun _ _ q => hb _ _ _ _ (fun _ _ ⟨x, o, e, g, q⟩ => ⟨x, o, e, g, h _ _ q⟩) q) q
theorem mono_dnotin {a b : TE} (ha : MonoE a) (hb : MonoE b) : MonoE (tDNotIn a b) := fun σ _ _ _ h q => ha _ _ _ _ (fun _ _ q => hb _ _ _ _ (fun _ _ ⟨x, o, e, g, q⟩ => ⟨x, o, e, g, h _ _ q⟩) q) q
theorem mono_B {a : TE} (ha : MonoE a) : MonoC (tB a) := fun _ _ _ _ h q => ha _ _ _ _ (fun _ _ ⟨c, e, q⟩ => ⟨c, e, h _ _ q⟩) q
theorem mono_test {a : TE} (ha : MonoE a) : MonoC (tTest a) := fun _ _ _ _ h q => ha _ _ _ _ (fun _ _ ⟨c, e, q⟩ => ⟨c, e, h _ _ q⟩) q
theorem mono_and {a b : TT} (ha : MonoC a) (hb : MonoC b) : MonoC (tAnd a b) := fun _ _ _ _ h q => ha _ _ _ _ (fun c _ q => by
  cases c with
  | true => exact hb _ _ _ _ h q
  | false => exact h _ _ q) q
def MonoA (t : TA) : Prop := ∀ σ H (Q Q' : List V → Hp → Prop), (∀ v H1, Q v H1 → Q' v H1) → t σ H Q → t σ H Q'
def MonoL (r : List V → Hp → VK → Prop) : Prop := ∀ vs H (Q Q' : VK), (∀ v H1, Q v H1 → Q' v H1) → r vs H Q → r vs H Q'
theorem mono_nil : MonoA tNil := fun _ _ _ _ h q => h _ _ q
theorem mono_cons {t : TE} {u : TA} (a : MonoE t) (b : MonoA u) : MonoA (tCons t u) := fun _ _ _ _ h q => a _ _ _ _ (fun _ _ q => b _ _ _ _ (fun _ _ q => h _ _ q) q) q
theorem mono_cb {r : List V → Hp → VK → Prop} {t : TA} (hr : MonoL r) (a : MonoA t) : MonoE (tCB r t) := fun _ _ _ _ h q => a _ _ _ _ (fun _ _ q => hr _ _ _ _ h q) q
theorem mono_eq : MonoR rEq := fun _ _ _ _ _ h ⟨a, q⟩ => ⟨a, h _ _ q⟩
theorem mono_int : MonoL (fun xs H Q => (∃ i, xs = [.int i] ∧ Q (.int i) H) ∨ ∃ k, xs = [.bl k] ∧ Q (.int (if k then 1 else 0)) H) := fun _ _ _ _ h q => q.elim (fun ⟨i, e, q⟩ => .inl ⟨i, e, h _ _ q⟩) fun ⟨i, e, q⟩ => .inr ⟨i, e, h _ _ q⟩
end Kr
namespace Kr
open PySem PySem.Spec PyProof.Rows L2
/-! ### terms of programs -/
inductive Tm where
  | doo (d : Mv)
  | part (j : Nat)
  | row (ts : List Tm)
  | back (t : Tm)
  | times (t : Tm) (k : Nat)
mutual
def tmD : Tm → PyData
  | .doo d => .tuple [.str "do", deedD d]
  | .part j => .tuple [.str "part", .int (j : Int)]
  | .row ts => .tuple [.str "row", .tuple (tmDs ts)]
  | .back t => .tuple [.str "back", tmD t]
  | .times t k => .tuple [.str "times", tmD t, .int (k : Int)]
def tmDs : List Tm → List PyData
  | [] => []
  | t :: ts => tmD t :: tmDs ts
end
mutual
def dep : Tm → Nat
  | .doo _ => 1
  | .part _ => 1
  | .row ts => depL ts + 1
  | .back t => dep t + 1
  | .times t _ => dep t + 1
def depL : List Tm → Nat
  | [] => 0
  | t :: ts => max (dep t) (depL ts)
end
theorem tmDs_map : ∀ ts : List Tm, tmDs ts = ts.map tmD
  | [] => rfl
  | t :: ts => by
    simp only [tmDs, List.map_cons]
    rw [tmDs_map ts]
theorem depL_le : ∀ {ts : List Tm} {t : Tm}, t ∈ ts → dep t ≤ depL ts
  | u :: ts, t, h => by
    simp only [depL]
    rcases List.mem_cons.mp h with rfl | h
    · exact Nat.le_max_left _ _
    · exact Nat.le_trans (depL_le h) (Nat.le_max_right _ _)
/-- what a measure tells -/
structure Mea (α : Type) where
  oD : Mv → α
  oR : List α → α
  oB : α → α
  oT : α → Nat → α
section
variable {α : Type}
mutual
def worth (M : Mea α) (ws : List α) : Tm → α
  | .doo d => M.oD d
  | .part j => ws.getD j (M.oR [])
  | .row ts => M.oR (worthL M ws ts)
  | .back t => M.oB (worth M ws t)
  | .times t k => M.oT (worth M ws t) k
def worthL (M : Mea α) (ws : List α) : List Tm → List α
  | [] => []
  | t :: ts => worth M ws t :: worthL M ws ts
end
theorem worthL_map (M : Mea α) (ws : List α) : ∀ ts : List Tm, worthL M ws ts = ts.map (worth M ws)
  | [] => rfl
  | t :: ts => by
    simp only [worthL, List.map_cons]
    rw [worthL_map M ws ts]
mutual
/-- a term that may stand behind k others, of deeds that are right, its rows of at most r terms -/
def okTm (D : Mv → Prop) (r k : Nat) : Tm → Prop
  | .doo d => D d
  | .part j => j < k
  | .row ts => ts.length ≤ r ∧ okTms D r k ts
  | .back t => okTm D r k t
  | .times t n => n ≤ 10 ^ 30 ∧ okTm D r k t
def okTms (D : Mv → Prop) (r k : Nat) : List Tm → Prop
  | [] => True
  | t :: ts => okTm D r k t ∧ okTms D r k ts
end
theorem okTms_mem {D : Mv → Prop} {r k : Nat} : ∀ {ts : List Tm}, okTms D r k ts → ∀ t ∈ ts, okTm D r k t
  | [], _, _, h => nomatch h
  | u :: ts, h, t, ht => by
    simp only [okTms] at h
    rcases List.mem_cons.mp ht with rfl | ht
    · exact h.1
    · exact okTms_mem h.2 t ht
/-- a measure, its worths as values, its object -/
structure MeaR (α : Type) extends Mea α where
  rep : α → V → Hp → Prop
  flds : List (Str × V) → Prop
  ok : α → Prop
  okD : Mv → Prop
  most : Nat
  up : ∀ {a : α} {v : V} {H H' : Hp}, TS H H' → rep a v H → rep a v H'
  cD : ∀ {d : Mv}, okD d → ok (oD d)
  cR : ∀ {as : List α}, (∀ a ∈ as, ok a) → as.length ≤ most → ok (oR as)
  cB : ∀ {a : α}, ok a → ok (oB a)
  cT : ∀ {a : α} {k : Nat}, ok a → k ≤ 10 ^ 30 → ok (oT a k)
  nD : ∀ {fs}, flds fs → fs.lookup ("of_deed" : Str) = none
  nR : ∀ {fs}, flds fs → fs.lookup ("of_row" : Str) = none
  nB : ∀ {fs}, flds fs → fs.lookup ("of_back" : Str) = none
  nT : ∀ {fs}, flds fs → fs.lookup ("of_times" : Str) = none
def MeaR.obj (R : MeaR α) (C : Addr) (m : V) (H : Hp) : Prop := ∃ a dx fs, m = .ref a ∧ H a = some (.ins C dx fs) ∧ R.flds fs
theorem MeaR.objUp {R : MeaR α} {C : Addr} {m : V} {H H' : Hp} (h : R.obj C m H) (s : Same H H') : R.obj C m H' := let ⟨a, dx, fs, e, f, g⟩ := h; ⟨a, dx, fs, e, s _ _ f, g⟩
def MeaR.spD (R : MeaR α) (C : Addr) : Sp := fun vs H Q _ => ∃ (m v : V) (d : Mv), vs = [m, v] ∧ R.obj C m H ∧ Dq H v (deedD d) ∧ R.okD d ∧ ∀ H' r, Same H H' → R.rep (R.oD d) r H' → Q r H'
def MeaR.spR (R : MeaR α) (C : Addr) : Sp := fun vs H Q _ => ∃ (m : V) (a : Addr) (us : List V) (as : List α), vs = [m, .ref a] ∧ R.obj C m H ∧ H a = some (.lst us) ∧ us.length = as.length ∧ as.length ≤ R.most ∧ (∀ (i : Nat) u x, us[i]? = some u → as[i]? = some x → R.rep x u H) ∧ (∀ x ∈ as, R.ok x) ∧ ∀ H' r, Same H H' → R.rep (R.oR as) r H' → Q r H'
def MeaR.spB (R : MeaR α) (C : Addr) : Sp := fun vs H Q _ => ∃ (m v : V) (x : α), vs = [m, v] ∧ R.obj C m H ∧ R.rep x v H ∧ R.ok x ∧ ∀ H' r, Same H H' → R.rep (R.oB x) r H' → Q r H'
def MeaR.spT (R : MeaR α) (C : Addr) : Sp := fun vs H Q _ => ∃ (m v : V) (x : α) (k : Nat), vs = [m, v, .int (k : Int)] ∧ R.obj C m H ∧ R.rep x v H ∧ R.ok x ∧ k ≤ 10 ^ 30 ∧ ∀ H' r, Same H H' → R.rep (R.oT x k) r H' → Q r H'
mutual
theorem worth_ok (R : MeaR α) {ws : List α} (hw : ∀ a ∈ ws, R.ok a) : ∀ t : Tm, okTm R.okD R.most ws.length t → R.ok (worth R.toMea ws t)
  | .doo d, h => by
    simp only [okTm] at h
    simp only [worth]
    exact R.cD h
  | .part j, h => by
    simp only [okTm] at h
    simp only [worth]
    rw [List.getD_eq_getElem?_getD, List.getElem?_eq_getElem h]
    exact hw _ (List.getElem_mem h)
  | .row ts, h => by
    simp only [okTm] at h
    simp only [worth]
    refine R.cR (worthL_ok R hw ts h.2) ?_
    rw [worthL_map, List.length_map]
    exact h.1
  | .back t, h => by
    simp only [okTm] at h
    simp only [worth]
    exact R.cB (worth_ok R hw t h)
  | .times t k, h => by
    simp only [okTm] at h
    simp only [worth]
    exact R.cT (worth_ok R hw t h.2) h.1
theorem worthL_ok (R : MeaR α) {ws : List α} (hw : ∀ a ∈ ws, R.ok a) : ∀ ts : List Tm, okTms R.okD R.most ws.length ts → ∀ x ∈ worthL R.toMea ws ts, R.ok x
  | [], _, x, h => by
    simp only [worthL] at h
    exact nomatch h
  | t :: ts, h, x, hx => by
    simp only [okTms] at h
    simp only [worthL] at hx
    rcases List.mem_cons.mp hx with rfl | hx
    · exact worth_ok R hw t h.1
    · exact worthL_ok R hw ts h.2 x hx
end
end
end Kr
namespace Kr
open PySem PySem.Spec PyProof.Rows L2
mutual
theorem tm_flat : ∀ t : Tm, flatT (tmD t) = true
  | .doo d => by simp [tmD, flatT, flatTA, deed_flat]
  | .part j => by simp [tmD, flatT, flatTA]
  | .row ts => by simp [tmD, flatT, flatTA, tms_flat ts]
  | .back t => by simp [tmD, flatT, flatTA, tm_flat t]
  | .times t k => by simp [tmD, flatT, flatTA, tm_flat t]
theorem tms_flat : ∀ ts : List Tm, flatTA (tmDs ts) = true
  | [] => by simp [tmDs, flatTA]
  | t :: ts => by simp [tmDs, flatTA, tm_flat t, tms_flat ts]
end
theorem okTms_of {D : Mv → Prop} {r k : Nat} : ∀ {ts : List Tm}, (∀ t ∈ ts, okTm D r k t) → okTms D r k ts
  | [], _ => by simp [okTms]
  | t :: ts, h => by
    simp only [okTms]
    exact ⟨h t List.mem_cons_self, okTms_of fun x hx => h x (List.mem_cons_of_mem _ hx)⟩
theorem depL_of {m : Nat} : ∀ {ts : List Tm}, (∀ t ∈ ts, dep t ≤ m) → depL ts ≤ m
  | [], _ => Nat.zero_le _
  | t :: ts, h => by
    simp only [depL]
    exact Nat.max_le.mpr ⟨h t List.mem_cons_self, depL_of fun x hx => h x (List.mem_cons_of_mem _ hx)⟩
theorem joinC7 {c : TT} {σ : L2.St} {H : Hp} {Q : Bool → Hp → Prop} (R : Bool → Hp → Prop) (h : ∀ b G, R b G → Q b G) (hc : ∀ Q' : Bool → Hp → Prop, (∀ b G, R b G → Q' b G) → c σ H Q') : c σ H Q := hc Q h
end Kr
namespace Kr
open PySem PySem.Spec PyProof.Rows L2
def tyN : PyData → String
  | .none => "NoneType"
  | .bool _ => "bool"
  | .int _ => "int"
  | .str _ => "str"
  | .list _ => "list"
  | .tuple _ => "tuple"
  | .dict _ => "dict"
theorem Dq.ty {K : PySem.W.Frag} {H : Hp} {v : V} {d : PyData} (h : Dq H v d) : TyX K H v (.type (tyN d)) := by
  cases h with
  | non => exact .base .non
  | bl b => exact .base (.bl b)
  | int i => exact .base (.int i)
  | str x => exact .base (.str x)
  | lst e q => exact .base (.lst e)
  | tup e q => exact .base (.tup e)
  | dic e => exact .base (.dK e)
def isI : PyData → Bool
  | .int _ => true
  | .bool _ => true
  | _ => false
def isBo : PyData → Bool
  | .bool _ => true
  | _ => false
def isTu : PyData → Bool
  | .tuple _ => true
  | _ => false
theorem kit_int {K : PySem.W.Frag} : ∀ d : PyData, PySem.W.kitOne K (.type (tyN d)) (.type "int") = some (isI d)
  | .none => kit_ty (show kitB "NoneType" "int" = some false by decide +kernel)
  | .bool _ => kit_ty (show kitB "bool" "int" = some true by decide +kernel)
  | .int _ => kit_ty (show kitB "int" "int" = some true by decide +kernel)
  | .str _ => kit_ty (show kitB "str" "int" = some false by decide +kernel)
  | .list _ => kit_ty (show kitB "list" "int" = some false by decide +kernel)
  | .tuple _ => kit_ty (show kitB "tuple" "int" = some false by decide +kernel)
  | .dict _ => kit_ty (show kitB "dict" "int" = some false by decide +kernel)
theorem kit_bool {K : PySem.W.Frag} : ∀ d : PyData, PySem.W.kitOne K (.type (tyN d)) (.type "bool") = some (isBo d)
  | .none => kit_ty (show kitB "NoneType" "bool" = some false by decide +kernel)
  | .bool _ => kit_ty (show kitB "bool" "bool" = some true by decide +kernel)
  | .int _ => kit_ty (show kitB "int" "bool" = some false by decide +kernel)
  | .str _ => kit_ty (show kitB "str" "bool" = some false by decide +kernel)
  | .list _ => kit_ty (show kitB "list" "bool" = some false by decide +kernel)
  | .tuple _ => kit_ty (show kitB "tuple" "bool" = some false by decide +kernel)
  | .dict _ => kit_ty (show kitB "dict" "bool" = some false by decide +kernel)
theorem kit_tuple {K : PySem.W.Frag} : ∀ d : PyData, PySem.W.kitOne K (.type (tyN d)) (.type "tuple") = some (isTu d)
  | .none => kit_ty (show kitB "NoneType" "tuple" = some false by decide +kernel)
  | .bool _ => kit_ty (show kitB "bool" "tuple" = some false by decide +kernel)
  | .int _ => kit_ty (show kitB "int" "tuple" = some false by decide +kernel)
  | .str _ => kit_ty (show kitB "str" "tuple" = some false by decide +kernel)
  | .list _ => kit_ty (show kitB "list" "tuple" = some false by decide +kernel)
  | .tuple _ => kit_ty (show kitB "tuple" "tuple" = some true by decide +kernel)
  | .dict _ => kit_ty (show kitB "dict" "tuple" = some false by decide +kernel)
/-- an integer, no bool, within bounds -/
def isB (d : PyData) (lo hi : Int) : Bool := match d with
  | .int i => decide (lo ≤ i) && decide (i ≤ hi)
  | _ => false
/-- a tuple of so many items -/
def isT (d : PyData) (n : Int) : Bool := match d with
  | .tuple xs => decide ((xs.length : Int) = n)
  | _ => false
def spB : Sp := fun vs H Q _ => ∃ (v : V) (d : PyData) (lo hi : Int), vs = [v, .int lo, .int hi] ∧ Dq H v d ∧ Q (.bl (isB d lo hi)) H
def spT : Sp := fun vs H Q _ => ∃ (v : V) (d : PyData) (n : Int), vs = [v, .int n] ∧ Dq H v d ∧ Q (.bl (isT d n)) H
end Kr
namespace Kr
open PySem PySem.Spec PyProof.Rows L2
/-! ### tables turned back -/
theorem EntF.lies {n : Nat} {l : List Nat} {e : List Int} (h : EntF n l e) : Lies n (goalE n e) e := by
  refine ⟨h.len, fun y hy => ?_, fun x hx c => ?_, fun y z hy hz p q => ?_⟩
  · by_cases c : y ∈ l
    · exact .inl (h.key y hy c)
    · obtain ⟨p1, p2⟩ := h.off hy c
      have := h.rid y hy c
      exact .inr ⟨_, p1, p2, by omega⟩
  · obtain ⟨y, hy, _, e1⟩ := h.from hx c
    exact ⟨y, hy, e1⟩
  · have cy : y ∉ l := fun c => by rw [h.key y hy c] at p; omega
    have cz : z ∉ l := fun c => by rw [q, h.key z hz c] at p; omega
    exact h.inj y z hy hz cy cz q
/-- the entry that leads back -/
theorem EntF.back {n : Nat} {l : List Nat} {e : List Int} (hl : Asc 0 n l) (h : EntF n l e) : EntF n (goalE n e) (lawE n e) ∧ goalE n (lawE n e) = l := by
  refine ⟨h.lies.ent, asc_ext (goal_asc _ _) hl fun y => ?_⟩
  by_cases hy : y < n
  · rw [h.lies.goal hy]
    constructor
    · intro c
      refine Classical.byContradiction fun k => c (h.rid y hy k).1
    · intro k
      rw [h.key y hy k]
      decide
  · exact ⟨fun c => absurd (mem_goal.mp c).1 hy, fun c => absurd (by have := (hl.2 y c).2; omega) hy⟩
theorem back_at {n : Nat} {l : List Nat} {e : List Int} (h : EntF n l e) {x : Nat} (hx : x < n) (c : x ∉ l) : (lawE n e).getD (e.getD x 0).toNat 0 = (x : Int) := by
  obtain ⟨p1, p2⟩ := h.off hx c
  have := h.rid x hx c
  exact h.lies.put p1 hx (by omega)
theorem cmp_back {n : Nat} {l : List Nat} {e : List Int} (h : EntF n l e) : cmpE e (lawE n e) = byE l (ups n) := by
  refine list_ext (n := n) (by unfold cmpE; rw [List.length_map, h.len]) (by rw [byE_len, ups_len]) fun x hx => ?_
  rw [cmp_at (by rw [h.len]; exact hx), byE_at (by rw [ups_len]; exact hx)]
  by_cases c : x ∈ l
  · rw [if_pos c, (h.neg hx).mpr c, if_pos rfl]
  · rw [if_neg c, if_neg (fun z => c ((h.neg hx).mp z)), back_at h hx c, ups_at hx]
theorem back_back {n : Nat} {l : List Nat} {e : List Int} (hl : Asc 0 n l) (h : EntF n l e) : lawE n (lawE n e) = e := by
  obtain ⟨g, eg⟩ := h.back hl
  obtain ⟨k, ek⟩ := g.back (goal_asc _ _)
  rw [eg] at k
  refine list_ext (n := n) (lawE_len _ _) h.len fun x hx => ?_
  by_cases c : x ∈ l
  · rw [k.key x hx c, h.key x hx c]
  · obtain ⟨p1, p2⟩ := h.off hx c
    have e1 := back_at g p1 p2
    rw [back_at h hx c, Int.toNat_natCast] at e1
    have := h.rid x hx c
    rw [e1]
    omega
theorem back_cmp {n : Nat} {l : List Nat} {e : List Int} (hl : Asc 0 n l) (h : EntF n l e) : cmpE (lawE n e) e = byE (goalE n e) (ups n) := by
  have := cmp_back (h.back hl).1
  rwa [back_back hl h] at this
/-- the lot that is led to g -/
def srcL (n : Nat) (T : List (List Int)) (g : List Nat) : List Nat := ((allL n).find? fun l => decide (goalE n (en n T l) = g)).getD []
def turnT (n : Nat) (T : List (List Int)) : List (List Int) := (allL n).map fun g => lawE n (en n T (srcL n T g))
section
variable {n : Nat} {T U : List (List Int)}
theorem TabOk.src (hn : n ≤ 6) (h : TabOk n T) {g : List Nat} (hg : g ∈ allL n) : srcL n T g ∈ allL n ∧ goalE n (en n T (srcL n T g)) = g := by
  have hm : g ∈ (allL n).map fun l => goalE n (en n T l) := (h.goalp hn).symm.subset hg
  obtain ⟨l, hl, e⟩ := List.mem_map.mp hm
  unfold srcL
  cases hf : (allL n).find? fun l => decide (goalE n (en n T l) = g) with
  | none =>
    have := List.find?_eq_none.mp hf l hl
    exact absurd (decide_eq_true e) this
  | some z =>
    have p := List.find?_some hf
    exact ⟨List.mem_of_find?_eq_some hf, of_decide_eq_true p⟩
theorem TabOk.src_goal (hn : n ≤ 6) (h : TabOk n T) {l : List Nat} (hl : l ∈ allL n) : srcL n T (goalE n (en n T l)) = l := by
  obtain ⟨h1, h2⟩ := h.src hn (goal_all hn (en n T l))
  exact h.gl_inj' hn h1 hl h2
theorem en_turn (hn : n ≤ 6) {g : List Nat} (hg : g ∈ allL n) : en n (turnT n T) g = lawE n (en n T (srcL n T g)) := en_map hn hg
theorem TabOk.turn_ent (hn : n ≤ 6) (h : TabOk n T) {g : List Nat} (hg : g ∈ allL n) : EntF n g (lawE n (en n T (srcL n T g))) ∧ goalE n (lawE n (en n T (srcL n T g))) = srcL n T g := by
  obtain ⟨h1, h2⟩ := h.src hn hg
  have := (h.ent hn h1).back (all_ascL hn _ h1)
  rwa [h2] at this
theorem TabOk.turn (hn : n ≤ 6) (h : TabOk n T) : TabOk n (turnT n T) := by
  refine TabOk.of_map hn (fun g hg => (h.turn_ent hn hg).1) ?_
  have e : ((allL n).map fun g => goalE n (lawE n (en n T (srcL n T g)))) = (allL n).map (srcL n T) := List.map_congr_left fun g hg => (h.turn_ent hn hg).2
  rw [e]
  have p := ((h.goalp hn).symm.map (srcL n T))
  refine p.trans (List.Perm.of_eq ?_)
  rw [List.map_map]
  exact (List.map_congr_left fun l hl => h.src_goal hn hl).trans (List.map_id _)
theorem both_turn (hn : n ≤ 6) (h : TabOk n T) : bothT n T (turnT n T) = stillT n := by
  rw [both_map hn h]
  refine List.map_congr_left fun l hl => ?_
  rw [en_turn hn (goal_all hn _), h.src_goal hn hl]
  exact cmp_back (h.ent hn hl)
theorem turn_both (hn : n ≤ 6) (h : TabOk n T) : bothT n (turnT n T) T = stillT n := by
  rw [both_map hn (h.turn hn)]
  refine List.map_congr_left fun g hg => ?_
  obtain ⟨h1, h2⟩ := h.src hn hg
  rw [en_turn hn hg, (h.turn_ent hn hg).2]
  have := back_cmp (all_ascL hn _ h1) (h.ent hn h1)
  rwa [h2] at this
theorem inv_one (hn : n ≤ 6) (h : TabOk n T) {W : List (List Int)} (hW : TabOk n W) (e : bothT n T W = stillT n) : W = turnT n T := by
  rw [← still_both hn hW, ← turn_both hn h, both_assoc hn (h.turn hn) h hW, e, both_still hn (h.turn hn)]
theorem turn_turn (hn : n ≤ 6) (h : TabOk n T) : turnT n (turnT n T) = T := (inv_one hn (h.turn hn) h (turn_both hn h)).symm
theorem turn_of_both (hn : n ≤ 6) (h : TabOk n T) (g : TabOk n U) : turnT n (bothT n T U) = bothT n (turnT n U) (turnT n T) := by
  refine (inv_one hn (h.both hn g) ((g.turn hn).both hn (h.turn hn)) ?_).symm
  rw [both_assoc hn h g ((g.turn hn).both hn (h.turn hn)), ← both_assoc hn g (g.turn hn) (h.turn hn), both_turn hn g, still_both hn (h.turn hn), both_turn hn h]
/-! ### lists that are filled place by place -/
def putAll {α : Type} (ps : List (Nat × α)) (L : List α) : List α := ps.foldl (fun L p => L.set p.1 p.2) L
theorem putAll_len {α : Type} : ∀ (ps : List (Nat × α)) (L : List α), (putAll ps L).length = L.length
  | [], _ => rfl
  | p :: ps, L => by
    unfold putAll
    rw [List.foldl_cons]
    exact (putAll_len ps _).trans List.length_set
theorem putAll_keep {α : Type} {i : Nat} : ∀ (ps : List (Nat × α)) (L : List α), (∀ p ∈ ps, p.1 ≠ i) → (putAll ps L)[i]? = L[i]?
  | [], _, _ => rfl
  | p :: ps, L, h => by
    unfold putAll
    rw [List.foldl_cons]
    refine (putAll_keep ps _ fun q hq => h q (List.mem_cons_of_mem _ hq)).trans ?_
    exact List.getElem?_set_ne (h p List.mem_cons_self)
theorem putAll_at {α : Type} {i : Nat} {v : α} : ∀ (ps : List (Nat × α)) (L : List α), (ps.map (·.1)).Nodup → (i, v) ∈ ps → i < L.length → (putAll ps L)[i]? = some v
  | p :: ps, L, nd, h, hi => by
    have nd2 : p.1 ∉ ps.map (·.1) ∧ (ps.map (·.1)).Nodup := by simpa using nd
    unfold putAll
    rw [List.foldl_cons]
    rcases List.mem_cons.mp h with c | c
    · subst c
      refine (putAll_keep ps _ fun q hq z => nd2.1 (List.mem_map.mpr ⟨q, hq, z⟩)).trans ?_
      exact List.getElem?_set_self hi
    · exact putAll_at ps _ nd2.2 c (by rw [List.length_set]; exact hi)
theorem putAll_snoc {α : Type} (ps : List (Nat × α)) (p : Nat × α) (L : List α) : putAll (ps ++ [p]) L = (putAll ps L).set p.1 p.2 := by
  unfold putAll
  rw [List.foldl_append]
  rfl
theorem putAll_mem {α : Type} {d : α} : ∀ (ps : List (Nat × α)) (L : List α), d ∈ putAll ps L → d ∈ L ∨ ∃ p ∈ ps, d = p.2
  | [], _, h => .inl h
  | p :: ps, L, h => by
    unfold putAll at h
    rw [List.foldl_cons] at h
    rcases putAll_mem ps _ h with c | ⟨q, hq, e⟩
    · rcases List.mem_or_eq_of_mem_set c with k | k
      · exact .inl k
      · exact .inr ⟨p, List.mem_cons_self, k⟩
    · exact .inr ⟨q, List.mem_cons_of_mem _ hq, e⟩
def backP (n : Nat) (e : List Int) : Nat × PyData := (num n (goalE n e), entD (lawE n e))
theorem put_flat (n k : Nat) (T : List (List Int)) : flatTA (putAll (T.map (backP n)) (List.replicate k (.tuple []))) = true := flatTA_of fun d hd => by
  rcases putAll_mem _ _ hd with c | ⟨p, hp, rfl⟩
  · rw [List.eq_of_mem_replicate c]
    rfl
  · obtain ⟨e, _, rfl⟩ := List.mem_map.mp hp
    exact ent_flat _
theorem turn_put (hn : n ≤ 6) (h : TabOk n T) : putAll (T.map (backP n)) (List.replicate (2 ^ n) (.tuple [])) = (turnT n T).map entD := by
  have hT := h.map hn
  have nd : ((T.map (backP n)).map (·.1)).Nodup := by
    rw [List.map_map]
    have e : (T.map ((fun x : Nat × PyData => x.1) ∘ backP n)) = (T.map (goalE n)).map (num n) := by rw [List.map_map]; rfl
    rw [e]
    have := (h.goals.map (num n))
    rw [lots_nums n (by omega)] at this
    exact this.symm.nodup List.nodup_range
  refine List.ext_getElem? fun i => ?_
  by_cases hi : i < 2 ^ n
  · obtain ⟨g, hg⟩ : ∃ g, (allL n)[i]? = some g := ⟨_, List.getElem?_eq_getElem (by rw [all_len n (by omega)]; exact hi)⟩
    have hga := List.mem_of_getElem? hg
    obtain ⟨h1, h2⟩ := h.src hn hga
    have hmem : (i, entD (lawE n (en n T (srcL n T g)))) ∈ T.map (backP n) := by
      refine List.mem_map.mpr ⟨en n T (srcL n T g), List.mem_of_getElem? (h.get hn h1), ?_⟩
      unfold backP
      rw [h2, (all_num_at hn hg).1]
    rw [putAll_at _ _ nd hmem (by rw [List.length_replicate]; exact hi)]
    unfold turnT
    rw [List.getElem?_map, List.getElem?_map, hg]
    rfl
  · rw [List.getElem?_eq_none (by rw [putAll_len, List.length_replicate]; omega), List.getElem?_eq_none (by rw [List.length_map, (h.turn hn).len hn]; omega)]
end
def spUndone : Sp := fun vs H Q _ => ∃ (n : Nat) (v : V) (T : List (List Int)), vs = [.int (n : Int), v] ∧ n ≤ 6 ∧ Dq H v (tabD T) ∧ TabOk n T ∧ ∀ H' r, Same H H' → Dq H' r (tabD (turnT n T)) → Q r H'
def spTurnB : Sp := fun vs H Q _ => ∃ (n : Nat) (a : Addr) (l : List Nat) (e : List Int), vs = [.ref a] ∧ n ≤ 6 ∧ H a = some (.tup (e.map V.int)) ∧ EntF n l e ∧ ∀ H' t, Same H H' → H' t = some (.tup ((lawE n e).map V.int)) → Q (.ref t) H'
end Kr
namespace Kr
open PySem PySem.Spec PyProof.Rows L2
/-! ### the rounds of a table's riders -/
abbrev Pr := Nat × Nat
def lotI (n i : Nat) : List Nat := (allL n).getD i []
/-- a lot's number, and a place without a key -/
def prs (n : Nat) : List Pr := (List.range (2 ^ n)).flatMap fun i => ((List.range n).filter fun x => !decide (x ∈ lotI n i)).map fun x => (i, x)
def stp (n : Nat) (T : List (List Int)) (p : Pr) : Pr := (num n (goalE n (T.getD p.1 [])), ((T.getD p.1 []).getD p.2 0).toNat)
def itr (S : Pr → Pr) : Nat → Pr → Pr
  | 0, p => p
  | k + 1, p => itr S k (S p)
theorem itr_add (S : Pr → Pr) : ∀ (a b : Nat) (p : Pr), itr S (a + b) p = itr S b (itr S a p)
  | 0, b, p => by rw [Nat.zero_add]; rfl
  | a + 1, b, p => by
    rw [Nat.add_right_comm]
    exact itr_add S a b (S p)
theorem itr_succ (S : Pr → Pr) (k : Nat) (p : Pr) : itr S (k + 1) p = S (itr S k p) := itr_add S k 1 p
theorem itr_fix {S : Pr → Pr} {m : Nat} {p : Pr} (h : itr S m p = p) : ∀ q, itr S (m * q) p = p
  | 0 => rfl
  | q + 1 => by rw [Nat.mul_succ, itr_add, itr_fix h q, h]
theorem mem_prs {n : Nat} {p : Pr} : p ∈ prs n ↔ p.1 < 2 ^ n ∧ p.2 < n ∧ p.2 ∉ lotI n p.1 := by
  unfold prs
  rw [List.mem_flatMap]
  constructor
  · rintro ⟨i, hi, h⟩
    obtain ⟨x, hx, rfl⟩ := List.mem_map.mp h
    obtain ⟨h1, h2⟩ := List.mem_filter.mp hx
    exact ⟨List.mem_range.mp hi, List.mem_range.mp h1, by simpa using h2⟩
  · rintro ⟨h1, h2, h3⟩
    exact ⟨p.1, List.mem_range.mpr h1, List.mem_map.mpr ⟨p.2, List.mem_filter.mpr ⟨List.mem_range.mpr h2, by simpa using h3⟩, rfl⟩⟩
theorem prs_len : ∀ n : Nat, n < 7 → (prs n).length ≤ 192 := by decide +kernel
theorem sub_len {α : Type} [DecidableEq α] : ∀ {C L : List α}, C.Nodup → (∀ x ∈ C, x ∈ L) → C.length ≤ L.length
  | [], _, _, _ => Nat.zero_le _
  | c :: C, L, nd, h => by
    obtain ⟨h1, h2⟩ := List.nodup_cons.mp nd
    have hc := h c List.mem_cons_self
    have := sub_len (L := L.erase c) h2 fun x hx => (List.mem_erase_of_ne (fun (z : x = c) => h1 (by rw [← z]; exact hx))).mpr (h x (List.mem_cons_of_mem _ hx))
    rw [List.length_erase_of_mem hc] at this
    have := List.length_pos_of_mem hc
    rw [List.length_cons]
    omega
section
variable {n : Nat} {T U : List (List Int)}
theorem lot_get (hn : n ≤ 6) {i : Nat} (hi : i < 2 ^ n) : (allL n)[i]? = some (lotI n i) := by
  have : i < (allL n).length := by rw [all_len n (by omega)]; exact hi
  unfold lotI
  rw [List.getD_eq_getElem?_getD, List.getElem?_eq_getElem this]
  rfl
theorem lot_num (hn : n ≤ 6) {i : Nat} (hi : i < 2 ^ n) : num n (lotI n i) = i := (all_num_at hn (lot_get hn hi)).1
theorem lot_mem (hn : n ≤ 6) {i : Nat} (hi : i < 2 ^ n) : lotI n i ∈ allL n := List.mem_of_getElem? (lot_get hn hi)
theorem lot_of_num (hn : n ≤ 6) {l : List Nat} (hl : l ∈ allL n) : lotI n (num n l) = l := by
  have h := all_at hn hl
  unfold lotI
  rw [List.getD_eq_getElem?_getD, h]
  rfl
theorem en_at (hn : n ≤ 6) {i : Nat} (hi : i < 2 ^ n) (T : List (List Int)) : en n T (lotI n i) = T.getD i [] := by
  unfold en
  rw [lot_num hn hi]
theorem TabOk.at_i (hn : n ≤ 6) (h : TabOk n T) {i : Nat} (hi : i < 2 ^ n) : EntF n (lotI n i) (T.getD i []) := by
  rw [← en_at hn hi]
  exact h.ent hn (lot_mem hn hi)
theorem stp_in (hn : n ≤ 6) (h : TabOk n T) {p : Pr} (hp : p ∈ prs n) : stp n T p ∈ prs n := by
  obtain ⟨h1, h2, h3⟩ := mem_prs.mp hp
  have hE := h.at_i hn h1
  have hg := goal_all hn (T.getD p.1 [])
  refine mem_prs.mpr ⟨all_num hn hg, ?_⟩
  show ((T.getD p.1 []).getD p.2 0).toNat < n ∧ ((T.getD p.1 []).getD p.2 0).toNat ∉ lotI n (num n (goalE n (T.getD p.1 [])))
  rw [lot_of_num hn hg]
  exact hE.off h2 h3
theorem stp_inj (hn : n ≤ 6) (h : TabOk n T) {p q : Pr} (hp : p ∈ prs n) (hq : q ∈ prs n) (e : stp n T p = stp n T q) : p = q := by
  obtain ⟨h1, h2, h3⟩ := mem_prs.mp hp
  obtain ⟨g1, g2, g3⟩ := mem_prs.mp hq
  have e1 : num n (goalE n (T.getD p.1 [])) = num n (goalE n (T.getD q.1 [])) := congrArg Prod.fst e
  have e2 : ((T.getD p.1 []).getD p.2 0).toNat = ((T.getD q.1 []).getD q.2 0).toNat := congrArg Prod.snd e
  have eg : goalE n (T.getD p.1 []) = goalE n (T.getD q.1 []) := by
    rw [← lot_of_num hn (goal_all hn (T.getD p.1 [])), e1, lot_of_num hn (goal_all hn _)]
  rw [← en_at hn h1, ← en_at hn g1] at eg
  have el := h.gl_inj' hn (lot_mem hn h1) (lot_mem hn g1) eg
  have ei : p.1 = q.1 := by rw [← lot_num hn h1, el, lot_num hn g1]
  have hE := h.at_i hn h1
  rw [← ei] at e2 g3
  have r1 := hE.rid p.2 h2 h3
  have r2 := hE.rid q.2 g2 g3
  have := hE.inj p.2 q.2 h2 g2 h3 g3 (by omega)
  exact Prod.ext ei this
theorem itr_in (hn : n ≤ 6) (h : TabOk n T) : ∀ (k : Nat) {p : Pr}, p ∈ prs n → itr (stp n T) k p ∈ prs n
  | 0, _, hp => hp
  | k + 1, _, hp => itr_in hn h k (stp_in hn h hp)
theorem itr_inj (hn : n ≤ 6) (h : TabOk n T) : ∀ (k : Nat) {p q : Pr}, p ∈ prs n → q ∈ prs n → itr (stp n T) k p = itr (stp n T) k q → p = q
  | 0, _, _, _, _, e => e
  | k + 1, _, _, hp, hq, e => stp_inj hn h hp hq (itr_inj hn h k (stp_in hn h hp) (stp_in hn h hq) e)
end
/-! ### rounds -/
structure Cyc (S : Pr → Pr) (C : List Pr) : Prop where
  ne : 0 < C.length
  nd : C.Nodup
  st : ∀ i p, C[i]? = some p → C[(i + 1) % C.length]? = some (S p)
theorem Cyc.at_ {S : Pr → Pr} {C : List Pr} (h : Cyc S C) : ∀ (k i : Nat) (p : Pr), C[i]? = some p → C[(i + k) % C.length]? = some (itr S k p)
  | 0, i, p, e => by
    have := (List.getElem?_eq_some_iff.mp e).1
    rw [Nat.add_zero, Nat.mod_eq_of_lt this]
    exact e
  | k + 1, i, p, e => by
    have := h.at_ k _ _ (h.st i p e)
    rw [Nat.mod_add_mod] at this
    rw [show i + (k + 1) = i + 1 + k by omega]
    exact this
theorem nd_ix {α : Type} {C : List α} (nd : C.Nodup) {i j : Nat} {x : α} (hi : C[i]? = some x) (hj : C[j]? = some x) : i = j := by
  obtain ⟨a1, a2⟩ := List.getElem?_eq_some_iff.mp hi
  obtain ⟨b1, b2⟩ := List.getElem?_eq_some_iff.mp hj
  have pw : C.Pairwise (· ≠ ·) := nd
  rw [List.pairwise_iff_getElem] at pw
  rcases Nat.lt_trichotomy i j with c | c | c
  · exact absurd (a2.trans b2.symm) (pw i j a1 b1 c)
  · exact c
  · exact absurd (b2.trans a2.symm) (pw j i b1 a1 c)
theorem Cyc.fix {S : Pr → Pr} {C : List Pr} (h : Cyc S C) {p : Pr} (hp : p ∈ C) (m : Nat) : itr S m p = p ↔ C.length ∣ m := by
  obtain ⟨i, hi⟩ := List.getElem?_of_mem hp
  have hl := (List.getElem?_eq_some_iff.mp hi).1
  have e := h.at_ m i p hi
  constructor
  · intro z
    rw [z] at e
    have e1 := nd_ix h.nd e hi
    have e2 : (i + m) % C.length = i % C.length := by rw [e1, Nat.mod_eq_of_lt hl]
    have := (Nat.sub_mod_eq_zero_of_mod_eq e2)
    rw [Nat.add_sub_cancel_left] at this
    exact Nat.dvd_of_mod_eq_zero this
  · rintro ⟨q, rfl⟩
    rw [Nat.add_mul_mod_self_left, Nat.mod_eq_of_lt hl, hi] at e
    exact (Option.some.inj e).symm
/-! ### any number of times -/
def fac : Nat → Nat
  | 0 => 1
  | n + 1 => (n + 1) * fac n
theorem fac_pos : ∀ n, 0 < fac n
  | 0 => Nat.one_pos
  | n + 1 => Nat.mul_pos (Nat.succ_pos n) (fac_pos n)
theorem dvd_fac {m : Nat} (h0 : 0 < m) : ∀ {n : Nat}, m ≤ n → m ∣ fac n
  | 0, h => absurd h0 (by omega)
  | n + 1, h => by
    unfold fac
    by_cases e : m = n + 1
    · rw [e]
      exact Nat.dvd_mul_right _ _
    · exact Nat.dvd_mul_left_of_dvd (dvd_fac h0 (by omega)) _
def bigN : Nat := fac 192
theorem bigN_pos : 0 < bigN := fac_pos _
theorem dvd_big {m : Nat} (h0 : 0 < m) (h : m ≤ 192) : m ∣ bigN := dvd_fac h0 h
def powS (S : Pr → Pr) (k : Int) (p : Pr) : Pr := itr S (k % (bigN : Int)).toNat p
theorem mod_big {m : Nat} (hm : m ∣ bigN) (s : Nat) (k : Int) : (((s : Int) + k) % (m : Int)).toNat = (s + (k % (bigN : Int)).toNat) % m := by
  have hb : (0 : Int) < bigN := by have := bigN_pos; omega
  have h0 := Int.emod_nonneg k (show (bigN : Int) ≠ 0 by omega)
  have e1 : (((k % (bigN : Int)).toNat : Nat) : Int) = k % (bigN : Int) := Int.toNat_of_nonneg h0
  have hd : (m : Int) ∣ (bigN : Int) := Int.natCast_dvd_natCast.mpr hm
  have e2 : (k % (bigN : Int)) % (m : Int) = k % (m : Int) := Int.emod_emod_of_dvd k hd
  have e3 : (((s + (k % (bigN : Int)).toNat) % m : Nat) : Int) = ((s : Int) + k) % (m : Int) := by
    rw [Int.natCast_emod, Int.natCast_add, e1, Int.add_emod, e2, ← Int.add_emod]
  rw [← e3, Int.toNat_natCast]
theorem Cyc.pow {S : Pr → Pr} {C : List Pr} (h : Cyc S C) (hl : C.length ≤ 192) {s : Nat} {p : Pr} (hp : C[s]? = some p) (k : Int) : C[(((s : Int) + k) % (C.length : Int)).toNat]? = some (powS S k p) := by
  rw [mod_big (dvd_big h.ne hl)]
  exact h.at_ _ _ _ hp
section
variable {n : Nat} {T U : List (List Int)}
/-- each rider comes back -/
theorem itr_back (hn : n ≤ 6) (h : TabOk n T) {p : Pr} (hp : p ∈ prs n) : ∃ m, 0 < m ∧ m ≤ 192 ∧ itr (stp n T) m p = p := by
  apply Classical.byContradiction
  intro hno
  have ne : ∀ i j, i < j → j < 193 → itr (stp n T) i p ≠ itr (stp n T) j p := fun i j hij hj e => by
    rw [show j = (j - i) + i by omega, itr_add] at e
    exact hno ⟨j - i, by omega, by omega, (itr_inj hn h i hp (itr_in hn h _ hp) e).symm⟩
  have nd : ((List.range 193).map fun i => itr (stp n T) i p).Nodup := by
    show List.Pairwise (· ≠ ·) _
    rw [List.pairwise_map]
    exact List.Pairwise.imp_of_mem (fun {a b} ha hb hab => ne a b hab (List.mem_range.mp hb)) List.pairwise_lt_range
  have := sub_len nd fun x hx => by
    obtain ⟨i, _, rfl⟩ := List.mem_map.mp hx
    exact itr_in hn h i hp
  rw [List.length_map, List.length_range] at this
  have := prs_len n (by omega)
  omega
theorem itr_big (hn : n ≤ 6) (h : TabOk n T) {p : Pr} (hp : p ∈ prs n) : itr (stp n T) bigN p = p := by
  obtain ⟨m, m0, m1, e⟩ := itr_back hn h hp
  obtain ⟨q, hq⟩ := dvd_big m0 m1
  rw [hq]
  exact itr_fix e q
theorem itr_mod (hn : n ≤ 6) (h : TabOk n T) {p : Pr} (hp : p ∈ prs n) (m : Nat) : itr (stp n T) (m % bigN) p = itr (stp n T) m p := by
  have e := Nat.div_add_mod m bigN
  have : itr (stp n T) m p = itr (stp n T) (bigN * (m / bigN) + m % bigN) p := by rw [e]
  rw [this, itr_add, itr_fix (itr_big hn h hp)]
theorem powS_nat (hn : n ≤ 6) (h : TabOk n T) {p : Pr} (hp : p ∈ prs n) (m : Nat) : powS (stp n T) (m : Int) p = itr (stp n T) m p := by
  unfold powS
  rw [← Int.natCast_emod, Int.toNat_natCast, itr_mod hn h hp]
theorem powS_in (hn : n ≤ 6) (h : TabOk n T) {p : Pr} (hp : p ∈ prs n) (k : Int) : powS (stp n T) k p ∈ prs n := itr_in hn h _ hp
theorem powS_add (hn : n ≤ 6) (h : TabOk n T) {p : Pr} (hp : p ∈ prs n) (k l : Int) : powS (stp n T) l (powS (stp n T) k p) = powS (stp n T) (k + l) p := by
  unfold powS
  rw [← itr_add]
  have hb : (0 : Int) < bigN := by have := bigN_pos; omega
  have h1 := Int.emod_nonneg k (show (bigN : Int) ≠ 0 by omega)
  have h2 := Int.emod_nonneg l (show (bigN : Int) ≠ 0 by omega)
  rw [← itr_mod hn h hp]
  congr 1
  have e : ((((k % (bigN : Int)).toNat + (l % (bigN : Int)).toNat) % bigN : Nat) : Int) = (k + l) % (bigN : Int) := by
    rw [Int.natCast_emod, Int.natCast_add, Int.toNat_of_nonneg h1, Int.toNat_of_nonneg h2, ← Int.add_emod]
  rw [← e, Int.toNat_natCast]
/-- a table of where its riders go -/
def tabF (n : Nat) (f : Pr → Nat) : List (List Int) := (List.range (2 ^ n)).map fun i => (List.range n).map fun x => if (i, x) ∈ prs n then (f (i, x) : Int) else -1
def powT (n : Nat) (T : List (List Int)) (k : Int) : List (List Int) := tabF n fun p => (powS (stp n T) k p).2
theorem tabF_congr {f g : Pr → Nat} (h : ∀ p ∈ prs n, f p = g p) : tabF n f = tabF n g := by
  unfold tabF
  refine List.map_congr_left fun i _ => List.map_congr_left fun x _ => ?_
  by_cases c : (i, x) ∈ prs n
  · rw [if_pos c, if_pos c, h _ c]
  · rw [if_neg c, if_neg c]
theorem tab_stp (hn : n ≤ 6) (h : TabOk n T) : T = tabF n fun p => (stp n T p).2 := by
  have hl := h.len hn
  refine List.ext_getElem? fun i => ?_
  unfold tabF
  rw [List.getElem?_map]
  by_cases hi : i < 2 ^ n
  · rw [List.getElem?_range hi]
    have hE := h.at_i hn hi
    have e1 : T[i]? = some (T.getD i []) := by rw [List.getD_eq_getElem?_getD, List.getElem?_eq_getElem (by omega)]; rfl
    rw [e1]
    refine congrArg some (list_ext hE.len (by rw [List.length_map, List.length_range]) fun x hx => ?_)
    rw [map_getD_lt (d := 0) (by rw [List.length_range]; exact hx), show (List.range n).getD x 0 = x by rw [List.getD_eq_getElem?_getD, List.getElem?_range hx]; rfl]
    by_cases c : x ∈ lotI n i
    · rw [if_neg fun z => (mem_prs.mp z).2.2 c]
      exact hE.key x hx c
    · rw [if_pos (mem_prs.mpr ⟨hi, hx, c⟩)]
      have := hE.rid x hx c
      show _ = (((T.getD i []).getD x 0).toNat : Int)
      omega
  · rw [List.getElem?_eq_none (by omega), List.getElem?_eq_none (by rw [List.length_range]; omega)]
    rfl
theorem stp_ext (hn : n ≤ 6) (h : TabOk n T) (g : TabOk n U) (e : ∀ p ∈ prs n, stp n T p = stp n U p) : T = U := by
  rw [tab_stp hn h, tab_stp hn g]
  exact tabF_congr fun p hp => by rw [e p hp]
theorem stp_still (hn : n ≤ 6) {p : Pr} (hp : p ∈ prs n) : stp n (stillT n) p = p := by
  obtain ⟨h1, h2, h3⟩ := mem_prs.mp hp
  have e : (stillT n).getD p.1 [] = byE (lotI n p.1) (ups n) := by rw [← en_at hn h1, en_still hn (lot_mem hn h1)]
  unfold stp
  rw [e, goal_ups (all_ascL hn _ (lot_mem hn h1)), lot_num hn h1, byE_at (by rw [ups_len]; exact h2), if_neg h3, ups_at h2, Int.toNat_natCast]
theorem stp_both (hn : n ≤ 6) (h : TabOk n T) (g : TabOk n U) {p : Pr} (hp : p ∈ prs n) : stp n (bothT n T U) p = stp n U (stp n T p) := by
  obtain ⟨h1, h2, h3⟩ := mem_prs.mp hp
  have hl := lot_mem hn h1
  have hE := h.at_i hn h1
  have hg := goal_all hn (T.getD p.1 [])
  have hEu := g.ent hn hg
  have e : (bothT n T U).getD p.1 [] = cmpE (T.getD p.1 []) (en n U (goalE n (T.getD p.1 []))) := by
    rw [← en_at hn h1, en_both hn h hl, en_at hn h1]
  have eu : U.getD (num n (goalE n (T.getD p.1 []))) [] = en n U (goalE n (T.getD p.1 [])) := rfl
  have r := hE.rid p.2 h2 h3
  unfold stp
  rw [e, (hE.cmp hEu).2, cmp_at (by rw [hE.len]; exact h2), if_neg (by omega)]
  show _ = (num n (goalE n (U.getD (num n (goalE n (T.getD p.1 []))) [])), ((U.getD (num n (goalE n (T.getD p.1 []))) []).getD ((T.getD p.1 []).getD p.2 0).toNat 0).toNat)
  rw [eu]
def itT (n : Nat) (T : List (List Int)) : Nat → List (List Int)
  | 0 => stillT n
  | k + 1 => bothT n (itT n T k) T
theorem itT_ok (hn : n ≤ 6) (h : TabOk n T) : ∀ k, TabOk n (itT n T k)
  | 0 => still_ok hn
  | k + 1 => (itT_ok hn h k).both hn h
theorem stp_itT (hn : n ≤ 6) (h : TabOk n T) : ∀ (k : Nat) {p : Pr}, p ∈ prs n → stp n (itT n T k) p = itr (stp n T) k p
  | 0, _, hp => stp_still hn hp
  | k + 1, _, hp => by
    rw [itr_succ, ← stp_itT hn h k hp]
    exact stp_both hn (itT_ok hn h k) h hp
theorem powT_it (hn : n ≤ 6) (h : TabOk n T) (k : Int) : powT n T k = itT n T (k % (bigN : Int)).toNat := by
  rw [tab_stp hn (itT_ok hn h _)]
  exact tabF_congr fun p hp => by rw [stp_itT hn h _ hp]; rfl
theorem powT_ok (hn : n ≤ 6) (h : TabOk n T) (k : Int) : TabOk n (powT n T k) := by rw [powT_it hn h]; exact itT_ok hn h _
theorem stp_powT (hn : n ≤ 6) (h : TabOk n T) (k : Int) {p : Pr} (hp : p ∈ prs n) : stp n (powT n T k) p = powS (stp n T) k p := by rw [powT_it hn h, stp_itT hn h _ hp]; rfl
theorem powT_add (hn : n ≤ 6) (h : TabOk n T) (k l : Int) : bothT n (powT n T k) (powT n T l) = powT n T (k + l) := by
  refine stp_ext hn ((powT_ok hn h k).both hn (powT_ok hn h l)) (powT_ok hn h _) fun p hp => ?_
  rw [stp_both hn (powT_ok hn h k) (powT_ok hn h l) hp, stp_powT hn h k hp, stp_powT hn h l (powS_in hn h hp k), stp_powT hn h _ hp, powS_add hn h hp]
theorem powT_one (hn : n ≤ 6) (h : TabOk n T) : powT n T 1 = T := by
  refine stp_ext hn (powT_ok hn h 1) h fun p hp => ?_
  rw [stp_powT hn h 1 hp, show (1 : Int) = ((1 : Nat) : Int) from rfl, powS_nat hn h hp]
  rfl
theorem powT_succ (hn : n ≤ 6) (h : TabOk n T) (k : Int) : bothT n (powT n T k) T = powT n T (k + 1) := by
  have := powT_add hn h k 1
  rw [powT_one hn h] at this
  exact this
/-! ### the order -/
structure Rounds (n : Nat) (S : Pr → Pr) (CL : List (List Pr)) : Prop where
  cyc : ∀ C ∈ CL, Cyc S C
  sub : ∀ C ∈ CL, ∀ p ∈ C, p ∈ prs n
  all : ∀ p ∈ prs n, ∃ C ∈ CL, p ∈ C
theorem Rounds.len {S : Pr → Pr} {CL : List (List Pr)} (hn : n ≤ 6) (h : Rounds n S CL) {C : List Pr} (hC : C ∈ CL) : C.length ≤ 192 := Nat.le_trans (sub_len (h.cyc C hC).nd (h.sub C hC)) (prs_len n (by omega))
structure IsOrd (n : Nat) (S : Pr → Pr) (o : Nat) : Prop where
  pos : 0 < o
  dvd : ∀ m : Nat, (∀ p ∈ prs n, itr S m p = p) ↔ o ∣ m
theorem IsOrd.uniq {S : Pr → Pr} {a b : Nat} (h : IsOrd n S a) (g : IsOrd n S b) : a = b :=
  Nat.dvd_antisymm ((h.dvd b).mp ((g.dvd b).mpr (Nat.dvd_refl b))) ((g.dvd a).mp ((h.dvd a).mpr (Nat.dvd_refl a)))
def lcmL (ls : List Nat) : Nat := ls.foldl Nat.lcm 1
theorem lcm_fold : ∀ (ls : List Nat) (a m : Nat), ls.foldl Nat.lcm a ∣ m ↔ a ∣ m ∧ ∀ l ∈ ls, l ∣ m
  | [], a, m => by simp
  | l :: ls, a, m => by
    rw [List.foldl_cons, lcm_fold ls]
    constructor
    · rintro ⟨h1, h2⟩
      refine ⟨Nat.dvd_trans (Nat.dvd_lcm_left a l) h1, fun x hx => ?_⟩
      rcases List.mem_cons.mp hx with rfl | hx
      · exact Nat.dvd_trans (Nat.dvd_lcm_right a _) h1
      · exact h2 x hx
    · rintro ⟨h1, h2⟩
      exact ⟨Nat.lcm_dvd h1 (h2 l List.mem_cons_self), fun x hx => h2 x (List.mem_cons_of_mem _ hx)⟩
theorem lcm_fold_pos : ∀ (ls : List Nat) (a : Nat), 0 < a → (∀ l ∈ ls, 0 < l) → 0 < ls.foldl Nat.lcm a
  | [], a, h, _ => h
  | l :: ls, a, h, g => lcm_fold_pos ls _ (Nat.lcm_pos h (g l List.mem_cons_self)) fun x hx => g x (List.mem_cons_of_mem _ hx)
theorem Rounds.ord {S : Pr → Pr} {CL : List (List Pr)} (h : Rounds n S CL) : IsOrd n S (lcmL (CL.map List.length)) := by
  refine ⟨lcm_fold_pos _ _ Nat.one_pos fun l hl => ?_, fun m => ?_⟩
  · obtain ⟨C, hC, rfl⟩ := List.mem_map.mp hl
    exact (h.cyc C hC).ne
  · unfold lcmL
    rw [lcm_fold]
    constructor
    · intro k
      refine ⟨Nat.one_dvd m, fun l hl => ?_⟩
      obtain ⟨C, hC, rfl⟩ := List.mem_map.mp hl
      have c := h.cyc C hC
      have hx : C[0]'c.ne ∈ C := List.getElem_mem c.ne
      exact (c.fix hx m).mp (k _ (h.sub C hC _ hx))
    · rintro ⟨_, k⟩ p hp
      obtain ⟨C, hC, hpC⟩ := h.all p hp
      exact ((h.cyc C hC).fix hpC m).mpr (k _ (List.mem_map.mpr ⟨C, hC, rfl⟩))
theorem pow_calm (hn : n ≤ 6) (h : TabOk n T) {o : Nat} (ho : IsOrd n (stp n T) o) (m : Nat) : powT n T (m : Int) = stillT n ↔ o ∣ m := by
  rw [← ho.dvd m]
  constructor
  · intro e p hp
    rw [← powS_nat hn h hp, ← stp_powT hn h _ hp, e, stp_still hn hp]
  · intro k
    refine stp_ext hn (powT_ok hn h _) (still_ok hn) fun p hp => ?_
    rw [stp_powT hn h _ hp, powS_nat hn h hp, stp_still hn hp, k p hp]
end
end Kr
namespace Kr
/-! a term kept within narrower bounds keeps the wider ones -/
mutual
theorem okTm_mono {D D' : Mv → Prop} {r r' k k' : Nat} (hD : ∀ d, D d → D' d) (hr : r ≤ r') (hk : k ≤ k') : ∀ t : Tm, okTm D r k t → okTm D' r' k' t
  | .doo d, h => by
    simp only [okTm] at h ⊢
    exact hD d h
  | .part j, h => by
    simp only [okTm] at h ⊢
    exact Nat.lt_of_lt_of_le h hk
  | .row ts, h => by
    simp only [okTm] at h ⊢
    exact ⟨Nat.le_trans h.1 hr, okTms_mono hD hr hk ts h.2⟩
  | .back t, h => by
    simp only [okTm] at h ⊢
    exact okTm_mono hD hr hk t h
  | .times t n, h => by
    simp only [okTm] at h ⊢
    exact ⟨h.1, okTm_mono hD hr hk t h.2⟩
theorem okTms_mono {D D' : Mv → Prop} {r r' k k' : Nat} (hD : ∀ d, D d → D' d) (hr : r ≤ r') (hk : k ≤ k') : ∀ ts : List Tm, okTms D r k ts → okTms D' r' k' ts
  | [], _ => by simp [okTms]
  | t :: ts, h => by
    simp only [okTms] at h ⊢
    exact ⟨okTm_mono hD hr hk t h.1, okTms_mono hD hr hk ts h.2⟩
end
end Kr
namespace Kr
open PySem PySem.Spec PyProof.Rows L2
theorem Deed.few {n : Nat} {d : Mv} (h : Deed n d) : d.1.length + 2 ≤ n := by
  have h1 := h.ab
  have h2 := h.bn
  have := sub_len (C := d.2.1 :: d.2.2 :: d.1) (L := List.range n) (List.nodup_cons.mpr ⟨fun z => by
    rcases List.mem_cons.mp z with e | e
    · omega
    · exact h.na e, List.nodup_cons.mpr ⟨h.nb, h.asc.1.imp fun {a b} (q : a < b) => Nat.ne_of_lt q⟩⟩) fun x hx => by
    rw [List.mem_range]
    simp only [List.mem_cons] at hx
    rcases hx with rfl | rfl | hx
    · omega
    · exact h2
    · have := (h.asc.2 x hx).2; omega
  simpa using this
/-! ### how many items stand in a thing -/
mutual
def itm : PyData → Nat
  | .tuple ds => ds.length + itmA ds
  | .none | .bool _ | .int _ | .str _ | .list _ | .dict _ => 0
def itmA : List PyData → Nat
  | [] => 0
  | d :: ds => itm d + itmA ds
end
theorem itmA_map : ∀ ds : List PyData, itmA ds = (ds.map itm).sum
  | [] => rfl
  | d :: ds => by
    simp only [itmA, List.map_cons, List.sum_cons]
    rw [itmA_map ds]
theorem depthAll_le : ∀ {ds : List PyData} {d : PyData}, d ∈ ds → d.depth ≤ PyData.depthAll ds
  | e :: ds, d, h => by
    simp only [PyData.depthAll]
    rcases List.mem_cons.mp h with rfl | h
    · exact Nat.le_max_left _ _
    · exact Nat.le_trans (depthAll_le h) (Nat.le_max_right _ _)
theorem flatTA_mem : ∀ {ds : List PyData}, flatTA ds = true → ∀ d ∈ ds, flatT d = true
  | e :: ds, h, d, hd => by
    have h2 : flatT e = true ∧ flatTA ds = true := by simpa [flatTA] using h
    rcases List.mem_cons.mp hd with rfl | hd
    · exact h2.1
    · exact flatTA_mem h2.2 d hd
theorem kit_tl {K : PySem.W.Frag} {d : PyData} (h : flatT d = true) : PySem.W.kitAny K (.type (tyN d)) [.type "tuple", .type "list"] = some (isTu d) := by
  have h1 := kit_tuple (K := K) d
  cases d with
  | tuple ds => unfold PySem.W.kitAny; rw [h1]; rfl
  | list _ => simp [flatT] at h
  | dict _ => simp [flatT] at h
  | none => unfold PySem.W.kitAny; rw [h1]; simp only [isTu]; unfold PySem.W.kitAny; rw [show PySem.W.kitOne K (.type (tyN .none)) (.type "list") = some false from kit_ty (show kitB "NoneType" "list" = some false by decide +kernel)]; rfl
  | bool _ => unfold PySem.W.kitAny; rw [h1]; simp only [isTu]; unfold PySem.W.kitAny; rw [show PySem.W.kitOne K (.type (tyN (.bool _))) (.type "list") = some false from kit_ty (show kitB "bool" "list" = some false by decide +kernel)]; rfl
  | int _ => unfold PySem.W.kitAny; rw [h1]; simp only [isTu]; unfold PySem.W.kitAny; rw [show PySem.W.kitOne K (.type (tyN (.int _))) (.type "list") = some false from kit_ty (show kitB "int" "list" = some false by decide +kernel)]; rfl
  | str _ => unfold PySem.W.kitAny; rw [h1]; simp only [isTu]; unfold PySem.W.kitAny; rw [show PySem.W.kitOne K (.type (tyN (.str _))) (.type "list") = some false from kit_ty (show kitB "str" "list" = some false by decide +kernel)]; rfl
mutual
/-- tuples of at most m items -/
def widT (m : Nat) : PyData → Bool
  | .tuple xs => decide (xs.length ≤ m) && widTA m xs
  | .none | .bool _ | .int _ | .str _ | .list _ | .dict _ => true
def widTA (m : Nat) : List PyData → Bool
  | [] => true
  | x :: xs => widT m x && widTA m xs
end
theorem widTA_mem {m : Nat} : ∀ {ds : List PyData}, widTA m ds = true → ∀ d ∈ ds, widT m d = true
  | e :: ds, h, d, hd => by
    have h2 : widT m e = true ∧ widTA m ds = true := by simpa [widTA] using h
    rcases List.mem_cons.mp hd with rfl | hd
    · exact h2.1
    · exact widTA_mem h2.2 d hd
/-! ### what few items show -/
mutual
/-- numbers and texts of few signs -/
def lowT : PyData → Bool
  | .none | .bool _ => true
  | .int i => decide (i.natAbs < 2 ^ 100)
  | .str x => (x.cps.toList.all fun c => decide (c < 16 ^ 8)) && decide (x.length ≤ 100)
  | .tuple xs => lowTA xs
  | .list _ | .dict _ => false
def lowTA : List PyData → Bool
  | [] => true
  | x :: xs => lowT x && lowTA xs
end
theorem low_leaf {d : PyData} (h : lowT d = true) (hn : isTu d = false) : Sm 1 100 d := by
  cases d with
  | none => exact ⟨rfl, rfl, by simp [PyData.depth], by simp [PyData.weight]⟩
  | bool b => exact ⟨rfl, rfl, by simp [PyData.depth], by simp [PyData.weight]⟩
  | int i =>
    have hi : i.natAbs < 2 ^ 100 := by simpa [lowT] using h
    have a := Sm.int (i := i) (Nat.lt_of_lt_of_le hi (by decide))
    refine ⟨a.sh, a.ls, a.dp, ?_⟩
    simp only [PyData.weight]
    split
    · omega
    · rename_i h0
      have h1 : i.natAbs ≠ 0 := fun z => h0 (by simp; omega)
      have : i.natAbs.log2 < 100 := (Nat.log2_lt h1).mpr hi
      omega
  | str x =>
    have hx : (x.cps.toList.all fun c => decide (c < 16 ^ 8)) = true ∧ x.length ≤ 100 := by simpa [lowT] using h
    exact .strm hx.1 hx.2
  | tuple _ => simp [isTu] at hn
  | list _ => simp [lowT] at h
  | dict _ => simp [lowT] at h
theorem low_isTu {d : PyData} (h : isTu d = true) : ∃ ds, d = .tuple ds := by
  cases d with
  | tuple ds => exact ⟨ds, rfl⟩
  | _ => exact absurd h (by simp [isTu])
mutual
theorem low_sm : ∀ d : PyData, lowT d = true → d.showable = true ∧ d.leavesShort 41 = true ∧ (isTu d = true → d.weight ≤ 101 * itm d) ∧ d.weight ≤ 101 * itm d + 100
  | .none, _ => by simp [PyData.showable, PyData.leavesShort, PyData.weight, isTu]
  | .bool _, _ => by simp [PyData.showable, PyData.leavesShort, PyData.weight, isTu]
  | .int i, h => by
    have a := low_leaf h rfl
    have := a.wt
    exact ⟨a.sh, a.ls, fun z => by simp [isTu] at z, by omega⟩
  | .str x, h => by
    have a := low_leaf h rfl
    have := a.wt
    exact ⟨a.sh, a.ls, fun z => by simp [isTu] at z, by omega⟩
  | .tuple xs, h => by
    simp only [lowT] at h
    obtain ⟨h1, h2, h3⟩ := lowA_sm xs h
    refine ⟨by simpa [PyData.showable] using h1, by simpa [PyData.leavesShort] using h2, fun _ => ?_, ?_⟩
    · simp only [PyData.weight, itm]
      omega
    · simp only [PyData.weight, itm]
      omega
  | .list _, h => by simp [lowT] at h
  | .dict _, h => by simp [lowT] at h
theorem lowA_sm : ∀ ds : List PyData, lowTA ds = true → PyData.showableAll ds = true ∧ PyData.leavesShortAll 41 ds = true ∧ PyData.weightAll ds ≤ 101 * (ds.length + itmA ds)
  | [], _ => by simp [PyData.showableAll, PyData.leavesShortAll, PyData.weightAll]
  | d :: ds, h => by
    have h2 : lowT d = true ∧ lowTA ds = true := by simpa [lowTA] using h
    obtain ⟨a1, a2, _, a4⟩ := low_sm d h2.1
    obtain ⟨b1, b2, b3⟩ := lowA_sm ds h2.2
    refine ⟨by simp [PyData.showableAll, a1, b1], by simp [PyData.leavesShortAll, a2, b2], ?_⟩
    simp only [PyData.weightAll, itmA, List.length_cons]
    omega
end
theorem sm_low {d : PyData} {k m : Nat} (h : lowT d = true) (ht : isTu d = true) (hk : d.depth ≤ k) (hm : itm d ≤ m) : Sm k (101 * m) d := by
  obtain ⟨h1, h2, h3, _⟩ := low_sm d h
  exact ⟨h1, h2, hk, Nat.le_trans (h3 ht) (Nat.mul_le_mul_left _ hm)⟩
/-- terms -/
theorem low_lot {l : List Nat} (h : ∀ x ∈ l, x < 24) : lowT (lotD l) = true := by
  have : ∀ l : List Nat, (∀ x ∈ l, x < 24) → lowTA (l.map fun x : Nat => PyData.int (x : Int)) = true := by
    intro l
    induction l with
    | nil => intro _; rfl
    | cons x l ih =>
      intro h
      have hx := h x List.mem_cons_self
      simp only [List.map_cons, lowTA, lowT, ih fun y hy => h y (List.mem_cons_of_mem _ hy), Bool.and_true, decide_eq_true_eq, Int.natAbs_natCast]
      exact Nat.lt_trans hx (by decide)
  simp only [lotD, lowT]
  exact this l h
theorem low_deed {n : Nat} (hn : n ≤ 24) {d : Mv} (h : Deed n d) : lowT (deedD d) = true := by
  have h1 := h.ab
  have h2 := h.bn
  have h3 := low_lot (l := d.1) fun x hx => by have := (h.asc.2 x hx).2; omega
  simp only [deedD, lowT, lowTA, h3, Bool.true_and, Bool.and_true, Int.natAbs_natCast, Bool.and_eq_true, decide_eq_true_eq]
  exact ⟨Nat.lt_trans (by omega : d.2.1 < 24) (by decide), Nat.lt_trans (by omega : d.2.2 < 24) (by decide)⟩
mutual
theorem low_tm {n r k : Nat} (hn : n ≤ 24) (hk : k ≤ 400) : ∀ t : Tm, okTm (Deed n) r k t → lowT (tmD t) = true
  | .doo d, h => by
    simp only [okTm] at h
    simp only [tmD, lowT, lowTA, low_deed hn h]
    decide +kernel
  | .part j, h => by
    simp only [okTm] at h
    simp only [tmD, lowT, lowTA, Int.natAbs_natCast]
    rw [decide_eq_true (show j < 2 ^ 100 from Nat.lt_trans (by omega : j < 400) (by decide))]
    decide +kernel
  | .row ts, h => by
    simp only [okTm] at h
    simp only [tmD, lowT, lowTA, low_tms hn hk ts h.2]
    decide +kernel
  | .back t, h => by
    simp only [okTm] at h
    simp only [tmD, lowT, lowTA, low_tm hn hk t h]
    decide +kernel
  | .times t m, h => by
    simp only [okTm] at h
    simp only [tmD, lowT, lowTA, low_tm hn hk t h.2, Int.natAbs_natCast]
    rw [decide_eq_true (show m < 2 ^ 100 from Nat.lt_of_le_of_lt h.1 (by decide +kernel))]
    decide +kernel
theorem low_tms {n r k : Nat} (hn : n ≤ 24) (hk : k ≤ 400) : ∀ ts : List Tm, okTms (Deed n) r k ts → lowTA (tmDs ts) = true
  | [], _ => rfl
  | t :: ts, h => by
    simp only [okTms] at h
    simp only [tmDs, lowTA, low_tm hn hk t h.1, low_tms hn hk ts h.2]
    rfl
end
mutual
theorem wid_tm {n r k : Nat} (hn : n ≤ 24) (hr : r ≤ 400) : ∀ t : Tm, okTm (Deed n) r k t → widT 400 (tmD t) = true
  | .doo d, h => by
    simp only [okTm] at h
    have h1 := h.few
    have h2 : ∀ l : List Nat, widTA 400 (l.map fun x : Nat => PyData.int (x : Int)) = true := by
      intro l
      induction l with
      | nil => rfl
      | cons x l ih => simp only [List.map_cons, widTA, widT, ih]; rfl
    have h3 : widT 400 (lotD d.1) = true := by
      simp only [lotD, widT, h2, List.length_map, Bool.and_true, decide_eq_true_eq]
      omega
    simp only [tmD, deedD, widT, widTA, h3]
    rfl
  | .part j, h => by simp only [tmD, widT, widTA]; rfl
  | .row ts, h => by
    simp only [okTm] at h
    have h1 : (tmDs ts).length = ts.length := by rw [tmDs_map, List.length_map]
    simp only [tmD, widT, widTA, wid_tms hn hr ts h.2, h1]
    rw [decide_eq_true (show ts.length ≤ 400 by omega)]
    rfl
  | .back t, h => by
    simp only [okTm] at h
    simp only [tmD, widT, widTA, wid_tm hn hr t h]
    rfl
  | .times t m, h => by
    simp only [okTm] at h
    simp only [tmD, widT, widTA, wid_tm hn hr t h.2]
    rfl
theorem wid_tms {n r k : Nat} (hn : n ≤ 24) (hr : r ≤ 400) : ∀ ts : List Tm, okTms (Deed n) r k ts → widTA 400 (tmDs ts) = true
  | [], _ => rfl
  | t :: ts, h => by
    simp only [okTms] at h
    simp only [tmDs, widTA, wid_tm hn hr t h.1, wid_tms hn hr ts h.2]
    rfl
end
theorem lot_depth (l : List Nat) : (lotD l).depth ≤ 1 := by
  have : ∀ l : List Nat, PyData.depthAll (l.map fun x : Nat => PyData.int (x : Int)) = 0 := by
    intro l
    induction l with
    | nil => rfl
    | cons x l ih => simp only [List.map_cons, PyData.depthAll, PyData.depth, ih]; rfl
  simp only [lotD, PyData.depth, this]
  omega
mutual
theorem tm_depth : ∀ t : Tm, (tmD t).depth ≤ 2 * dep t + 1
  | .doo d => by
    have := lot_depth d.1
    simp only [tmD, deedD, PyData.depth, PyData.depthAll, dep]
    omega
  | .part j => by simp only [tmD, PyData.depth, PyData.depthAll, dep]; omega
  | .row ts => by
    have := tms_depth ts
    simp only [tmD, PyData.depth, PyData.depthAll, dep]
    omega
  | .back t => by
    have := tm_depth t
    simp only [tmD, PyData.depth, PyData.depthAll, dep]
    omega
  | .times t k => by
    have := tm_depth t
    simp only [tmD, PyData.depth, PyData.depthAll, dep]
    omega
theorem tms_depth : ∀ ts : List Tm, PyData.depthAll (tmDs ts) ≤ 2 * depL ts + 1
  | [] => by simp [tmDs, PyData.depthAll]
  | t :: ts => by
    have h1 := tm_depth t
    have h2 := tms_depth ts
    simp only [tmDs, PyData.depthAll, depL]
    omega
end
end Kr
namespace Kr
open PySem PySem.Spec PyProof.Rows L2
/-- the data of a term: of deeds of n places, rows of at most r terms, behind k others, at most m deep, of at most c items -/
def IsTm (n r k m c : Nat) (d : PyData) : Prop := ∃ t, d = tmD t ∧ okTm (Deed n) r k t ∧ dep t ≤ m ∧ itm (tmD t) ≤ c
theorem lot_itm (l : List Nat) : itm (lotD l) = l.length := by
  have : ∀ l : List Nat, itmA (l.map fun x : Nat => PyData.int (x : Int)) = 0 := by
    intro l
    induction l with
    | nil => rfl
    | cons x l ih => simp only [List.map_cons, itmA, itm, ih]
  simp only [lotD, itm, this, List.length_map]
  rfl
theorem deed_itm {n : Nat} (hn : n ≤ 24) {d : Mv} (h : Deed n d) : itm (deedD d) ≤ 25 := by
  have h1 := h.few
  have h2 := lot_itm d.1
  simp only [deedD, itm, itmA, h2, List.length_cons, List.length_nil]
  omega
theorem tm_do {n r k m : Nat} (hn : n ≤ 24) {d : Mv} (h : Deed n d) : IsTm n r k (m + 1) 27 (.tuple [.str "do", deedD d]) := ⟨.doo d, by simp only [tmD], by simp only [okTm]; exact h, by simp only [dep]; omega, by
  have := deed_itm hn h
  simp only [tmD, itm, itmA, List.length_cons, List.length_nil]
  omega⟩
theorem tm_part {n r k m : Nat} {i : Int} (h0 : 0 ≤ i) (h : i < k) : IsTm n r k (m + 1) 2 (.tuple [.str "part", .int i]) := ⟨.part i.toNat, by simp only [tmD]; rw [Int.toNat_of_nonneg h0], by simp only [okTm]; omega, by simp only [dep]; omega, by
  simp only [tmD, itm, itmA, List.length_cons, List.length_nil]
  omega⟩
theorem tm_back {n r k m c : Nat} {d : PyData} (h : IsTm n r k m c d) : IsTm n r k (m + 1) (c + 2) (.tuple [.str "back", d]) := by
  obtain ⟨t, rfl, h1, h2, h3⟩ := h
  exact ⟨.back t, by simp only [tmD], by simp only [okTm]; exact h1, by simp only [dep]; omega, by
    simp only [tmD, itm, itmA, List.length_cons, List.length_nil]
    omega⟩
theorem tm_times {n r k m c : Nat} {d : PyData} {i : Int} (h : IsTm n r k m c d) (h0 : 0 ≤ i) (hi : i ≤ 10 ^ 30) : IsTm n r k (m + 1) (c + 3) (.tuple [.str "times", d, .int i]) := by
  obtain ⟨t, rfl, h1, h2, h3⟩ := h
  refine ⟨.times t i.toNat, by simp only [tmD]; rw [Int.toNat_of_nonneg h0], ?_, by simp only [dep]; omega, by
    simp only [tmD, itm, itmA, List.length_cons, List.length_nil]
    omega⟩
  simp only [okTm]
  exact ⟨by omega, h1⟩
theorem tm_list {n r k m c : Nat} : ∀ {ds : List PyData}, (∀ d ∈ ds, IsTm n r k m c d) → ∃ ts, ds = tmDs ts ∧ okTms (Deed n) r k ts ∧ depL ts ≤ m ∧ ts.length = ds.length ∧ itmA (tmDs ts) ≤ ds.length * c
  | [], _ => ⟨[], rfl, by simp [okTms], by simp [depL], rfl, by simp [tmDs, itmA]⟩
  | d :: ds, h => by
    obtain ⟨t, rfl, h1, h2, h6⟩ := h d List.mem_cons_self
    obtain ⟨ts, rfl, h3, h4, h5, h7⟩ := tm_list fun x hx => h x (List.mem_cons_of_mem _ hx)
    refine ⟨t :: ts, by simp only [tmDs], ?_, ?_, by simp [h5], ?_⟩
    · simp only [okTms]
      exact ⟨h1, h3⟩
    · simp only [depL]
      exact Nat.max_le.mpr ⟨h2, h4⟩
    · simp only [tmDs, itmA, List.length_cons, Nat.succ_mul]
      omega
theorem tm_row {n r k m c : Nat} {ds : List PyData} (h : ∀ d ∈ ds, IsTm n r k m c d) (hl : ds.length ≤ r) : IsTm n r k (m + 1) (2 + ds.length * (c + 1)) (.tuple [.str "row", .tuple ds]) := by
  obtain ⟨ts, rfl, h1, h2, h3, h4⟩ := tm_list h
  refine ⟨.row ts, by simp only [tmD], ?_, by simp only [dep]; omega, ?_⟩
  · simp only [okTm]
    exact ⟨by omega, h1⟩
  · simp only [tmD, itm, itmA, List.length_cons, List.length_nil, Nat.mul_add]
    omega
theorem tm_row1 {n r k m c : Nat} {a : PyData} (ha : IsTm n r k m c a) (hr : 1 ≤ r) : IsTm n r k (m + 1) (c + 3) (.tuple [.str "row", .tuple [a]]) := by
  obtain ⟨t, h0, h1, h2, h3⟩ := tm_row (ds := [a]) (fun d hd => by rw [List.mem_singleton.mp hd]; exact ha) hr
  exact ⟨t, h0, h1, h2, by simp only [List.length_cons, List.length_nil] at h3; omega⟩
theorem tm_row2 {n r k m c : Nat} {a b : PyData} (ha : IsTm n r k m c a) (hb : IsTm n r k m c b) (hr : 2 ≤ r) : IsTm n r k (m + 1) (2 * c + 4) (.tuple [.str "row", .tuple [a, b]]) := by
  obtain ⟨t, h0, h1, h2, h3⟩ := tm_row (ds := [a, b]) (fun d hd => by
    simp only [List.mem_cons, List.not_mem_nil, or_false] at hd
    rcases hd with rfl | rfl
    · exact ha
    · exact hb) hr
  exact ⟨t, h0, h1, h2, by simp only [List.length_cons, List.length_nil] at h3; omega⟩
theorem IsTm.mono {n r k m c r' k' m' c' : Nat} {d : PyData} (h : IsTm n r k m c d) (hr : r ≤ r' := by omega) (hk : k ≤ k' := by omega) (hm : m ≤ m' := by omega) (hc : c ≤ c' := by omega) : IsTm n r' k' m' c' d := by
  obtain ⟨t, rfl, h1, h2, h3⟩ := h
  exact ⟨t, rfl, okTm_mono (fun _ q => q) hr hk t h1, by omega, by omega⟩
theorem IsTm.itm {n r k m c : Nat} {d : PyData} (h : IsTm n r k m c d) : itm d ≤ c := by
  obtain ⟨t, rfl, h1, h2, h3⟩ := h
  exact h3
end Kr
namespace Kr
open PySem PySem.Spec PyProof.Rows L2
open AutoSeq1 (wpAny_loadPart')

theorem enum_new_tup (l : Addr) (items : Array Value) :
    Meets (Builtin.«enumerate.__new__» ⟨[.type "enumerate", .ref l], []⟩) (fun _ R s => s.heap.IsTuple l items ∧
      R (.ok (.ret (.ref (s.heap.push { cls := .type "tuple_iterator", data := .fields #[.ref l, .int 0 0] }).objs.size)))
        { s with heap := (s.heap.push { cls := .type "tuple_iterator", data := .fields #[.ref l, .int 0 0] }).push { cls := .type "enumerate", data := .fields #[.none, .bool false, .ref s.heap.objs.size, rawInt 0, .none, .none] } }) :=
  .of_wp fun prog w A R s h => by
    obtain ⟨hp, g, d, tk, os⟩ := s
    obtain ⟨hL, h⟩ := h
    have hsub := sub_enumerate
    wp_walk using wpAny_pyIter_tuple hL
    refine wpAny_stack_any fun st => wpAny_pure ?_
    split
    · rename_i c _ _ _ _ _
      cases (c == Value.type "enumerate")
      all_goals
        wp_walk using wpAny_pyIter_tuple hL
        exact ⟨_, rfl, h⟩
    · wp_walk using wpAny_pyIter_tuple hL
      exact ⟨_, rfl, h⟩

section
variable {prog : Program} {w : World} {A : Around} {E : Value → Shared → Prop} {s : Shared}
theorem enum_call_tup {l : Addr} {items : Array Value} {Q : Value → Shared → Prop} (hL : s.heap.IsTuple l items)
    (h : ∀ h', IsEnum h' (s.heap.objs.size + 1) s.heap.objs.size 0 .none → h'.IsTupleIter s.heap.objs.size l 0 → h'.objs.size = s.heap.objs.size + 2 →
      (∀ b o, s.heap.get? b = some o → h'.get? b = some o) → Q (.ref (s.heap.objs.size + 1)) { s with heap := h' }) :
    wpAny (model prog w) A (call (.type "enumerate") [.ref l]) Q E s := by
  refine callType_new F.called_enumerate (by decide) (F.typeCall_enumerate_1 _) (F.newCall_enumerate_1 _) (fun obj => F.args_object_init_2 obj _) F.entry_enumerate_new
    (enum_new_tup l items) ⟨hL, ?_⟩
  generalize hh1 : s.heap.push { cls := .type "tuple_iterator", data := .fields #[.ref l, .int 0 0] } = h1
  have hz : h1.objs.size = s.heap.objs.size + 1 := by rw [← hh1]; exact Heap.size_push ..
  have g1 : h1.get? s.heap.objs.size = some { cls := .type "tuple_iterator", data := .fields #[.ref l, .int 0 0] } := by rw [← hh1]; exact Heap.get?_push_size _ rfl
  have k1 : ∀ b o, s.heap.get? b = some o → h1.get? b = some o := fun b o e => by rw [← hh1]; exact Heap.get?_push_of_some _ e
  have he : IsEnum (h1.push { cls := .type "enumerate", data := .fields #[.none, .bool false, .ref s.heap.objs.size, rawInt 0, .none, .none] }) (s.heap.objs.size + 1) s.heap.objs.size 0 .none := by
    have q := Heap.get?_push_size h1 (o := { cls := .type "enumerate", data := .fields #[.none, .bool false, .ref s.heap.objs.size, rawInt 0, .none, .none] }) rfl
    rw [hz] at q
    exact q
  show _ ∧ _
  rw [hz]
  exact ⟨⟨_, he, rfl⟩, h _ he ⟨_, Heap.get?_push_of_some _ g1, rfl, rfl⟩ (by rw [Heap.size_push, hz]) fun b o x => Heap.get?_push_of_some _ (k1 b o x)⟩
end

/-- the tuple at a, each item in a new pair -/
def Itet (K : PySem.W.Frag) (a : Addr) : It :=
  ⟨fun i H => ∃ (xs : List V) (x : V), SqT K H a xs ∧ xs[i]? = some x,
    fun i H v H' => ∃ T x, v = .ref T ∧ H T = none ∧ H' = upd H T (.tup [.int (i : Nat), x]) ∧ ∀ xs, SqT K H a xs → xs[i]? = some x,
    fun i H => ∃ xs : List V, SqT K H a xs ∧ xs.length = i⟩
theorem tup_ne {h : Heap} {a it : Addr} {items : Array Value} {o : Obj} (p : IsTup h a items) (ho : h.get? it = some o) (hc : o.cls ≠ .type "tuple") : a ≠ it := fun z => by
  obtain ⟨u, hu, hcu, _⟩ := p
  rw [z, ho] at hu
  cases hu
  exact hc hcu
theorem turn_enumT {P : Program} {w : World} {K : PySem.W.Frag} {elts : List Expr} {kk : Nat} {tpos : Pos} (a e it : Addr) :
    Turn P w K (.Tuple elts kk tpos) (Itet K a) [e, it] e (fun i h => (∃ old, IsEnum h e it ((i : Nat) : Int) old) ∧ h.IsTupleIter it a i ∧ e ≠ it) where
  mem := by simp
  obj := fun i h st b hb => by
    obtain ⟨⟨old, he⟩, ⟨o, ho, hc, hd⟩, _⟩ := st
    rcases (show b = e ∨ b = it by simpa using hb) with z | z
    · rw [z]; exact ⟨_, he, fun v q => nomatch q⟩
    · rw [z]; exact ⟨o, ho, fun v q => by rw [hd] at q; cases q⟩
  keep := fun i h h' st k => let ⟨⟨old, he⟩, hi, hne⟩ := st; ⟨⟨old, k e (by simp) _ he⟩, hi.at fun o q => k it (by simp) o q, hne⟩
  item := by
    intro X hP hw hK hc i pins s σ H E I hf st hg
    subst hP hw hK
    obtain ⟨⟨old, he⟩, hit, hne⟩ := st
    obtain ⟨xs, x, hq, hx⟩ := hg
    obtain ⟨its, rv, p, hz⟩ := I.tuple hq
    obtain ⟨u, hu, ru⟩ := rv.get hx
    have hel : e < s.heap.objs.size := Heap.lt_size he
    have hil : it < s.heap.objs.size := by obtain ⟨_, q, _⟩ := hit; exact Heap.lt_size q
    have nai : a ≠ it := by
      obtain ⟨o, ho, hcl, _⟩ := id hit
      exact tup_ne p ho (by rw [hcl]; decide)
    have hlt : i < its.toArray.size := by
      rw [List.size_toArray]
      exact (List.getElem?_eq_some_iff.mp hu).1
    have nea : e ≠ a := fun z => tup_ne p he (by show Value.type "enumerate" ≠ Value.type "tuple"; decide) z.symm
    refine PySem.wpAny_pyNext_enum_itemC (Draws.tuple (A := X.A.in1) (I.ok.hd hc) it a nai its.toArray) he ⟨hit, p⟩ hlt hne (by simp [hne, nea]) fun y h' tk hy ho hst hT hsz hk => ?_
    have ey : y = u := by
      have : its.toArray[i]? = some y := hy
      rw [List.getElem?_toArray, hu] at this
      exact (Option.some.inj this).symm
    subst ey
    refine ⟨_, rfl, wpAny_letOwnedTupleGo_enum (s := { s with heap := h', toks := tk + 1 }) ho fun h'' he' sb => ?_⟩
    have hT2 : h''.get? s.heap.objs.size = some { cls := .type "tuple", data := .seq #[.int i tk, y] } := (sb.2 _ (Nat.ne_of_gt hel)).trans hT
    have new : ObjOk X.prog X.w (upd H s.heap.objs.size (.tup [.int (i : Nat), x])) h'' s.heap.objs.size (.tup [.int (i : Nat), x]) :=
      ⟨by show 2 ≤ sizeLine; decide, [.int i tk, y], .cons ⟨_, rfl⟩ (.cons ru .nil), ⟨_, hT2, rfl, _, rfl⟩⟩
    have I1 : Inv X pins σ (upd H s.heap.objs.size (.tup [.int (i : Nat), x])) { s with heap := h'', toks := tk + 1 } :=
      I.turnedNew (ch := [e, it]) (fun b ob hb q => (sb.2 b (fun z => hb (by simp [z]))).trans (hk b ob (fun z => hb (by simp [z])) (fun z => hb (by simp [z])) q)) hf (Nat.le_refl _) new
    refine ⟨.ref s.heap.objs.size, _, I1, rfl, ⟨_, x, rfl, I.hok.fresh (Nat.le_refl _), rfl, fun ys hy => by rw [I.tuple_inj hy hq]; exact hx⟩, ⟨⟨y, ?_⟩, hst.1.at fun o q => (sb.2 it (Ne.symm hne)).trans q, hne⟩, fun b hb => ?_⟩
    · rw [show ((i + 1 : Nat) : Int) = (i : Int) + 1 by omega]
      exact he'
    · have hb' : b < s.heap.objs.size := by
        rcases (show b = e ∨ b = it by simpa using hb) with z | z
        · rw [z]; exact hel
        · rw [z]; exact hil
      rw [upd_ne (Nat.ne_of_lt hb')]
      exact (hf b hb).1
  done := by
    intro X hP hw hK hc i pins s σ H E I hf st hg
    subst hP hw hK
    obtain ⟨⟨old, he⟩, hit, hne⟩ := st
    obtain ⟨xs, hq, hx⟩ := hg
    obtain ⟨its, rv, p, hz⟩ := I.tuple hq
    obtain ⟨f0, f1, f2, f3, f4, f5⟩ := hf it (by simp)
    have nai : a ≠ it := by
      obtain ⟨o, ho, hcl, _⟩ := id hit
      exact tup_ne p ho (by rw [hcl]; decide)
    have ez : its.toArray.size = i := by
      rw [List.size_toArray, ← rv.length, hx]
    refine PySem.wpAny_pyNext_enum_endD (Draws.tuple (A := X.A.in1) (I.ok.hd hc) it a nai its.toArray) he ?_ fun h' eb => ⟨rfl, I.turned (t' := s.toks) (fun b o hb q => eb b o hb q) f0 f1 f3 f4 f5⟩
    rw [ez]
    exact ⟨hit, p⟩
  self := fun A i s Q E st h => let ⟨⟨_, he⟩, _⟩ := st; wpAny_pyIter_enum he h
def iEnumT (K : PySem.W.Frag) (ta : TA) : TI := fun σ H R => ta σ H fun vs H1 => ∃ a xs, vs = [.ref a] ∧ SqT K H1 a xs ∧ R (Itet K a) H1
theorem pi_enumT {X : Cx} {e : Expr} {ta : TA} {p pos tpos : Pos} {elts : List Expr} {kk : Nat} (hg : Gl X "enumerate") (hm : X.mg "enumerate" = none) (ha : PA X [e] ta) (hs : starEach [e] X.env = [(false, eval e X.env)] := by rfl) :
    PI X (.Tuple elts kk tpos) (.Call (.Name "enumerate" p) [e] [] pos) (iEnumT X.K ta) := by
  refine ⟨fun pins s σ H R I h => Call_ (ld_blt I hg hm boot_enumerate (PyProof.Rows.callWith_type1 (thn (ha.run pos pins s σ H _ I h) fun us s1 ⟨vs, H1, I1, r1, q1⟩ => ?_) hs rfl))⟩
  obtain ⟨a, xs, rfl, hq, q⟩ := q1
  obtain rfl := Vals.ref1 r1
  obtain ⟨its, rv, p', hz⟩ := I1.tuple hq
  refine enum_call_tup p' fun h' he hit hsz hk => wpAny_pyIter_enum he ?_
  have I2 : Inv X pins σ H1 { s1 with heap := h' } := I1.kept (t' := s1.toks) hk
  refine ⟨s1.heap.objs.size + 1, [s1.heap.objs.size + 1, s1.heap.objs.size], _, _, H1, rfl, I2, turn_enumT a (s1.heap.objs.size + 1) s1.heap.objs.size, ⟨⟨.none, he⟩, hit, Nat.succ_ne_self _⟩, fun b hb => ?_, q⟩
  have hle : s1.heap.objs.size ≤ b := by
    rcases (show b = s1.heap.objs.size + 1 ∨ b = s1.heap.objs.size by simpa using hb) with z | z <;> rw [z]
    · exact Nat.le_succ _
    · exact Nat.le_refl _
  exact I1.fpOk hle (I1.hok.fresh hle)

theorem walk_enumT {K : PySem.W.Frag} {a : Addr} {xs : List V} : Walk (Itet K a) xs.length (fun H => SqT K H a xs) (YPair (fun i => some (.int (i : Nat))) (fun i => xs[i]?)) := by
  refine ⟨fun i _ hi q => ⟨xs, xs[i], q, List.getElem?_eq_getElem hi⟩, fun _ q => ⟨xs, q, rfl⟩, fun i H v H' _ q y => ?_⟩
  obtain ⟨T, x, e1, e2, e3, e4⟩ := y
  exact ⟨T, _, x, e1, e2, e3, rfl, e4 xs q⟩
end Kr
namespace Kr
open PySem PySem.Spec PyProof.Rows L2 HT
theorem adj_rev (n : Nat) : Builtin.Slice.sliceAdjust none none (-1) (n : Int) = ((n : Int) - 1, -1) := by
  unfold Builtin.Slice.sliceAdjust
  simp
theorem pla_rev (n : Nat) : Builtin.Slice.slicePlaces ((n : Int) - 1) (-1) (-1) = n := by
  unfold Builtin.Slice.slicePlaces
  simp
  omega
theorem pick_rev (xs : Array Value) : ((List.range xs.size).filterMap fun (m : Nat) => xs[(((xs.size : Nat) : Int) - 1 + (m : Int) * (-1)).toNat]?).toArray = xs.toList.reverse.toArray := by
  have e : (fun (m : Nat) => xs[(((xs.size : Nat) : Int) - 1 + (m : Int) * (-1)).toNat]?) = (fun k => xs[k]?) ∘ fun (m : Nat) => xs.size - 1 - m := by
    funext m
    show _ = xs[xs.size - 1 - m]?
    rw [show (((xs.size : Nat) : Int) - 1 + (m : Int) * (-1)).toNat = xs.size - 1 - m by omega]
  rw [e, ← List.filterMap_map, PySem.W.krv_range, List.filterMap_reverse, PySem.W.krv_all]
section
variable {prog : Program} {w : World} {A : Around} {E : Value → Shared → Prop} {s : Shared}
theorem applied_rev {sl : Addr} {vk : Value} {n : Nat} {Q : Int × Int × Nat → Shared → Prop} (hs : s.heap.IsSliceOf sl .none .none vk) (pk : IsPart vk (some (-1)))
    (h : Q ((n : Int) - 1, -1, n) s) : wpAny (model prog w) A (Builtin.Slice.sliceApplied (.ref sl) (pure (n : Int))) Q E s := by
  obtain ⟨os, hos, hcs, hds⟩ := id hs
  unfold Builtin.Slice.sliceApplied Builtin.Slice.sliceFields
  refine wpAny_bind (wpAny_bind (wpAny_field hos hds (x := .none) rfl (wpAny_bind (wpAny_field hos hds (x := .none) rfl (wpAny_bind (wpAny_field hos hds (x := vk) rfl (wpAny_pure ?_)))))))
  refine wpAny_bind (slicePart_ pk ?_)
  show wpAny _ _ (if ((-1 : Int) == 0) = true then _ else _) _ _ s
  rw [if_neg (by decide)]
  refine wpAny_bind (slicePart_none (wpAny_bind (slicePart_none (wpAny_bind (wpAny_pure ?_)))))
  show wpAny _ _ (match Builtin.Slice.sliceAdjust none none (-1) (n : Int) with | (lo, hi) => pure (lo, (-1 : Int), Builtin.Slice.slicePlaces lo hi (-1))) _ _ s
  rw [adj_rev n]
  show wpAny _ _ (pure ((n : Int) - 1, (-1 : Int), Builtin.Slice.slicePlaces ((n : Int) - 1) (-1) (-1))) _ _ s
  rw [pla_rev]
  exact wpAny_pure h
theorem tuple_rev {t sl : Addr} {items : Array Value} {vk : Value} {Q : Value → Shared → Prop} (ht : IsTup s.heap t items) (hs : s.heap.IsSliceOf sl .none .none vk) (pk : IsPart vk (some (-1)))
    (h : Q (.ref s.heap.objs.size) { s with heap := s.heap.push { cls := .type "tuple", data := .seq items.toList.reverse.toArray } })
    (hsz : items.size ≤ sizeLine) : wpAny (model prog w) A (getItem (.ref t) (.ref sl)) Q E s := by
  have hok : sizeOk (.seq items.toList.reverse.toArray) := by
    show items.toList.reverse.toArray.size ≤ sizeLine
    rw [List.size_toArray, List.length_reverse, Array.length_toList]
    exact hsz
  obtain ⟨os, hos, hcs, hds⟩ := id hs
  have hTs : s.TypeIs (.ref sl) "slice" := ⟨os, hos, hcs⟩
  unfold getItem
  try with_reducible refine wpAny_holding ?_
  first | refine wpAny_bind (wpAny_pure ?_) | skip
  refine wpAny_bind (wpAny_sequenceKey ht.typeIs (by decide) ?_)
  refine wpAny_bind (wpAny_callSpecial?_slot (name := Str.ofString "__getitem__") ht.typeIs PyProof.Rows.slot_tuple_getitem
    (wpAny_call_entry PyProof.Rows.slot_tuple_getitem ht.typeIs entry_tuple_getitem ?_ (args_tuple_getitem _ _)))
  show wpAny _ _ (Builtin.Tuple.tupleItemsOf (.ref t) >>= _) _ _ s
  refine wpAny_bind (tupleItemsOf_ ht (wpAny_bind (wpAny_typeOf hTs ?_)))
  rw [if_pos (by decide)]
  refine wpAny_bind (applied_rev hs pk ?_)
  have hno : ¬ (((((items.size : Nat) : Int) - 1) == 0 && (-1 : Int) == 1 && items.size == items.size) = true) := by
    rw [show ((-1 : Int) == 1) = false by decide, Bool.and_false, Bool.false_and]
    exact Bool.false_ne_true
  show wpAny _ _ (if ((((items.size : Nat) : Int) - 1) == 0 && (-1 : Int) == 1 && items.size == items.size) = true then _ else _) _ _ s
  rw [if_neg hno, pick_rev]
  first
    | exact wpAny_bind (wpAny_bind (m := Builtin.Tuple.tupleExact _) (wpAny_newObj_type (wpAny_pure ⟨_, rfl, wpAny_pure h⟩) hok))
    | exact wpAny_bind (m := Builtin.Tuple.tupleExact _) (wpAny_newObj_type (wpAny_pure ⟨_, rfl, wpAny_pure h⟩) hok)
    | exact wpAny_bind (m := Builtin.Tuple.tupleExact _) (wpAny_newObj_type (wpAny_bind (wpAny_pure (wpAny_pure ⟨_, rfl, wpAny_pure h⟩))) hok)
    | exact wpAny_bind (wpAny_bind (m := Builtin.Tuple.tupleExact _) (wpAny_newObj_type (wpAny_pure (wpAny_pure ⟨_, rfl, wpAny_pure h⟩)) hok))
end
section
variable {X : Cx}
/-- t[::-1] of a tuple -/
def tRevT (K : PySem.W.Frag) (te : TE) : TE := fun σ H Q => te σ H fun x H1 => ∃ a xs, x = .ref a ∧ SqT K H1 a xs ∧ ∀ p, H1 p = none → Q (.ref p) (upd H1 p (.tup xs.reverse))
theorem pe_revT {e : Expr} {te : TE} {k : Nat} {p1 p2 p3 pos : Pos} (he : PE X e te) : PE X (.Subscript e (.Slice none none (some (.UnaryOp .USub (.Constant (.int 1) k p1) p2)) p3) pos) (tRevT X.K te) := by
  refine ⟨fun pins s σ H Q I h => Subscript_ (thn (he.run pins s σ H _ I h) fun v s1 ⟨x, H1, I1, r1, q1⟩ => ?_)⟩
  obtain ⟨a, xs, rfl, hx, q⟩ := q1
  cases r1
  have hst : PO X (some (.UnaryOp .USub (.Constant (.int 1) k p1) p2)) (tPart (tUn (rU fun i => .int (-i)) (tC (.int 1)))) := po_some (pe_un un_neg pe_int)
  refine wpAny_Slice (thn (po_none.run pins s1 σ H1 (fun o H2 => o = none ∧ H2 = H1) I1 ⟨rfl, rfl⟩) fun vl s2 ⟨l, H2, I2, pl, el, e2⟩ => ?_)
  subst el e2
  refine thn (po_none.run pins s2 σ H2 (fun o H3 => o = none ∧ H3 = H2) I2 ⟨rfl, rfl⟩) fun vu s3 ⟨u, H3, I3, pu, eu, e3⟩ => ?_
  subst eu e3
  refine thn (hst.run pins s3 σ H3 (fun o H4 => o = some (-1) ∧ H4 = H3) I3 ⟨1, rfl, -1, rfl, rfl, rfl⟩) fun vs s4 ⟨o, H4, I4, ps, eo, e4⟩ => ?_
  subst eo e4
  cases pl
  cases pu
  have I5 : Inv X pins σ H4 { s4 with heap := s4.heap.push { cls := .type "slice", data := .fields #[.none, .none, vs] } } := I4.kept (t' := s4.toks) fun b ob q => Heap.get?_push_of_some _ q
  obtain ⟨its, r, ht, hz⟩ := I5.tuple hx
  have hlen := r.length
  show wpAny (model X.prog X.w) X.A (subscriptTail e (.Slice none none (some (.UnaryOp .USub (.Constant (.int 1) k p1) p2)) p3) (.ref a) (.ref s4.heap.objs.size)) (EP X pins σ Q) X.xe { s4 with heap := s4.heap.push { cls := .type "slice", data := .fields #[.none, .none, vs] } }
  refine tail_any (ops := [.ref a, .ref s4.heap.objs.size]) ht.typeIs (PyProof.Rows.slot_tuple_getitem.lookup) ?_ (by with_unfolding_all rfl)
  refine tuple_rev ht (Heap.IsSliceOf.new _ .none .none vs) ps ?_ (by rw [List.size_toArray]; omega)
  refine ⟨.ref _, _, I5.laid (t' := s4.toks) (o := .tup xs.reverse) (fun b ob q => Heap.get?_push_of_some _ q) (Nat.le_refl _) ?_, rfl, q _ (I5.hok.fresh (Nat.le_refl _))⟩
  exact ⟨by rw [List.length_reverse]; exact hz, _, r.reverse, IsTup.new _ _⟩
end
end Kr
namespace Kr
open PySem L2
def top (i : Nat) : Stmt := PySem.Challenge.pw_keyriders_k08_whole_runs_deed_by_deed.main.body.getD i (.Pass ⟨0, 0, 0, 0⟩)
abbrev sRidersError : Stmt := top 2
abbrev sTooMany : Stmt := top 3
abbrev sDone : Stmt := top 5
abbrev sProgramWorth : Stmt := top 7
abbrev sTermWorth : Stmt := top 8
abbrev sStepsMeasure : Stmt := top 10
abbrev sRun : Stmt := top 11
abbrev sDeck : Stmt := top 13
abbrev sDraw : Stmt := top 14
abbrev sPick : Stmt := top 15
abbrev sMixed : Stmt := top 16
abbrev sLStanding : Stmt := top 17
abbrev sDeed : Stmt := top 18
abbrev sLTerm : Stmt := top 19
abbrev sLItems : Stmt := top 20
abbrev sLProgram : Stmt := top 21
abbrev sLCount : Stmt := top 22
abbrev sLLongs : Stmt := top 23
abbrev sLLed : Stmt := top 24
abbrev sLTold : Stmt := top 25
abbrev sLFew : Stmt := top 26
abbrev sLIsRun : Stmt := top 27
abbrev sLOften : Stmt := top 28
abbrev sLIsBound : Stmt := top 29
abbrev sLIsIdle : Stmt := top 30
abbrev sLDoubled : Stmt := top 31
abbrev sLIsDoubled : Stmt := top 32
abbrev sLIsChained : Stmt := top 33
abbrev sLaw : Stmt := top 34
end Kr
namespace Kr
open PySem PySem.Spec PyProof.Rows L2
/-! ### the deck: a dict of a list and a number, apart from all else -/
def hid (p l : Addr) (H : Hp) : Hp := fun b => if b = p ∨ b = l then none else H b
theorem hid_ne {p l b : Addr} {H : Hp} (h1 : b ≠ p) (h2 : b ≠ l) : hid p l H b = H b := by
  unfold hid
  rw [if_neg (fun h => h.elim h1 h2)]
theorem hid_some {p l b : Addr} {H : Hp} {o : HO} (h : hid p l H b = some o) : b ≠ p ∧ b ≠ l ∧ H b = some o := by
  unfold hid at h
  by_cases e : b = p ∨ b = l
  · rw [if_pos e] at h
    cases h
  · rw [if_neg e] at h
    exact ⟨fun z => e (.inl z), fun z => e (.inr z), h⟩
theorem hid_same (p l : Addr) (H : Hp) : Same (hid p l H) H := fun _ _ h => (hid_some h).2.2
abbrev Ext (p l : Addr) (H H' : Hp) : Prop := Same (hid p l H) (hid p l H')
theorem Ext.of {p l : Addr} {H H' : Hp} (s : Same H H') : Ext p l H H' := fun b o h => by
  obtain ⟨h1, h2, h3⟩ := hid_some h
  rw [hid_ne h1 h2]
  exact s _ _ h3
theorem Ext.rfl {p l : Addr} {H : Hp} : Ext p l H H := Same.refl _
abbrev kD : Key := Sum.inr ("deep" : Str)
abbrev kS : Key := Sum.inr ("state" : Str)
theorem kDS : ¬ kD = kS := by
  intro z
  exact absurd (Sum.inr.inj z) (by decide +kernel)
def dkv (x y : V) : List (Key × V) := [(kD, x), (kS, y)]
theorem dkv_d (x y : V) : valV (dkv x y) kD = some x := valV_pos rfl
theorem dkv_s (x y : V) : valV (dkv x y) kS = some y := (valV_neg kDS).trans (valV_pos rfl)
theorem kds : ¬ ("deep" : Str) = "state" := by decide +kernel
theorem ksd : ¬ ("state" : Str) = "deep" := by decide +kernel
theorem dkv_pd (x y z : V) : putK (dkv x y) kD z = dkv z y := by
  simp [putK, dkv, kds, ksd]
theorem dkv_ps (x y z : V) : putK (dkv x y) kS z = dkv x z := by
  simp [putK, dkv, kds, ksd]
theorem dkv_m (x y : V) : mergeK [] [(kD, x), (kS, y)] = dkv x y := by
  simp [mergeK, putK, dkv, kds, ksd]
structure Deck (H : Hp) (p l : Addr) : Prop where
  ex : ∃ (ds : List Int) (st : Int), H p = some (.dK (dkv (.ref l) (.int st))) ∧ H l = some (.lst (ds.map V.int)) ∧ ds.length ≤ 63
theorem Deck.ne {H : Hp} {p l : Addr} (d : Deck H p l) : p ≠ l := by
  obtain ⟨ds, st, h1, h2, _⟩ := d.ex
  exact ne_of h1 h2 (by intro z; cases z)
theorem Deck.up {H H' : Hp} {p l : Addr} (d : Deck H p l) (s : Same H H') : Deck H' p l := by
  obtain ⟨ds, st, h1, h2, h3⟩ := d.ex
  exact ⟨ds, st, s _ _ h1, s _ _ h2, h3⟩
/-- a new object stands apart -/
theorem Deck.new {H : Hp} {p l q : Addr} (d : Deck H p l) (h : H q = none) : q ≠ p ∧ q ≠ l := by
  obtain ⟨ds, st, h1, h2, h3⟩ := d.ex
  exact ⟨(ne_of_none h1 h).symm, (ne_of_none h2 h).symm⟩
theorem hid_upd {H : Hp} {p l q : Addr} {o : HO} (h1 : q ≠ p) (h2 : q ≠ l) : hid p l (upd H q o) q = some o := by
  rw [hid_ne h1 h2, upd_same]
def spDeck (K : PySem.W.Frag) : Sp := fun vs H Q _ => ∃ (a : Addr) (ns : List Int), vs = [.ref a] ∧ SqL K H a (ns.map V.int) ∧ ns.length ≤ 64 ∧ ∀ H' p l, Same H H' → H p = none → H l = none → Deck H' p l → Q (.ref p) H'
section
variable {P : Program} {w : World} {K : PySem.W.Frag} {mg : Str → Option Value} {base : Heap}
theorem scDeck : FnScope ["script", "deck", "cell", "whole", "state"] ["script"] (defScope sDeck) := ⟨rfl, rfl, rfl, by decide +kernel, rfl, by decide +kernel, by decide +kernel⟩
theorem ok_deck {f : Addr} {fd : FuncData} {k : Nat} (F : Fun K "_law_deck" "_law_deck" sDeck f fd) (B : Bi mg) : FnOk P w K mg base CX0 (k + 1) f fd ["script"] (spDeck K) := by
  refine F.ok scDeck (fun vs H Q E h => ?_) (fun cdv A outer s H vs Q E hr h => ?_)
  · obtain ⟨a, ns, rfl, _⟩ := h
    rfl
  · obtain ⟨a, ns, rfl, hS, hlen, q⟩ := h
    have hu := hu_of hr
    have hu1 := hu_of hr
    refine ⟨_, pss_cons (ps_set (i := 1) scDeck.nd rfl (.inl rfl) (pe_disp (pps_cons pe_str (pe_lst pa_nil) (pps_cons pe_str (pe_op op_add pe_int (pe_callB call_len_seq (by rfl) B.len boot_len (pa_cons (pe_slice sl_list (pv 0) po_none (po_some pe_int)) pa_nil))) pps_nil)) (by rfl) (by rfl) (fun z => by cases z) (by decide)))
      (pss_cons (ps_for PassesOwn.never rfl (pi_list (pe_slice sl_list (pv 0) po_none (po_some pe_int))) (pg_name (i := 2) scDeck.nd rfl (.inl rfl))
        (pss_cons (ps_set (i := 3) scDeck.nd rfl (.inl rfl) (pe_callB call_abs (by rfl) B.abs (by decide +kernel) (pa_cons (pv 2) pa_nil)))
        (pss_cons (ps_if (pt_cmpR op_ge (pv 3) (pe_op op_pow pe_int pe_int) (nomark _)) (pss_one (ps_dput hu1 (pv 1) pe_str (pe_op op_cat (pe_lst (pa_cons (pv 3) pa_nil)) (pe_dget hu1 (pv 1) pe_str (fun _ _ => rfl))) rfl)) pss_nil)
        (pss_cons (ps_set (i := 4) scDeck.nd rfl (.inl rfl) (pe_op op_add (pe_op op_mul (pe_op op_add (pe_op op_add (pe_op op_add (pe_dget hu1 (pv 1) pe_str (fun _ _ => rfl)) (pe_op op_mul pe_int (pv 3))) (pe_callTy call_int1 (by rfl) B.int (by decide +kernel) (pa_cons (pe_cmpR op_lt (pv 2) pe_int (nomark _)) pa_nil))) pe_int) pe_int) pe_int))
        (pss_one (ps_dput hu1 (pv 1) pe_str (pe_op op_mod (pe_callTy call_int1 (by rfl) B.int (by decide +kernel) (pa_cons (pv 4) pa_nil)) pe_int) rfl))))))
      (pss_one (ps_ret (pv 1)))), ?_⟩
    intro p np
    refine ⟨Nat.zero_le _, fun l nl => ?_⟩
    have s0 : Same H (upd (upd H p (.dK [])) l (.lst [])) := (same_new np).trans (same_new nl)
    have nlp : l ≠ p := fun z => by rw [z, upd_same] at nl; cases nl
    have nl0 : H l = none := by rw [upd_ne nlp] at nl; exact nl
    refine ⟨.ref a, rfl, 63, rfl, a, _, rfl, s0.seq hS, fun c nc => ?_⟩
    have ncp : c ≠ p := fun z => by rw [z, upd_ne nlp.symm, upd_same] at nc; cases nc
    have ncl : c ≠ l := fun z => by rw [z, upd_same] at nc; cases nc
    refine ⟨c, _, rfl, .inl (SqL.of upd_same), _, _, rfl, rfl, ?_⟩
    refine ⟨by rw [upd_ne ncp.symm, upd_ne nlp.symm, upd_same], [(kD, V.ref l), (kS, V.int _)], rfl, by show 2 ≤ 15; decide, ?_⟩
    rw [dkv_m]
    generalize ((1278749 : Int) + ((cutV (ns.map V.int) none (some 63)).length : Int)) = st0
    have s1 : Same (upd (upd H p (.dK [])) l (.lst [])) (upd (upd (upd H p (.dK [])) l (.lst [])) c (.lst (cutV (ns.map V.int) none (some 63)))) := same_new nc
    generalize hH1 : upd (upd (upd H p (.dK [])) l (.lst [])) c (.lst (cutV (ns.map V.int) none (some 63))) = H1 at s1
    have l1 : H1 l = some (.lst []) := s1 _ _ upd_same
    have s2 : Same H (upd H1 p (.dK (dkv (.ref l) (.int st0)))) := fun b o e => by
      rw [upd_ne (ne_of_none e np)]
      exact s1 _ _ (s0 _ _ e)
    refine ⟨.ref a, rfl, 63, rfl, a, _, rfl, s2.seq hS, fun c2 nc2 => ?_⟩
    have e63 : cutV (ns.map V.int) none (some 63) = (ns.take 63).map V.int := by
      unfold cutV
      rw [HT.sIx_none, show HT.sIx (ns.map V.int).length (ns.map V.int).length (some 63) = min 63 (ns.map V.int).length from HT.sIx_nat _ _ 63, List.drop_zero, Nat.sub_zero, List.map_take]
      by_cases c : 63 ≤ (ns.map V.int).length
      · rw [Nat.min_eq_left c]
      · rw [Nat.min_eq_right (by omega), List.take_of_length_le (Nat.le_refl _), List.take_of_length_le (by omega)]
    rw [e63]
    have hml : (ns.take 63).length ≤ 63 := by rw [List.length_take]; omega
    generalize ns.take 63 = ms at hml
    have c2p : c2 ≠ p := fun z => by rw [z, upd_same] at nc2; cases nc2
    have c2l : c2 ≠ l := fun z => by rw [z, upd_ne nlp, l1] at nc2; cases nc2
    refine ⟨c2, rfl, ⟨_, SqL.of upd_same⟩, for_list (K := K) (a := c2) (xs := ms.map V.int) (fun i σ H2 => ∃ v2 v3 v4 l ds st, σ = [some (.ref a), some (.ref p), v2, v3, v4] ∧ Same H H2 ∧ H2 c2 = some (.lst (ms.map V.int)) ∧ H2 p = some (.dK (dkv (.ref l) (.int st))) ∧ H2 l = some (.lst (ds.map V.int)) ∧ ds.length ≤ i ∧ H l = none ∧ c2 ≠ l)
      ⟨none, none, none, l, [], st0, rfl, s2.trans (same_new nc2), upd_same, by rw [upd_ne c2p.symm, upd_same], by rw [upd_ne c2l.symm, upd_ne nlp, l1]; rfl, Nat.le_refl _, nl0, c2l⟩ (fun i σ H2 _ ⟨_, _, _, _, _, _, _, _, h, _⟩ => SqL.of h) ?_ ?_⟩
    · rintro i y σ H2 hi ⟨v2, v3, v4, l, ds, st, rfl, sm, hc, hp, hl, hd, nl, ncl⟩
      have hil : i < ms.length := by
        have := (List.getElem?_eq_some_iff.mp hi).1
        rw [List.length_map] at this
        exact this
      obtain ⟨z, rfl⟩ : ∃ z, y = V.int z := by
        rw [List.getElem?_map] at hi
        cases e : ms[i]? with
        | none => rw [e] at hi; cases hi
        | some z => rw [e] at hi; exact ⟨z, (Option.some.inj hi).symm⟩
      have nlp : l ≠ p := ne_of hl hp (by intro z; cases z)
      refine ⟨.int z, rfl, z, rfl, ?_⟩
      generalize (if z < 0 then -z else z) = wz
      dsimp only [tNext]
      refine ⟨.int wz, rfl, _, _, rfl, rfl, ⟨by decide, by decide, by decide⟩, _, _, rfl, rfl, _, rfl, ?_⟩
      refine join2 (H2 := H2) (R := fun H3 => ∃ (l3 : Addr) (ds3 : List Int), Same H H3 ∧ H3 c2 = some (.lst (ms.map V.int)) ∧ H3 p = some (.dK (dkv (.ref l3) (.int st))) ∧ H3 l3 = some (.lst (ds3.map V.int)) ∧ ds3.length ≤ i + 1 ∧ H l3 = none ∧ c2 ≠ l3 ∧ l3 ≠ p)
        (fun H3 hR => ?_) (fun _ => ⟨l, ds, sm, hc, hp, hl, by omega, nl, ncl, nlp⟩) (fun _ tail => ?_)
      rotate_left
      · refine ⟨.int wz, rfl, by show 1 ≤ sizeLine; decide, fun l1 nl1 => ⟨.ref p, rfl, p, .ref l, rfl, ?_⟩⟩
        have n1p : l1 ≠ p := (ne_of_none hp nl1).symm
        have n1l : l1 ≠ l := (ne_of_none hl nl1).symm
        have n1c : l1 ≠ c2 := (ne_of_none hc nl1).symm
        have hp1 : upd H2 l1 (.lst [.int wz]) p = some (.dK (dkv (.ref l) (.int st))) := by rw [upd_ne n1p.symm]; exact hp
        refine ⟨by rw [← dkv_d (.ref l) (.int st)]; exact DGet.k (k := kD) hp1, l1, l, _, _, rfl, rfl, upd_same, by rw [upd_ne n1l.symm]; exact hl, by rw [List.length_map]; exact sz (by show 1 + ds.length ≤ 100000; omega), fun l2 nl2 => ?_⟩
        have n2p : l2 ≠ p := (ne_of_none hp1 nl2).symm
        have n2c : l2 ≠ c2 := fun z => by rw [z, upd_ne n1c.symm, hc] at nl2; cases nl2
        have sm2 : Same H (upd (upd H2 l1 (.lst [.int wz])) l2 (.lst ([.int wz] ++ ds.map V.int))) := (sm.trans (same_new nl1)).trans (same_new nl2)
        have hp2 : (upd (upd H2 l1 (.lst [.int wz])) l2 (.lst ([.int wz] ++ ds.map V.int))) p = some (.dK (dkv (.ref l) (.int st))) := by rw [upd_ne n2p.symm]; exact hp1
        refine ⟨.ref p, rfl, p, _, rfl, DPut.k (k := kD) hp2 (by show 2 < sizeLine; decide), ?_⟩
        rw [dkv_pd]
        have nl2' : H l2 = none := (sm.trans (same_new nl1)).free nl2
        refine tail (upd (upd (upd H2 l1 (.lst [.int wz])) l2 (.lst ([.int wz] ++ ds.map V.int))) p (.dK (dkv (.ref l2) (.int st)))) ⟨l2, wz :: ds, (fun b o e => by rw [upd_ne (ne_of_none e np)]; exact sm2 _ _ e), ?_, upd_same, ?_, (by rw [List.length_cons]; omega), nl2', n2c.symm, n2p⟩
        · rw [upd_ne c2p, upd_ne n2c.symm, upd_ne n1c.symm]
          exact hc
        · rw [upd_ne n2p, upd_same]
          rfl
      · obtain ⟨l3, ds3, sm3, hc3, hp3, hl3, hd3, nl3, ncl3, nlp3⟩ := hR
        refine ⟨.ref p, rfl, p, .int st, rfl, by rw [← dkv_s (.ref l3) (.int st)]; exact DGet.k (k := kS) hp3, .int wz, rfl, 2, _, rfl, rfl, .inl ⟨by decide, by decide⟩, _, _, rfl, rfl, .int z, rfl, z, 0, rfl, rfl, .inr ⟨_, rfl, ?_⟩⟩
        refine ⟨_, _, rfl, rfl, _, 1, rfl, rfl, _, 1181783497276652981, rfl, rfl, .inr ⟨by decide, by decide⟩, _, 521288629, rfl, rfl, ?_⟩
        dsimp only [tNext]
        refine ⟨_, rfl, .inl ⟨_, rfl, ?_⟩⟩
        refine ⟨_, 2305843009213693951, rfl, rfl, by show (0 : Int) < 2305843009213693951; decide, .ref p, rfl, p, _, rfl, DPut.k (k := kS) hp3 (by show 2 < sizeLine; decide), ?_⟩
        rw [dkv_ps]
        refine ⟨_, _, _, l3, ds3, _, rfl, fun b o e => ?_, ?_, upd_same, ?_, hd3, nl3, ncl3⟩
        · rw [upd_ne (ne_of_none e np)]
          exact sm3 _ _ e
        · rw [upd_ne c2p]
          exact hc3
        · rw [upd_ne nlp3]
          exact hl3
    · rintro σ H2 ⟨v2, v3, v4, l, ds, st, rfl, sm, hc, hp, hl, hd, nl, ncl⟩
      rw [List.length_map] at hd
      exact ⟨.ref p, rfl, q H2 p l sm np nl ⟨ds, st, hp, hl, by omega⟩⟩
end
end Kr
namespace Kr
open PySem PySem.Spec PyProof.Rows L2
def spDraw : Sp := fun vs H Q _ => ∃ (p l : Addr) (m : Int), vs = [.ref p, .int m] ∧ Deck H p l ∧ m < 1073741824 ∧ ∀ H' r, Deck H' p l → Ext p l H H' → 0 ≤ r → (r < m ∨ r = 0) → Q (.int r) H'
theorem dp_ints {K : PySem.W.Frag} {H : Hp} : ∀ ds : List Int, DpAll K H (ds.map V.int) (ds.map PyData.int)
  | [] => .nil
  | d :: ds => .cons (.int d) (dp_ints ds)
theorem lay_ints : ∀ ds : List Int, PyData.canLayAll0 (ds.map PyData.int) = true
  | [] => by simp [PyData.canLayAll0]
  | d :: ds => by simp [PyData.canLayAll0, PyData.canLay0, lay_ints ds]
theorem dep_ints : ∀ ds : List Int, PyData.depthAll (ds.map PyData.int) ≤ 1
  | [] => by simp [PyData.depthAll]
  | d :: ds => by
    have := dep_ints ds
    simp [PyData.depthAll, PyData.depth]
    omega
theorem shaped_ints (ds : List Int) : SeqAt.shaped (.list (ds.map PyData.int)) = true := by
  unfold SeqAt.shaped
  have := dep_ints ds
  simp [PyData.canLay0, lay_ints ds, PyData.depth]
  omega
theorem eqv_ints_nil (ds : List Int) : PyData.eqv (.list (ds.map PyData.int)) (.list []) = decide (ds = []) := by
  cases ds <;> simp [PyData.eqv, PyData.eqvAll]
theorem Ext.new {p l q : Addr} {H H' : Hp} {o : HO} (e : Ext p l H H') (h : H' q = none) : Ext p l H (upd H' q o) := fun b x hb => by
  have h2 := e b x hb
  obtain ⟨h3, h4, h5⟩ := hid_some h2
  rw [hid_ne h3 h4, upd_ne (ne_of_none h5 h)]
  exact h5
theorem Ext.at {p l q : Addr} {H H' : Hp} {o : HO} (e : Ext p l H H') (h : q = p ∨ q = l) : Ext p l H (upd H' q o) := fun b x hb => by
  have h2 := e b x hb
  obtain ⟨h3, h4, h5⟩ := hid_some h2
  have hq : b ≠ q := fun z => h.elim (fun w => h3 (z.trans w)) fun w => h4 (z.trans w)
  rw [hid_ne h3 h4, upd_ne hq]
  exact h5
section
variable {P : Program} {w : World} {K : PySem.W.Frag} {mg : Str → Option Value} {base : Heap}
theorem scDraw : FnScope ["deck", "many", "whole", "one", "two"] ["deck", "many"] (defScope sDraw) := ⟨rfl, rfl, rfl, by decide +kernel, rfl, by decide +kernel, by decide +kernel⟩
theorem ok_draw {f : Addr} {fd : FuncData} {k : Nat} (F : Fun K "_law_draw" "_law_draw" sDraw f fd) (B : Bi mg) : FnOk P w K mg base CX0 (k + 1) f fd ["deck", "many"] spDraw := by
  refine F.ok scDraw (fun vs H Q E h => ?_) (fun cdv A outer s H vs Q E hr h => ?_)
  · obtain ⟨p, l, m, rfl, _⟩ := h
    rfl
  · obtain ⟨p, l, m, rfl, D, hm, q⟩ := h
    have hu := hu_of hr
    refine ⟨_, pss_cons (ps_if (pt_cmpR op_lt (pv 1) pe_int (nomark _)) (pss_one (ps_ret pe_int)) pss_nil)
      (pss_cons (ps_if (pt_cmpR (op_neD hr.units) (pe_dget hu (pv 0) pe_str (fun _ _ => rfl)) (pe_lst pa_nil) (nomark _))
        (pss_cons (ps_set (i := 2) scDraw.nd rfl (.inl rfl) (pe_bm0 PySem.F.plainAttrs_list PySem.F.slot_list_pop PySem.F.type_list_pop mt_pop (pe_dget hu (pv 0) pe_str (fun _ _ => rfl))))
        (pss_cons (ps_if (pt_cmpR op_ge (pv 2) (pv 1) (nomark _)) (pss_one (ps_expr (pe_bm PySem.F.plainAttrs_list PySem.F.slot_list_append PySem.F.type_list_append mt_append (pe_dget hu (pv 0) pe_str (fun _ _ => rfl)) (pa_cons (pe_op op_fdiv (pv 2) (pv 1)) pa_nil)))) pss_nil)
        (pss_one (ps_ret (pe_op op_mod (pe_callTy call_int1 (by rfl) B.int (by decide +kernel) (pa_cons (pv 2) pa_nil)) (pv 1)))))) pss_nil)
      (pss_cons (ps_set (i := 3) scDraw.nd rfl (.inl rfl) (pe_op op_mod (pe_callTy call_int1 (by rfl) B.int (by decide +kernel) (pa_cons (pe_op op_add (pe_op op_mul (pe_dget hu (pv 0) pe_str (fun _ _ => rfl)) pe_int) pe_int) pa_nil)) pe_int))
      (pss_cons (ps_dput hu (pv 0) pe_str (pv 3) rfl)
      (pss_cons (ps_set (i := 4) scDraw.nd rfl (.inl rfl) (pe_op op_mod (pe_callTy call_int1 (by rfl) B.int (by decide +kernel) (pa_cons (pe_op op_add (pe_op op_add (pe_op op_mul (pv 3) (pv 3)) (pe_op op_mul pe_int (pv 3))) pe_int) pa_nil)) pe_int))
      (pss_one (ps_ret (pe_op op_mod (pe_callTy call_int1 (by rfl) B.int (by decide +kernel) (pa_cons (pe_op op_fdiv (pv 4) pe_int) pa_nil)) (pv 1)))))))), ?_⟩
    refine ⟨.int m, rfl, m, 2, rfl, rfl, _, rfl, ite2 (fun _ => ?_) (fun hm2 => ?_)⟩
    · exact q H 0 D Ext.rfl (Int.le_refl _) (.inr rfl)
    have hm1 : ¬ m < 2 := fun z => hm2 (decide_eq_true z)
    obtain ⟨ds, st, hp, hl, hd⟩ := id D.ex
    have hgd : DGet H p (V.str "deep") (some (.ref l)) := by rw [← dkv_d (.ref l) (.int st)]; exact DGet.k (k := kD) hp
    refine ⟨.ref p, rfl, p, .ref l, rfl, hgd, by show 0 ≤ sizeLine; decide, fun e ne => ?_⟩
    have nep : e ≠ p := (ne_of_none hp ne).symm
    have nel : e ≠ l := (ne_of_none hl ne).symm
    have nlp : l ≠ p := D.ne.symm
    refine ⟨.list (ds.map PyData.int), .list [], .lst (SqL.of (by rw [upd_ne nel.symm]; exact hl)) (dp_ints ds), .lst (SqL.of upd_same) .nil, shaped_ints ds, shaped_ints [], ?_⟩
    rw [eqv_ints_nil]
    have hp1 : upd H e (.lst []) p = some (.dK (dkv (.ref l) (.int st))) := by rw [upd_ne nep.symm]; exact hp
    have hl1 : upd H e (.lst []) l = some (.lst (ds.map V.int)) := by rw [upd_ne nel.symm]; exact hl
    have E1 : Ext p l H (upd H e (.lst [])) := Ext.rfl.new ne
    generalize upd H e (.lst []) = H1 at hp1 hl1 E1
    have hgd1 : DGet H1 p (V.str "deep") (some (.ref l)) := by rw [← dkv_d (.ref l) (.int st)]; exact DGet.k (k := kD) hp1
    have hgs1 : DGet H1 p (V.str "state") (some (.int st)) := by rw [← dkv_s (.ref l) (.int st)]; exact DGet.k (k := kS) hp1
    refine ⟨_, rfl, ?_⟩
    by_cases hds : ds = []
    · -- mixed numbers
      rw [decide_eq_true hds]
      refine iteF ?_
      refine ⟨.ref p, rfl, p, .int st, rfl, hgs1, _, _, rfl, rfl, .inr ⟨by decide, by decide⟩, _, _, rfl, rfl, .inl ⟨_, rfl, _, _, rfl, rfl, (by show (0 : Int) < 2305843009213693951; decide), ?_⟩⟩
      dsimp only
      have o0 : 0 ≤ ((st * 1181783497276652981 + 88172645463325) % 2305843009213693951 : Int) := Int.emod_nonneg _ (by decide)
      have o1 : ((st * 1181783497276652981 + 88172645463325) % 2305843009213693951 : Int) < 2305843009213693951 := Int.emod_lt_of_pos _ (by decide)
      generalize ((st * 1181783497276652981 + 88172645463325) % 2305843009213693951 : Int) = one at o0 o1
      refine ⟨.int one, rfl, .ref p, rfl, p, _, rfl, DPut.k (k := kS) hp1 (by show 2 < sizeLine; decide), ?_⟩
      rw [dkv_ps]
      refine ⟨.int one, rfl, .int one, rfl, _, _, rfl, rfl, .inl ⟨by omega, by omega⟩, .int one, rfl, _, _, rfl, rfl, .inl ⟨by decide, by decide⟩, _, _, rfl, rfl, _, _, rfl, rfl, .inl ⟨_, rfl, _, _, rfl, rfl, (by show (0 : Int) < 2305843009213693921; decide), ?_⟩⟩
      dsimp only
      generalize ((one * one + 374761393 * one + 11) % 2305843009213693921 : Int) = two
      refine ⟨.int two, rfl, _, _, rfl, rfl, ⟨by decide, by decide⟩, .inl ⟨_, rfl, .int m, rfl, _, _, rfl, rfl, (by show 0 < m; omega), ?_⟩⟩
      refine q _ _ ⟨ds, one, upd_same, by rw [upd_ne nlp]; exact hl1, hd⟩ (E1.at (.inl rfl)) (Int.emod_nonneg _ (by omega)) (.inl (Int.emod_lt_of_pos _ (by omega)))
    · -- a digit of a great cell
      rw [decide_eq_false hds]
      refine iteT ?_
      obtain ⟨last, hlast⟩ : ∃ y, ds[ds.length - 1]? = some y := ⟨_, List.getElem?_eq_getElem (by
        have := List.length_pos_iff.mpr hds
        omega)⟩
      refine ⟨.ref p, rfl, p, .ref l, rfl, hgd1, .inl ⟨rfl, _, SqL.of hl1⟩, l, _, .int last, rfl, rfl, hl1, by rw [List.length_map, List.getElem?_map, hlast]; rfl, ?_⟩
      rw [← List.map_dropLast]
      have hdl : ds.dropLast.length ≤ 62 := by rw [List.length_dropLast]; omega
      have hp2 : upd H1 l (.lst (ds.dropLast.map V.int)) p = some (.dK (dkv (.ref l) (.int st))) := by rw [upd_ne nlp.symm]; exact hp1
      have hl2 : upd H1 l (.lst (ds.dropLast.map V.int)) l = some (.lst (ds.dropLast.map V.int)) := upd_same
      have E2 : Ext p l H (upd H1 l (.lst (ds.dropLast.map V.int))) := E1.at (.inr rfl)
      generalize ds.dropLast = ds2 at hdl hp2 hl2 E2
      generalize upd H1 l (.lst (ds2.map V.int)) = H2 at hp2 hl2 E2
      have hgd2 : DGet H2 p (V.str "deep") (some (.ref l)) := by rw [← dkv_d (.ref l) (.int st)]; exact DGet.k (k := kD) hp2
      refine ⟨.int last, rfl, .int m, rfl, _, _, rfl, rfl, _, rfl, ?_⟩
      refine join2 (H2 := H2) (R := fun H3 => ∃ ds3 : List Int, H3 p = some (.dK (dkv (.ref l) (.int st))) ∧ H3 l = some (.lst (ds3.map V.int)) ∧ ds3.length ≤ 63 ∧ Ext p l H H3)
        (fun H3 hR => ?_) (fun _ => ⟨ds2, hp2, hl2, by omega, E2⟩) (fun _ tail => ?_)
      · obtain ⟨ds3, hp3, hl3, hd3, E3⟩ := hR
        refine ⟨.int last, rfl, .inl ⟨_, rfl, .int m, rfl, _, _, rfl, rfl, (by show 0 < m; omega), ?_⟩⟩
        exact q _ _ ⟨ds3, st, hp3, hl3, hd3⟩ E3 (Int.emod_nonneg _ (by omega)) (.inl (Int.emod_lt_of_pos _ (by omega)))
      · refine ⟨.ref p, rfl, p, .ref l, rfl, hgd2, .inl ⟨rfl, _, SqL.of hl2⟩, .int last, rfl, .int m, rfl, _, _, rfl, rfl, ⟨by omega, hm⟩, l, _, _, rfl, rfl, hl2, szl (by rw [List.length_map]; omega), ?_⟩
        refine tail _ ⟨ds2 ++ [last / m], by rw [upd_ne nlp.symm]; exact hp2, ?_, by rw [List.length_append]; show _ + 1 ≤ 63; omega, E2.at (.inr rfl)⟩
        rw [upd_same, List.map_append]
        rfl
end
end Kr
namespace Kr
open PySem PySem.Spec PyProof.Rows L2
/-! ### defs by their names -/
section
variable {P : Program} {w : World} {K : PySem.W.Frag} {mg : Str → Option Value} {base : Heap}
end
/-- one of some items -/
def spPick : Sp := fun vs H Q _ => ∃ (p l a : Addr) (xs : List V), vs = [.ref p, .ref a] ∧ Deck H p l ∧ hid p l H a = some (.lst xs) ∧ xs ≠ [] ∧ xs.length < 1000000 ∧ ∀ H' v, Deck H' p l → Ext p l H H' → v ∈ xs → Q v H'
section
variable {P : Program} {w : World} {K : PySem.W.Frag} {mg : Str → Option Value} {base : Heap}
theorem o_draw (D : Df K mg "_law_draw" sDraw ["deck", "many"]) (B : Bi mg) : Ok P w K mg base 1 "_law_draw" ["deck", "many"] spDraw := D.ok fun _ _ F => ok_draw F B
theorem o_deck (D : Df K mg "_law_deck" sDeck ["script"]) (B : Bi mg) : Ok P w K mg base 1 "_law_deck" ["script"] (spDeck K) := D.ok fun _ _ F => ok_deck F B
theorem scPick : FnScope ["deck", "items"] ["deck", "items"] (defScope sPick) := ⟨rfl, rfl, rfl, by decide +kernel, rfl, by decide +kernel, by decide +kernel⟩
theorem o_pick (D : Df K mg "_law_pick" sPick ["deck", "items"]) (B : Bi mg) (d : Ok P w K mg base 1 "_law_draw" ["deck", "many"] spDraw) : Ok P w K mg base 2 "_law_pick" ["deck", "items"] spPick := by
  refine D.ok fun f fd F => F.ok scPick (fun vs H Q E h => ?_) (fun cdv A outer s H vs Q E hr h => ?_)
  · obtain ⟨p, l, a, xs, rfl, _⟩ := h
    rfl
  · obtain ⟨p, l, a, xs, rfl, Dk, ha, hne, hlen, q⟩ := h
    refine ⟨_, pss_one (ps_ret (pe_ix ix_list (pv 1) (pe_fn d hr (by rfl) (pa_cons (pv 0) (pa_cons (pe_callB call_len_seq (by rfl) B.len boot_len (pa_cons (pv 1) pa_nil)) pa_nil))) (fun _ _ => rfl))), ?_⟩
    have hpos := List.length_pos_iff.mpr hne
    refine ⟨.ref a, rfl, .ref p, rfl, .ref a, rfl, a, xs, rfl, .inl (SqL.of (hid_same p l H _ _ ha)), p, l, _, rfl, Dk, by show (xs.length : Int) < 1073741824; omega, fun H' r Dk' e h0 h1 => ?_⟩
    have hr2 : r.toNat < xs.length := by omega
    refine ⟨a, xs, r, xs[r.toNat], rfl, rfl, SqL.of (hid_same p l H' _ _ (e _ _ ha)), ?_, q H' _ Dk' e (List.getElem_mem hr2)⟩
    exact atI_int h0 (List.getElem?_eq_getElem hr2)
end
end Kr
namespace Kr
open PySem PySem.Spec PyProof.Rows L2
/-! ### beside the deck -/
theorem Ext.mut {p l f : Addr} {H H' : Hp} {o : HO} (e : Ext p l H H') (h : H f = none) : Ext p l H (upd H' f o) := fun b x hb => by
  obtain ⟨_, _, h5⟩ := hid_some hb
  obtain ⟨h1, h2, h3⟩ := hid_some (e b x hb)
  rw [hid_ne h1 h2, upd_ne (ne_of_none h5 h)]
  exact h3
theorem Deck.mut {H : Hp} {p l f : Addr} {o : HO} (d : Deck H p l) (h1 : f ≠ p) (h2 : f ≠ l) : Deck (upd H f o) p l := by
  obtain ⟨ds, st, a, b, c⟩ := d.ex
  exact ⟨ds, st, by rw [upd_ne h1.symm]; exact a, by rw [upd_ne h2.symm]; exact b, c⟩
theorem Ext.free {p l f : Addr} {H H' : Hp} (e : Ext p l H H') (h : H' f = none) (h1 : f ≠ p) (h2 : f ≠ l) : H f = none := by
  cases q : H f with
  | none => rfl
  | some o =>
    have := (hid_some (e f o (by rw [hid_ne h1 h2]; exact q))).2.2
    rw [h] at this
    cases this
theorem Ext.at_ {p l f : Addr} {H H' : Hp} {o : HO} (e : Ext p l H H') (h1 : f ≠ p) (h2 : f ≠ l) (q : H f = some o) : H' f = some o := (hid_some (e f o (by rw [hid_ne h1 h2]; exact q))).2.2
/-- tuples stand apart from the deck -/
theorem TS.hide {p l : Addr} {H : Hp} (D : Deck H p l) : TS H (hid p l H) := fun b xs h => by
  obtain ⟨ds, st, h1, h2, _⟩ := D.ex
  rw [hid_ne (ne_of h h1 (by intro z; cases z)) (ne_of h h2 (by intro z; cases z))]
  exact h
theorem TS.deck {p l : Addr} {H H' : Hp} (D : Deck H p l) (E : Ext p l H H') : TS H H' := (TS.hide D).trans ((TS.of E).trans (TS.of (hid_same p l H')))
/-- a list of a new address stands apart -/
structure Apart (p l f : Addr) : Prop where
  p : f ≠ p
  l : f ≠ l
theorem Deck.apart {H : Hp} {p l q : Addr} (d : Deck H p l) (h : H q = none) : Apart p l q := ⟨(d.new h).1, (d.new h).2⟩
theorem Apart.of {H : Hp} {p l f : Addr} (d : Deck H p l) (h : hid p l H f ≠ none) : Apart p l f := by
  cases q : hid p l H f with
  | none => exact absurd q h
  | some o => exact ⟨(hid_some q).1, (hid_some q).2.1⟩
end Kr
namespace Kr
open PySem PySem.Spec PyProof.Rows L2
theorem new_dq {p l q : Addr} {H : Hp} {o : HO} (D : Deck H p l) (h : H q = none) : Ext p l H (upd H q o) ∧ Deck (upd H q o) p l ∧ hid p l (upd H q o) q = some o := by
  obtain ⟨h1, h2⟩ := D.new h
  exact ⟨Ext.rfl.new h, D.mut h1 h2, hid_upd h1 h2⟩
theorem seqIx {r : Int} {n : Nat} (h0 : 0 ≤ r) (h1 : r < n) : seqIndex? r n = some r.toNat := (ixN_seq (by unfold ixN; rw [if_pos h0, if_pos h1])).1
theorem erasev_perm (zs : List V) {k : Nat} (h : k < zs.length) : (zs[k] :: zs.eraseIdx k).Perm zs := by
  rw [List.eraseIdx_eq_take_drop_succ]
  have e : zs = zs.take k ++ zs[k] :: zs.drop (k + 1) := by
    rw [← List.drop_eq_getElem_cons h, List.take_append_drop]
  exact List.perm_middle.symm.trans (.of_eq e.symm)
/-- items in a drawn order -/
def spMixV : Sp := fun vs H Q _ => ∃ (p l a : Addr) (xs : List V), vs = [.ref p, .ref a] ∧ Deck H p l ∧ hid p l H a = some (.lst xs) ∧ xs.length ≤ 1000 ∧
  ∀ (H' : Hp) (f : Addr) (ys : List V), Deck H' p l → Ext p l H H' → H f = none → hid p l H' f = some (.lst ys) → ys.Perm xs → Q (.ref f) H'
def spDeed : Sp := fun vs H Q _ => ∃ (p l : Addr) (n : Nat), vs = [.ref p, .int (n : Int)] ∧ Deck H p l ∧ 3 ≤ n ∧ n ≤ 6 ∧ ∀ H' v m, Deck H' p l → Ext p l H H' → DeedAt H' v m → Deed n m → Q v H'
def spDrawn : Sp := fun vs H Q _ => ∃ (p l : Addr) (n : Nat), vs = [.ref p, .int (n : Int)] ∧ Deck H p l ∧ 3 ≤ n ∧ n ≤ 6 ∧ ∀ H' v T, Deck H' p l → Ext p l H H' → Dq H' v (tabD T) → TabOk n T → Q v H'
end Kr
namespace Kr
open PySem PySem.Spec PyProof.Rows L2
/-! ### beside an empty list -/
def rEqN : R2 := fun x y H Q => ∃ l b xs, x = .ref l ∧ y = .ref b ∧ H l = some (.lst xs) ∧ H b = some (.lst []) ∧ Q (.bl xs.isEmpty) H
theorem op_eqN {X : Cx} (hu : X.A.units + 64 < cLine) : OpR X (compareOp .Eq) rEqN := by
  intro pins s σ H x y v u Q I rx ry h
  obtain ⟨l, b, xs, rfl, rfl, hl, hb, q⟩ := h
  obtain rfl : v = Value.ref l := rx
  obtain rfl : u = Value.ref b := ry
  obtain ⟨its, r1, p1, _⟩ := I.list (SqL.of (K := X.K) hl)
  obtain ⟨it2, r2, p2, _⟩ := I.list (SqL.of (K := X.K) hb)
  cases r2
  cases r1 with
  | nil => exact SeqAt.RcAt.lists (e := fun _ => true) p1.isList p2.isList rfl (by omega) (fun j h1 _ => absurd h1 (by simp)) X.prog X.w X.xe _ ⟨.bl true, H, I, by rfl, q⟩
  | cons _ _ => exact SeqAt.RcAt.lists_lengths p1.isList p2.isList (by simp) (by omega) X.prog X.w X.xe _ ⟨.bl false, H, I, rfl, q⟩
/-- a list beside one without items -/
def rNeN : R2 := fun x y H Q => ∃ l b xs, x = .ref l ∧ y = .ref b ∧ H l = some (.lst xs) ∧ H b = some (.lst []) ∧ Q (.bl (!xs.isEmpty)) H
theorem op_neN {X : Cx} (hu : X.A.units + 64 < cLine) : OpR X (compareOp .NotEq) rNeN := by
  intro pins s σ H x y v u Q I rx ry h
  obtain ⟨l, b, xs, rfl, rfl, hl, hb, q⟩ := h
  obtain rfl : v = Value.ref l := rx
  obtain rfl : u = Value.ref b := ry
  obtain ⟨its, r1, p1, _⟩ := I.list (SqL.of (K := X.K) hl)
  obtain ⟨it2, r2, p2, _⟩ := I.list (SqL.of (K := X.K) hb)
  cases r2
  have hn : its.length = xs.length := r1.length.symm
  by_cases he : xs = []
  · subst he
    have : its = [] := List.length_eq_zero_iff.mp hn
    subst this
    exact SeqAt.RcNeAt.lists (e := fun _ => true) p1.isList p2.isList rfl (by omega) (fun j h1 _ => absurd h1 (by simp)) X.prog X.w X.xe _ ⟨.bl false, H, I, by rfl, q⟩
  · have hne : (its.toArray.size != ([] : List Value).toArray.size) = true := by
      have := List.length_pos_iff.mpr he
      simp
      intro z
      subst z
      simp at hn
      exact he (List.length_eq_zero_iff.mp hn.symm)
    have e1 : (!xs.isEmpty) = true := by
      cases xs with
      | nil => exact absurd rfl he
      | cons _ _ => rfl
    rw [e1] at q
    exact SeqAt.RcNeAt.lists_lengths p1.isList p2.isList hne (by omega) X.prog X.w X.xe _ ⟨.bl true, H, I, rfl, q⟩
/-- zip of two tuples, of any lengths -/
theorem walk_zipT {K : PySem.W.Frag} {a b : Addr} {xs ys : List V} {n : Nat} (hn : n = min xs.length ys.length) : Walk (RZ.ItzT K a b) n (fun H => SqT K H a xs ∧ SqT K H b ys) (YPair (fun i => xs[i]?) (fun i => ys[i]?)) := by
  subst hn
  refine ⟨fun i _ hi q => ?_, fun _ ⟨q1, q2⟩ => ⟨xs, ys, q1, q2, (by omega)⟩, fun i H v H' _ ⟨q1, q2⟩ y => ?_⟩
  · obtain ⟨g1, g2⟩ := Nat.lt_min.mp hi
    exact ⟨xs, ys, xs[i], ys[i], q.1, q.2, List.getElem?_eq_getElem g1, List.getElem?_eq_getElem g2⟩
  · obtain ⟨T, x, z, t1, t2, t3, t4, t5⟩ := y
    exact ⟨T, x, z, t1, t2, t3, t4 _ q1, t5 _ q2⟩
theorem vals_ints_flat (ns : List Int) : flatV (.int 0) = true := rfl
end Kr
namespace Kr
open PySem PySem.Spec PyProof.Rows L2
section
variable {P : Program} {w : World} {K : PySem.W.Frag} {mg : Str → Option Value} {base : Heap}
abbrev nMw : List Str := ["deck", "items", "left", "found"]
theorem scMixW : FnScope nMw ["deck", "items"] (defScope sMixed) := ⟨rfl, rfl, rfl, by decide +kernel, rfl, by decide +kernel, by decide +kernel⟩
theorem o_mixed (D : Df K mg "_law_mixed" sMixed ["deck", "items"]) (B : Bi mg) (d : Ok P w K mg base 1 "_law_draw" ["deck", "many"] spDraw) : Ok P w K mg base 2 "_law_mixed" ["deck", "items"] spMixV := by
  refine D.ok fun fa fd F => F.ok scMixW (fun vs H Q E h => ?_) (fun cdv A outer s H vs Q E hr h => ?_)
  · obtain ⟨p, l, a, xs, rfl, _⟩ := h
    rfl
  · obtain ⟨p, l, a, xs, rfl, Dk, ha, hlen, q⟩ := h
    have hu : (cxOf CX0 P w K mg base nMw "_law_mixed" (defScope sMixed) fa cdv A outer s H E).A.units + 64 < cLine := hr.units
    refine ⟨_, pss_cons (ps_par (i := 2) (j := 3) rfl scMixW.nd rfl rfl (by decide) rfl rfl (pa_cons (pe_callTy call_list_of (by rfl) B.list (by decide +kernel) (pa_cons (pv 1) pa_nil)) (pa_cons (pe_lst pa_nil) pa_nil)) (by rfl))
      (pss_cons (ps_while PassesOwn.never (pt_cmpR (op_neN hu) (pv 2) (pe_lst pa_nil) (nomark _))
        (pss_one (ps_expr (pe_bm PySem.F.plainAttrs_list PySem.F.slot_list_append PySem.F.type_list_append mt_append (pv 3) (pa_cons
          (pe_bm PySem.F.plainAttrs_list PySem.F.slot_list_pop PySem.F.type_list_pop mt_popAt (pv 2) (pa_cons (pe_fn d hr (by rfl) (pa_cons (pv 0) (pa_cons (pe_callB call_len_seq (by rfl) B.len boot_len (pa_cons (pv 2) pa_nil)) pa_nil))) pa_nil)) pa_nil)))))
      (pss_one (ps_ret (pv 3)))), ?_⟩
    refine ⟨.ref a, rfl, a, _, rfl, .inl (SqL.of (hid_same p l H _ _ ha)), fun lf nlf => ?_⟩
    obtain ⟨nlp, nll⟩ := Dk.new nlf
    obtain ⟨e1, D1, _⟩ := new_dq (o := .lst xs) Dk nlf
    refine ⟨by show 0 ≤ sizeLine; decide, fun f nf => ?_⟩
    obtain ⟨nfp, nfl⟩ := D1.new nf
    have nff : f ≠ lf := fun z => by rw [z, upd_same] at nf; cases nf
    have nf0 : H f = none := by rw [upd_ne nff] at nf; exact nf
    obtain ⟨e2, D2, _⟩ := new_dq (o := .lst []) D1 nf
    refine ⟨_, _, rfl, ?_⟩
    refine while_by (fun σ H6 => ∃ (zs ys : List V), σ = [some (.ref p), some (.ref a), some (.ref lf), some (.ref f)] ∧ Deck H6 p l ∧ Ext p l H H6 ∧ H6 lf = some (.lst zs) ∧ H6 f = some (.lst ys) ∧ (ys ++ zs).Perm xs)
      (fun σ H6 => match H6 lf with | some (.lst zs) => zs.length | _ => 0) ⟨xs, [], rfl, D2, e1.trans e2, by rw [upd_ne nff.symm, upd_same], upd_same, .refl _⟩ ?_ ?_
    · rintro σ H6 ⟨zs, ys, rfl, D6, E6, hz, hy, hp⟩
      have hll := hp.length_eq
      rw [List.length_append] at hll
      refine ⟨.ref lf, rfl, by show 0 ≤ sizeLine; decide, fun c nc => ?_⟩
      have ncl : c ≠ lf := (ne_of_none hz nc).symm
      have ncf : c ≠ f := (ne_of_none hy nc).symm
      obtain ⟨e7, D7, _⟩ := new_dq (o := .lst []) D6 nc
      have hz7 : upd H6 c (.lst []) lf = some (.lst zs) := by rw [upd_ne ncl.symm]; exact hz
      have hy7 : upd H6 c (.lst []) f = some (.lst ys) := by rw [upd_ne ncf.symm]; exact hy
      have E7 := E6.trans e7
      refine ⟨lf, c, zs, rfl, rfl, hz7, upd_same, _, rfl, ?_⟩
      generalize upd H6 c (.lst []) = H7 at D7 E7 hz7 hy7
      cases zs with
      | nil => exact iteF ⟨.ref f, rfl, q H7 f ys D7 E7 nf0 (by rw [hid_ne nfp nfl]; exact hy7) (by rw [List.append_nil] at hp; exact hp)⟩
      | cons z0 zr =>
        refine iteT ?_
        generalize hzz : z0 :: zr = zs at hz7 hp hll hz
        have hpos : 0 < zs.length := by rw [← hzz]; simp
        refine ⟨.ref f, rfl, .inl ⟨rfl, _, SqL.of hy7⟩, .ref lf, rfl, .inl ⟨rfl, _, SqL.of hz7⟩, .ref p, rfl, .ref lf, rfl, lf, _, rfl, .inl (SqL.of hz7), p, l, _, rfl, D7, by omega, fun H8 r D8 E8 h0 h1 => ?_⟩
        have hr : r.toNat < zs.length := by omega
        have hz8 : H8 lf = some (.lst zs) := (hid_some (E8 lf _ (by rw [hid_ne nlp nll]; exact hz7))).2.2
        have hy8 : H8 f = some (.lst ys) := (hid_some (E8 f _ (by rw [hid_ne nfp nfl]; exact hy7))).2.2
        have E9 := E7.trans E8
        refine ⟨lf, zs, r, r.toNat, zs[r.toNat], rfl, rfl, hz8, by omega, by omega, seqIx h0 (by omega), List.getElem?_eq_getElem hr, ?_⟩
        refine ⟨f, ys, zs[r.toNat], rfl, rfl, by rw [upd_ne nff]; exact hy8, szl (by omega), ?_⟩
        refine ⟨⟨zs.eraseIdx r.toNat, ys ++ [zs[r.toNat]], rfl, (D8.mut nlp nll).mut nfp nfl, Ext.mut (Ext.mut E9 nlf) nf0, ?_, ?_, ?_⟩, ?_⟩
        · rw [upd_ne nff.symm, upd_same]
        · rw [upd_same]
        · rw [List.append_assoc]
          exact (List.Perm.append_left ys (erasev_perm zs hr)).trans hp
        · show (match upd (upd H8 lf _) f _ lf with | some (.lst zs) => zs.length | _ => 0) < (match H6 lf with | some (.lst zs) => zs.length | _ => 0)
          rw [upd_ne nff.symm, upd_same, hz]
          show (zs.eraseIdx r.toNat).length < zs.length
          rw [List.length_eraseIdx, if_pos hr]
          omega
    · rintro σ H6 Q1 Q2 hq ⟨x, hx, hs, g⟩
      refine ⟨x, hx, hs, fun c nc => ?_⟩
      obtain ⟨l', b, ws, i1, i2, i3, i4, kk, i5, i6⟩ := g c nc
      exact ⟨l', b, ws, i1, i2, i3, i4, kk, i5, hq _ _ i6⟩
end
end Kr
namespace Kr
open PySem PySem.Spec PyProof.Rows L2
def spDeed7 : Sp := fun vs H Q _ => ∃ (p l : Addr) (n : Nat), vs = [.ref p, .int (n : Int)] ∧ Deck H p l ∧ 3 ≤ n ∧ n ≤ 24 ∧ ∀ H' v (d : Mv), Deck H' p l → Ext p l H H' → Dq H' v (deedD d) → Deed n d → Q v H'
theorem ints_of {ys : List V} {us : List Int} (hp : ys.Perm (us.map V.int)) : ∃ zs : List Int, ys = zs.map V.int ∧ zs.Perm us := by
  have hy : ∀ y ∈ ys, ∃ z, V.int z = y := fun y hy => by
    obtain ⟨z, _, e⟩ := List.mem_map.mp (hp.subset hy)
    exact ⟨z, e⟩
  have hg : ∀ ys : List V, (∀ y ∈ ys, ∃ z, V.int z = y) → ∃ zs : List Int, ys = zs.map V.int := by
    intro ys
    induction ys with
    | nil => intro _; exact ⟨[], rfl⟩
    | cons y ys ih =>
      intro h
      obtain ⟨z, rfl⟩ := h y List.mem_cons_self
      obtain ⟨zs, rfl⟩ := ih fun y hy => h y (List.mem_cons_of_mem _ hy)
      exact ⟨z :: zs, rfl⟩
  obtain ⟨zs, rfl⟩ := hg ys hy
  refine ⟨zs, rfl, ?_⟩
  have := hp.map (fun v => match v with | V.int z => z | _ => 0)
  simpa [List.map_map, Function.comp_def] using this
section
variable {P : Program} {w : World} {K : PySem.W.Frag} {mg : Str → Option Value} {base : Heap}
abbrev nDd : List Str := ["deck", "many", "row", "size"]
theorem scDd : FnScope nDd ["deck", "many"] (defScope sDeed) := ⟨rfl, rfl, rfl, by decide +kernel, rfl, by decide +kernel, by decide +kernel⟩
theorem o_deed7 (D0 : Df K mg "_law_deed" sDeed ["deck", "many"]) (B : Bi mg) (dr : Ok P w K mg base 1 "_law_draw" ["deck", "many"] spDraw) (mx : Ok P w K mg base 2 "_law_mixed" ["deck", "items"] spMixV) (pk : Ok P w K mg base 2 "_law_pick" ["deck", "items"] spPick) : Ok P w K mg base 3 "_law_deed" ["deck", "many"] spDeed7 := by
  refine D0.ok fun f fd F => F.ok scDd (fun vs H Q E h => ?_) (fun cdv A outer s H vs Q E hr h => ?_)
  · obtain ⟨p, l, n, rfl, _⟩ := h
    rfl
  · obtain ⟨p, l, n, rfl, Dk, n0, n1, q⟩ := h
    have hr1 := hr.mono (show 1 ≤ 2 by decide)
    refine ⟨_, pss_cons (ps_set (i := 2) scDd.nd rfl (.inl rfl) (pe_fn mx hr (by rfl) (pa_cons (pv 0) (pa_cons (pe_listRg rfl (by rfl) B.list (prg_1 (by rfl) B.range (pv 1))) pa_nil))))
      (pss_cons (ps_set (i := 3) scDd.nd rfl (.inl rfl) (pe_fn pk hr (by rfl) (pa_cons (pv 0) (pa_cons (pe_lst (pa_cons pe_int (pa_cons pe_int (pa_cons pe_int (pa_cons pe_int (pa_cons (pe_fn dr hr1 (by rfl) (pa_cons (pv 0) (pa_cons (pe_op op_sub (pv 1) pe_int) pa_nil))) pa_nil)))))) pa_nil))))
      (pss_one (ps_ret (pe_tup (pa_cons (pe_callTy call_tuple_of (by rfl) B.tuple (by decide +kernel) (pa_cons (pe_callB cr_sortedI (by rfl) B.sorted (by decide +kernel) (pa_cons (pe_slice sl_list (pv 2) (po_some pe_int) (po_some (pe_op op_add pe_int (pv 3)))) pa_nil)) pa_nil)) (pa_cons (pe_callB (cr_min rfl) (by rfl) B.min (by decide +kernel) (pa_cons (pe_slice sl_list (pv 2) po_none (po_some pe_int)) pa_nil)) (pa_cons (pe_callB (cr_max rfl) (by rfl) B.max (by decide +kernel) (pa_cons (pe_slice sl_list (pv 2) po_none (po_some pe_int)) pa_nil)) pa_nil))))))), ?_⟩
    refine ⟨.ref p, rfl, .int n, rfl, (n : Int), rfl, RgOk.of_le (Int.le_refl _) (by omega) (by decide) (by omega), fun b nb => ?_⟩
    rw [rg_ups]
    obtain ⟨e4, D4, hid4⟩ := new_dq (o := .lst ((ups n).map V.int)) Dk nb
    have hul : (ups n).length = n := by unfold ups; rw [List.length_map, List.length_range]
    refine ⟨p, l, b, _, rfl, D4, hid4, by rw [List.length_map, hul]; omega, fun H5 f5 ys D5 E5 nf5 hf hp => ?_⟩
    obtain ⟨zs, rfl, hpz⟩ := ints_of hp
    have hzl : zs.length = n := by rw [hpz.length_eq, hul]
    have hz0 : ∀ z ∈ zs, ∃ k : Nat, z = (k : Int) := fun z hz => by
      have := hpz.subset hz
      unfold ups at this
      obtain ⟨k, _, e⟩ := List.mem_map.mp this
      exact ⟨k, e.symm⟩
    obtain ⟨nfp, nfl, hf5⟩ := hid_some hf
    have E15 : Ext p l H H5 := Same.trans e4 E5
    clear hid4 D4 e4 nb E5
    dsimp only [tNext]
    refine ⟨.ref p, rfl, .ref p, rfl, .int n, rfl, _, _, rfl, rfl, p, l, (n : Int) - 1, rfl, D5, by omega, fun H6 z D6 E6 z0 z1 => ⟨by show 5 ≤ sizeLine; decide, fun A0 nA0 => ?_⟩⟩
    obtain ⟨nAp, nAl⟩ := D6.new nA0
    have s6 := same_new (o := .lst [.int 0, .int 1, .int 1, .int 2, .int z]) nA0
    refine ⟨p, l, A0, _, rfl, D6.up s6, by rw [hid_ne nAp nAl]; exact upd_same, by simp, by show 5 < 1000000; decide, fun H7 v D7 E7 hv => ?_⟩
    have hf7 := E7.at_ nfp nfl (s6 _ _ (E6.at_ nfp nfl hf5))
    have E17 : Ext p l H H7 := Same.trans (Same.trans (Same.trans E15 E6) (Ext.of s6)) E7
    obtain ⟨sz', rfl⟩ : ∃ k : Nat, v = .int (k : Int) := by
      simp only [List.mem_cons, List.not_mem_nil, or_false] at hv
      rcases hv with rfl | rfl | rfl | rfl | rfl
      · exact ⟨0, rfl⟩
      · exact ⟨1, rfl⟩
      · exact ⟨1, rfl⟩
      · exact ⟨2, rfl⟩
      · exact ⟨z.toNat, by rw [Int.toNat_of_nonneg z0]⟩
    dsimp only [tNext]
    refine ⟨.ref f5, rfl, (2 : Int), rfl, .int sz', rfl, _, _, rfl, rfl, (2 : Int) + sz', rfl, f5, _, rfl, SqL.of hf7, fun c nc => ?_⟩
    have e1 : cutV (zs.map V.int) (some 2) (some ((2 : Int) + sz')) = ((zs.drop 2).take (min (2 + sz') n - 2)).map V.int := by
      unfold cutV
      rw [show ((2 : Int) + sz') = ((2 + sz' : Nat) : Int) by omega, HT.sIx_nat, show HT.sIx (zs.map V.int).length 0 (some 2) = min 2 (zs.map V.int).length from HT.sIx_nat _ _ 2, List.length_map, hzl, Nat.min_eq_left (show 2 ≤ n by omega), ← List.map_drop, ← List.map_take]
    rw [e1]
    have s1 := same_new (o := .lst (((zs.drop 2).take (min (2 + sz') n - 2)).map V.int)) nc
    refine ⟨c, (zs.drop 2).take (min (2 + sz') n - 2), rfl, SqL.of upd_same, fun ws d hpw hso nd => ?_⟩
    have s2 := s1.trans (same_new (o := .lst (ws.map V.int)) nd)
    obtain ⟨ds, rfl, hds⟩ := drawn_piece hpz ((List.take_sublist _ _).trans (List.drop_sublist _ _)) hpw hso
    refine ⟨d, _, rfl, .inl ⟨SqL.of upd_same, fun t nt => ?_⟩⟩
    have s3 := s2.trans (same_new (o := .tup ((ds.map fun (x : Nat) => (x : Int)).map V.int)) nt)
    have ht : upd (upd (upd H7 c (.lst (((zs.drop 2).take (min (2 + sz') n - 2)).map V.int))) d (.lst ((ds.map fun (x : Nat) => (x : Int)).map V.int))) t (.tup ((ds.map fun (x : Nat) => (x : Int)).map V.int)) t = some (.tup (lv ds)) := by
      rw [upd_same, List.map_map]
      rfl
    generalize upd (upd (upd H7 c (.lst (((zs.drop 2).take (min (2 + sz') n - 2)).map V.int))) d (.lst ((ds.map fun (x : Nat) => (x : Int)).map V.int))) t (.tup ((ds.map fun (x : Nat) => (x : Int)).map V.int)) = G1 at s3 ht
    have ec : cutV (zs.map V.int) none (some 2) = (zs.take 2).map V.int := by
      rw [show (2 : Int) = ((2 : Nat) : Int) from rfl, cut_to (by rw [List.length_map]; omega), ← List.map_take]
    have ht2 : (zs.take 2).length = 2 := by rw [List.length_take]; omega
    refine ⟨.ref f5, rfl, (2 : Int), rfl, f5, _, rfl, SqL.of (s3 _ _ hf7), fun c2 nc2 => ?_⟩
    rw [ec]
    have s4 := same_new (o := .lst ((zs.take 2).map V.int)) nc2
    have hnd : zs.Nodup := hpz.symm.nodup (List.Pairwise.map _ (fun a b (h : a < b) => by show ((a : Nat) : Int) ≠ b; omega) List.pairwise_lt_range)
    obtain ⟨x0, x1, rr, rfl⟩ : ∃ x0 x1 rr, zs = x0 :: x1 :: rr := by
      match zs, hzl with
      | x0 :: x1 :: rr, _ => exact ⟨x0, x1, rr, rfl⟩
      | [_], h => exact absurd h (by simp; omega)
      | [], h => exact absurd h (by simp; omega)
    have hb : ∀ z ∈ x0 :: x1 :: rr, 0 ≤ z ∧ z < n := fun z hz => by
      have := hpz.subset hz
      unfold ups at this
      obtain ⟨k, hk, rfl⟩ := List.mem_map.mp this
      have := List.mem_range.mp hk
      omega
    refine ⟨c2, [x0, x1], rfl, SqL.of upd_same, Nat.succ_pos _, fun m1 hm1 hl1 => ⟨.ref f5, rfl, (2 : Int), rfl, f5, _, rfl, SqL.of (s4 _ _ (s3 _ _ hf7)), fun c3 nc3 => ?_⟩⟩
    rw [ec]
    have s5 := s4.trans (same_new (o := .lst ([x0, x1].map V.int)) nc3)
    refine ⟨c3, [x0, x1], rfl, SqL.of upd_same, Nat.succ_pos _, fun m2 hm2 hl2 => ⟨by show 3 ≤ sizeLine; decide, fun r nr => ?_⟩⟩
    obtain ⟨k1, rfl⟩ := hz0 m1 (by
      simp only [List.mem_cons, List.not_mem_nil, or_false] at hm1
      rcases hm1 with rfl | rfl <;> simp)
    obtain ⟨k2, rfl⟩ := hz0 m2 (by
      simp only [List.mem_cons, List.not_mem_nil, or_false] at hm2
      rcases hm2 with rfl | rfl <;> simp)
    have s6' := s5.trans (same_new (o := .tup [.ref t, .int (k1 : Int), .int (k2 : Int)]) nr)
    have sA := s3.trans s6'
    obtain ⟨n0', n1'⟩ := List.nodup_cons.mp hnd
    obtain ⟨n2', _⟩ := List.nodup_cons.mp n1'
    have hin : ∀ x ∈ ds, (x : Int) ∈ rr := fun x hx => by
      have h1 := hpw.subset (List.mem_map.mpr ⟨x, hx, rfl⟩)
      exact List.mem_of_mem_take h1
    have h01 : x0 ≠ x1 := fun z => n0' (by rw [z]; simp)
    have a1 := hl1 x0 (by simp)
    have a2 := hl1 x1 (by simp)
    have a3 := hl2 x0 (by simp)
    have a4 := hl2 x1 (by simp)
    have b0 := hb x0 (by simp)
    have b1 := hb x1 (by simp)
    simp only [List.mem_cons, List.not_mem_nil, or_false] at hm1 hm2 n0'
    refine q _ _ (ds, k1, k2) (D7.up sA) (Same.trans E17 (Ext.of sA)) (.tup upd_same (.cons (lot_at (s6' _ _ ht)) (.cons (.int _) (.cons (.int _) .nil)))) ⟨hds, ?_, ?_, fun z => ?_, fun z => ?_⟩
    · show k1 < k2
      omega
    · show k2 < n
      omega
    · have := hin _ z
      rcases hm1 with e | e
      · rw [e] at this
        exact n0' (.inr this)
      · rw [e] at this
        exact n2' this
    · have := hin _ z
      rcases hm2 with e | e
      · rw [e] at this
        exact n0' (.inr this)
      · rw [e] at this
        exact n2' this
end
end Kr
namespace Kr
open PySem PySem.Spec PyProof.Rows L2
/-- two ways of an expression that meet again -/
theorem ifE_join {c : Prop} [Decidable c] {a b : TE} {σ τ : L2.St} {Ha Hb : Hp} {Q : VK} (R : V → Hp → Prop) (h : ∀ v G, R v G → Q v G) (hA : c → ∀ Q' : VK, (∀ v G, R v G → Q' v G) → a σ Ha Q') (hB : ¬ c → ∀ Q' : VK, (∀ v G, R v G → Q' v G) → b τ Hb Q') : if c then a σ Ha Q else b τ Hb Q :=
  ite2 (fun k => hA k Q h) fun k => hB k Q h
/-- two ways of a statement that meet again, none of which ends the def -/
theorem ifS_join {c : Prop} [Decidable c] {a b : L2.TS} {D : Ends} {σ τ : L2.St} {Ha Hb : Hp} (R : L2.St → Hp → Prop) (h : ∀ σ G, R σ G → D.nx σ G) (hA : c → ∀ D' : Ends, (∀ σ G, R σ G → D'.nx σ G) → a D' σ Ha) (hB : ¬ c → ∀ D' : Ends, (∀ σ G, R σ G → D'.nx σ G) → b D' τ Hb) : if c then a D σ Ha else b D τ Hb :=
  ite2 (fun k => hA k D h) fun k => hB k D h
end Kr
namespace Kr
open PySem PySem.Spec PyProof.Rows L2
def spTerm7 (n : Nat) : Sp := fun vs H Q _ => ∃ (p l tl : Addr) (many spot deep : Nat) (ks : List Nat), vs = [.ref p, .int (many : Int), .int (spot : Int), .int (deep : Int), .ref tl] ∧ Deck H p l ∧ 3 ≤ many ∧ many ≤ 24 ∧ spot ≤ 400 ∧ 1 ≤ deep ∧ deep ≤ n ∧ hid p l H tl = some (.lst (ks.map fun k : Nat => V.int (k : Int))) ∧ ks ≠ [] ∧ ks.length ≤ 100 ∧ (∀ k ∈ ks, k ≤ 10 ^ 30) ∧
  ∀ H' v t, Deck H' p l → Ext p l H H' → Dq H' v (tmD t) → okTm (Deed many) 3 spot t → dep t ≤ deep → Q v H'
section
variable {P : Program} {w : World} {K : PySem.W.Frag} {mg : Str → Option Value} {base : Heap}
abbrev nTm : List Str := ["deck", "many", "spot", "deep", "times", "way", "turn"]
theorem scTm : FnScope nTm ["deck", "many", "spot", "deep", "times"] (defScope sLTerm) := ⟨rfl, rfl, rfl, by decide +kernel, rfl, by decide +kernel, by decide +kernel⟩
theorem o_lTerm7 (D0 : Df K mg "_law_term" sLTerm ["deck", "many", "spot", "deep", "times"]) (B : Bi mg) (dr : Ok P w K mg base 1 "_law_draw" ["deck", "many"] spDraw) (dd : Ok P w K mg base 3 "_law_deed" ["deck", "many"] spDeed7) (pk : Ok P w K mg base 2 "_law_pick" ["deck", "items"] spPick) :
    ∀ n, Ok P w K mg base (3 + n) "_law_term" ["deck", "many", "spot", "deep", "times"] (spTerm7 n)
  | 0 => D0.ok fun f fd F => by
    have no : ∀ vs H Q E, ¬ spTerm7 0 vs H Q E := fun vs H Q E h => by
      obtain ⟨_, _, _, _, _, _, _, _, _, _, _, _, h1, h2, _⟩ := h
      omega
    exact ⟨fun vs H Q E h => absurd h (no vs H Q E), fun A outer s H args us vs Q E _ _ _ _ h => absurd h (no vs H Q E)⟩
  | n + 1 => by
    have ih := o_lTerm7 D0 B dr dd pk n
    refine D0.ok fun f fd F => F.ok scTm (fun vs H Q E h => ?_) (fun cdv A outer s H vs Q E hr h => ?_)
    · obtain ⟨_, _, _, _, _, _, _, rfl, _⟩ := h
      rfl
    · obtain ⟨p, l, tl, many, spot, deep, ks, rfl, Dk, m0, m1, hsp, d0, d1, htl, hk0, hkl, hkb, q⟩ := h
      have hr1 := hr.mono (show 1 ≤ 3 + n by omega)
      have hr2 := hr.mono (show 2 ≤ 3 + n by omega)
      have hr3 := hr.mono (show 3 ≤ 3 + n by omega)
      refine ⟨_, pss_cons (ps_set (i := 5) scTm.nd rfl (.inl rfl) (pe_fn dr hr1 (by rfl) (pa_cons (pv 0) (pa_cons pe_int pa_nil))))
      (pss_cons (ps_if (PW.pt (pw_or (pt_cmpR op_lt (pv 5) pe_int (nomark _)) (pw_or1 (PW.pt (pw_and (pt_cmpR op_lt (pv 3) pe_int (nomark _)) (pw_and1 (pt_cmpR op_lt (pv 5) pe_int (nomark _)))))))) (pss_one (ps_ret (pe_tup (pa_cons pe_str (pa_cons (pe_fn dd hr3 (by rfl) (pa_cons (pv 0) (pa_cons (pv 1) pa_nil))) pa_nil))))) pss_nil)
      (pss_cons (ps_if (pt_cmpR op_lt (pv 5) pe_int (nomark _)) (pss_one (ps_ret (pe_tup (pa_cons pe_str (pa_cons (pe_callTy call_tuple_of (by rfl) B.tuple (by decide +kernel) (pa_cons (pe_lc (own := [("turn", 6)]) (g := gName 6) (tt := tYes) rfl scTm.nd (pi_range1 (by rfl) B.range (pa_cons (pe_fn dr hr1 (by rfl) (pa_cons (pv 0) (pa_cons pe_int pa_nil))) pa_nil)) (blkOk_by (own := [("turn", 6)]) (N := nTm) (sc := defScope sLTerm) (by decide +kernel)) (fun _ _ _ _ _ => pg_name (i := 6) scTm.nd rfl (.inl rfl)) (fun _ _ _ _ _ => pts_nil) (fun _ _ _ _ _ => (pe_fn ih hr (by rfl) (pa_cons (pv 0) (pa_cons (pv 1) (pa_cons (pv 2) (pa_cons (pe_op op_sub (pv 3) pe_int) (pa_cons (pv 4) pa_nil)))))))) pa_nil)) pa_nil))))) pss_nil)
      (pss_cons (ps_if (pt_cmpR op_eq (pv 5) pe_int (nomark _)) (pss_one (ps_ret (pe_tup (pa_cons pe_str (pa_cons (pe_fn ih hr (by rfl) (pa_cons (pv 0) (pa_cons (pv 1) (pa_cons (pv 2) (pa_cons (pe_op op_sub (pv 3) pe_int) (pa_cons (pv 4) pa_nil)))))) pa_nil))))) pss_nil)
      (pss_cons (ps_if (pt_cmpR op_eq (pv 5) pe_int (nomark _)) (pss_one (ps_ret (pe_tup (pa_cons pe_str (pa_cons (pe_fn ih hr (by rfl) (pa_cons (pv 0) (pa_cons (pv 1) (pa_cons (pv 2) (pa_cons (pe_op op_sub (pv 3) pe_int) (pa_cons (pv 4) pa_nil)))))) (pa_cons (pe_fn pk hr2 (by rfl) (pa_cons (pv 0) (pa_cons (pv 4) pa_nil))) pa_nil)))))) pss_nil)
      (pss_one (ps_ret (pe_ifExp (pt_cmpR op_gt (pv 2) pe_int (nomark _)) (pe_tup (pa_cons pe_str (pa_cons (pe_fn dr hr1 (by rfl) (pa_cons (pv 0) (pa_cons (pv 2) pa_nil))) pa_nil))) (pe_tup (pa_cons pe_str (pa_cons (pe_fn dd hr3 (by rfl) (pa_cons (pv 0) (pa_cons (pv 1) pa_nil))) pa_nil)))))))))), ?_⟩
      obtain ⟨ntp, ntl, htl0⟩ := hid_some htl
      refine ⟨.ref p, rfl, p, l, 9, rfl, Dk, by decide, fun H1 wy D1 E1 w0 w1 => ?_⟩
      dsimp only [tNext]
      refine joinC7 (c := tOr _ _) (R := fun b G => G = H1 ∧ (b = false → 3 ≤ wy ∧ (2 ≤ deep ∨ 7 ≤ wy))) ?_ (fun Q' k => ?_)
      rotate_left
      · refine ⟨.int wy, rfl, _, _, rfl, rfl, _, rfl, ite2 (fun c => k _ _ ⟨rfl, fun z => nomatch z⟩) (fun c => ?_)⟩
        have c1 : ¬ wy < 3 := fun z => c (decide_eq_true z)
        refine ⟨.int (deep : Int), rfl, _, _, rfl, rfl, _, rfl, ite2 (fun c2 => ⟨.int wy, rfl, _, _, rfl, rfl, _, rfl, k _ _ ⟨rfl, fun z => ⟨by omega, .inr ?_⟩⟩⟩) (fun c2 => k _ _ ⟨rfl, fun _ => ⟨by omega, .inl ?_⟩⟩)⟩
        · have := of_decide_eq_false z
          omega
        · have : ¬ (deep : Int) < 2 := fun z => c2 (decide_eq_true z)
          omega
      rintro b G ⟨rfl, hb⟩
      have dodeed : ∀ (H2 : Hp) (v : V) (d : Mv), Deck H2 p l → Ext p l G H2 → Dq H2 v (deedD d) → Deed many d → ∀ t, H2 t = none → Q (.ref t) (upd H2 t (.tup [.str "do", v])) := fun H2 v d D2 E2 hv hd t nt => by
        have st := same_new (o := .tup [.str "do", v]) nt
        refine q _ _ (.doo d) (D2.up st) (Same.trans (Same.trans E1 E2) (Ext.of st)) ?_ ?_ ?_
        · simp only [tmD]
          exact .tup upd_same (.cons (.str _) (.cons (hv.up st) .nil))
        · simp only [okTm]
          exact hd
        · simp only [dep]
          exact d0
      cases b with
      | true => exact iteT ⟨.ref p, rfl, .int (many : Int), rfl, p, l, many, rfl, D1, m0, m1, fun H2 v d D2 E2 hv hd => ⟨by show 2 ≤ sizeLine; decide, fun t nt => dodeed H2 v d D2 E2 hv hd t nt⟩⟩
      | false =>
        obtain ⟨w3, hdw⟩ := hb rfl
        refine iteF ?_
        dsimp only [tNext]
        refine ⟨.int wy, rfl, _, _, rfl, rfl, _, rfl, ite2 (fun c => ?_) (fun c => ?_)⟩
        · have c1 : wy < 5 := of_decide_eq_true c
          have dp2 : 2 ≤ deep := by omega
          refine ⟨.ref p, rfl, p, l, 4, rfl, D1, by decide, fun H2 r D2 E2 r0 r1 => ⟨r, rfl, by omega, by omega, fun D nD => ?_⟩⟩
          obtain ⟨mm, hmm, hk⟩ : ∃ mm : Nat, r.toNat = mm ∧ mm ≤ 3 := ⟨r.toNat, rfl, by omega⟩
          rw [hmm]
          obtain ⟨nDp, nDl⟩ := D2.new nD
          have nD0 : G D = none := E2.free nD nDp nDl
          refine lc_it (walk_rg (n := mm)) (fun i G2 => ∃ (us : List V) (ts : List Tm), G2 D = some (.lst us) ∧ Deck G2 p l ∧ Ext p l G G2 ∧ us.length = i ∧ DqA G2 us (ts.map tmD) ∧ ∀ t ∈ ts, okTm (Deed many) 3 spot t ∧ dep t ≤ deep - 1) ⟨[], [], upd_same, D2.mut nDp nDl, E2.mut nD0, rfl, .nil, (fun _ h => nomatch h)⟩ (fun _ _ _ _ => trivial) ?_ ?_
          · rintro i x _ G2 hi ⟨us, ts, hD, DG, EG, hul, qu, hts⟩ ⟨rfl, rfl⟩
            refine ⟨rfl, ?_⟩
            dsimp only [tYes]
            rw [if_pos rfl]
            have hE := Same.trans E1 EG
            refine ⟨.ref p, rfl, .int (many : Int), rfl, .int (spot : Int), rfl, .int (deep : Int), rfl, _, _, rfl, rfl, .ref tl, rfl, p, l, tl, many, spot, deep - 1, ks, ?_, DG, m0, m1, hsp, by omega, by omega, by rw [hid_ne ntp ntl]; exact Ext.at_ hE ntp ntl htl0, hk0, hkl, hkb, fun G3 v t D3 E3 hv hok hdt => ?_⟩
            · show [V.ref p, .int (many : Int), .int (spot : Int), .int ((deep : Int) - 1), .ref tl] = _
              rw [show (deep : Int) - 1 = ((deep - 1 : Nat) : Int) by omega]
            have hD3 := E3.at_ nDp nDl hD
            have ts3 : TS G3 (upd G3 D (.lst (us ++ [v]))) := TS.lst hD3
            have fl := tms_flat ts
            rw [tmDs_map] at fl
            refine ⟨us, hD3, szm (by omega), us ++ [v], ts ++ [t], upd_same, D3.mut nDp nDl, Ext.mut (Same.trans EG E3) nD0, by rw [List.length_append, hul]; rfl, ?_, fun y hy => ?_⟩
            · rw [List.map_append]
              exact dqa_snoc (DqA.upT ts3 fl (DqA.upT (TS.deck DG E3) fl qu)) (Dq.upT ts3 (tm_flat t) hv)
            · rcases List.mem_append.mp hy with c | c
              · exact hts y c
              · rw [List.mem_singleton.mp c]
                exact ⟨hok, hdt⟩
          · rintro G2 ⟨us, ts, hD, DG, EG, hul, qu, hts⟩
            have htl2 : ts.length = us.length := by have := qu.len; rw [List.length_map] at this; exact this.symm
            refine ⟨D, _, rfl, .inl ⟨SqL.of hD, fun t nt => ⟨by show 2 ≤ sizeLine; decide, fun t2 nt2 => ?_⟩⟩⟩
            have s1 := same_new (o := .tup us) nt
            have s2 := same_new (o := .tup [.str "row", .ref t]) nt2
            refine q _ _ (.row ts) (DG.up (s1.trans s2)) (Same.trans (Same.trans E1 EG) (Ext.of (s1.trans s2))) ?_ ?_ ?_
            · simp only [tmD]
              rw [tmDs_map]
              exact .tup upd_same (.cons (.str _) (.cons (.tup (s2 _ _ upd_same) (qu.up (s1.trans s2))) .nil))
            · simp only [okTm]
              exact ⟨by omega, okTms_of fun t ht => (hts t ht).1⟩
            · simp only [dep]
              have := depL_of fun t ht => (hts t ht).2
              omega
        · have c1 : ¬ wy < 5 := fun z => c (decide_eq_true z)
          dsimp only [tNext]
          have call : ∀ Q' : VK, 2 ≤ deep → (∀ H2 v t, Deck H2 p l → Ext p l G H2 → Dq H2 v (tmD t) → okTm (Deed many) 3 spot t → dep t ≤ deep - 1 → Q' v H2) → spTerm7 n [.ref p, .int (many : Int), .int (spot : Int), .int ((deep : Int) - 1), .ref tl] G Q' (fun _ _ _ => False) := fun Q' dp2 h => by
            refine ⟨p, l, tl, many, spot, deep - 1, ks, by rw [show (deep : Int) - 1 = ((deep - 1 : Nat) : Int) by omega], D1, m0, m1, hsp, by omega, by omega, by rw [hid_ne ntp ntl]; exact Ext.at_ E1 ntp ntl htl0, hk0, hkl, hkb, fun H2 v t D2 E2 hv hok hdt => h H2 v t D2 E2 hv hok hdt⟩
          refine ⟨.int wy, rfl, rfl, _, rfl, ?_⟩
          by_cases h5 : wy = 5
          · rw [decide_eq_true (show V.int wy = V.int 5 by rw [h5])]
            refine iteT ⟨.ref p, rfl, .int (many : Int), rfl, .int (spot : Int), rfl, .int (deep : Int), rfl, _, _, rfl, rfl, .ref tl, rfl, call _ (by omega) fun H2 v t D2 E2 hv hok hdt => ⟨by show 2 ≤ sizeLine; decide, fun t2 nt2 => ?_⟩⟩
            have s2 := same_new (o := .tup [.str "back", v]) nt2
            refine q _ _ (.back t) (D2.up s2) (Same.trans (Same.trans E1 E2) (Ext.of s2)) ?_ ?_ ?_
            · simp only [tmD]
              exact .tup upd_same (.cons (.str _) (.cons (hv.up s2) .nil))
            · simp only [okTm]
              exact hok
            · simp only [dep]
              omega
          · rw [decide_eq_false (show ¬ V.int wy = V.int 5 from fun z => h5 (V.int.inj z))]
            refine iteF ?_
            dsimp only [tNext]
            refine ⟨.int wy, rfl, rfl, _, rfl, ?_⟩
            by_cases h6 : wy = 6
            · rw [decide_eq_true (show V.int wy = V.int 6 by rw [h6])]
              refine iteT ⟨.ref p, rfl, .int (many : Int), rfl, .int (spot : Int), rfl, .int (deep : Int), rfl, _, _, rfl, rfl, .ref tl, rfl, call _ (by omega) fun H2 v t D2 E2 hv hok hdt => ?_⟩
              refine ⟨.ref p, rfl, .ref tl, rfl, p, l, tl, _, rfl, D2, by rw [hid_ne ntp ntl]; exact Ext.at_ (Same.trans E1 E2) ntp ntl htl0, by cases ks with | nil => exact absurd rfl hk0 | cons _ _ => exact List.cons_ne_nil _ _, by rw [List.length_map]; omega, fun H3 v3 D3 E3 hm => ⟨by show 3 ≤ sizeLine; decide, fun t2 nt2 => ?_⟩⟩
              obtain ⟨kk, hkk, rfl⟩ := List.mem_map.mp hm
              have s2 := same_new (o := .tup [.str "times", v, .int (kk : Int)]) nt2
              refine q _ _ (.times t kk) (D3.up s2) (Same.trans (Same.trans (Same.trans E1 E2) E3) (Ext.of s2)) ?_ ?_ ?_
              · simp only [tmD]
                exact .tup upd_same (.cons (.str _) (.cons ((Dq.upT (TS.deck D2 E3) (tm_flat t) hv).up s2) (.cons (.int _) .nil)))
              · simp only [okTm]
                exact ⟨hkb kk hkk, hok⟩
              · simp only [dep]
                omega
            · rw [decide_eq_false (show ¬ V.int wy = V.int 6 from fun z => h6 (V.int.inj z))]
              refine iteF ?_
              dsimp only [tNext]
              refine ⟨.int (spot : Int), rfl, _, _, rfl, rfl, _, rfl, ite2 (fun c2 => ?_) (fun c2 => ?_)⟩
              · have hs0 : (0 : Int) < spot := of_decide_eq_true c2
                refine ⟨.ref p, rfl, .int (spot : Int), rfl, p, l, (spot : Int), rfl, D1, by omega, fun H2 r D2 E2 r0 r1 => ⟨by show 2 ≤ sizeLine; decide, fun t2 nt2 => ?_⟩⟩
                obtain ⟨j, rfl⟩ : ∃ j : Nat, r = (j : Int) := ⟨r.toNat, (Int.toNat_of_nonneg r0).symm⟩
                have s2 := same_new (o := .tup [.str "part", .int (j : Int)]) nt2
                refine q _ _ (.part j) (D2.up s2) (Same.trans (Same.trans E1 E2) (Ext.of s2)) ?_ ?_ ?_
                · simp only [tmD]
                  exact .tup upd_same (.cons (.str _) (.cons (.int _) .nil))
                · simp only [okTm]
                  omega
                · simp only [dep]
                  exact d0
              · exact ⟨.ref p, rfl, .int (many : Int), rfl, p, l, many, rfl, D1, m0, m1, fun H2 v d D2 E2 hv hd => ⟨by show 2 ≤ sizeLine; decide, fun t nt => dodeed H2 v d D2 E2 hv hd t nt⟩⟩
end
end Kr
namespace Kr
open PySem PySem.Spec PyProof.Rows L2
theorem sum_castC : ∀ as : List Nat, ((as.map fun a : Nat => (a : Int)).sum) = ((as.sum : Nat) : Int)
  | [] => rfl
  | a :: as => by
    rw [List.map_cons, List.sum_cons, List.sum_cons, sum_castC as]
    omega
/-! ### the law's own count -/
def cntM : Mea Nat := ⟨fun _ => 1, List.sum, fun a => a, fun a k => a * k⟩
theorem sum_lt : ∀ {as : List Nat} {b : Nat}, (∀ a ∈ as, a ≤ b) → as.sum ≤ b * as.length
  | [], _, _ => Nat.zero_le _
  | a :: as, b, h => by
    have h1 := h a List.mem_cons_self
    have h2 := sum_lt fun x hx => h x (List.mem_cons_of_mem _ hx)
    rw [List.sum_cons, List.length_cons, Nat.mul_succ]
    omega
mutual
theorem cnt_lt {ws : List Nat} {W : Nat} (hw : ∀ a ∈ ws, a < 2 ^ W) : ∀ t : Tm, okTm (fun _ => True) 400 ws.length t → worth cntM ws t < 2 ^ (W + 110 * dep t)
  | .doo d, h => by
    simp only [worth, dep]
    exact Nat.one_lt_two_pow (by omega)
  | .part j, h => by
    simp only [okTm] at h
    simp only [worth, dep]
    rw [List.getD_eq_getElem?_getD, List.getElem?_eq_getElem h]
    exact Nat.lt_of_lt_of_le (hw _ (List.getElem_mem h)) (Nat.pow_le_pow_right (by decide) (by omega))
  | .row ts, h => by
    simp only [okTm] at h
    simp only [worth, dep]
    have h1 := cntL_lt hw ts h.2
    have h2 : (worthL cntM ws ts).sum ≤ 2 ^ (W + 110 * depL ts) * (worthL cntM ws ts).length := sum_lt fun a ha => Nat.le_of_lt (h1 a ha)
    have h3 : (worthL cntM ws ts).length ≤ 400 := by rw [worthL_map, List.length_map]; exact h.1
    refine Nat.lt_of_le_of_lt h2 (Nat.lt_of_le_of_lt (Nat.mul_le_mul_left _ h3) ?_)
    have h4 : 2 ^ (W + 110 * depL ts) * 2 ^ 110 = 2 ^ (W + 110 * (depL ts + 1)) := by rw [← Nat.pow_add]; congr 1
    rw [← h4]
    exact Nat.mul_lt_mul_of_pos_left (by decide +kernel) (Nat.two_pow_pos _)
  | .back t, h => by
    simp only [okTm] at h
    simp only [worth, dep]
    exact Nat.lt_of_lt_of_le (cnt_lt hw t h) (Nat.pow_le_pow_right (by decide) (by omega))
  | .times t k, h => by
    simp only [okTm] at h
    simp only [worth, dep]
    have h1 := cnt_lt hw t h.2
    have h4 : 2 ^ (W + 110 * dep t) * 2 ^ 110 = 2 ^ (W + 110 * (dep t + 1)) := by rw [← Nat.pow_add]; congr 1
    rw [← h4]
    exact Nat.mul_lt_mul'' h1 (Nat.lt_of_le_of_lt h.1 (by decide +kernel))
theorem cntL_lt {ws : List Nat} {W : Nat} (hw : ∀ a ∈ ws, a < 2 ^ W) : ∀ ts : List Tm, okTms (fun _ => True) 400 ws.length ts → ∀ x ∈ worthL cntM ws ts, x < 2 ^ (W + 110 * depL ts)
  | [], _, x, hx => by
    simp only [worthL] at hx
    exact nomatch hx
  | t :: ts, h, x, hx => by
    simp only [okTms] at h
    simp only [worthL] at hx
    simp only [depL]
    rcases List.mem_cons.mp hx with rfl | hx
    · exact Nat.lt_of_lt_of_le (cnt_lt hw t h.1) (Nat.pow_le_pow_right (by decide) (Nat.add_le_add_left (Nat.mul_le_mul_left _ (Nat.le_max_left _ _)) _))
    · exact Nat.lt_of_lt_of_le (cntL_lt hw ts h.2 x hx) (Nat.pow_le_pow_right (by decide) (Nat.add_le_add_left (Nat.mul_le_mul_left _ (Nat.le_max_right _ _)) _))
end
end Kr
namespace Kr
open PySem PySem.Spec PyProof.Rows L2
def spItems (n : Nat) : Sp := fun vs H Q _ => ∃ (v : V) (d : PyData), vs = [v] ∧ Dq H v d ∧ flatT d = true ∧ d.depth < n ∧ widT 400 d = true ∧ ∀ H', Same H H' → Q (.int ((itm d : Nat) : Int)) H'
section
variable {P : Program} {w : World} {K : PySem.W.Frag} {mg : Str → Option Value} {base : Heap}
abbrev nIt : List Str := ["thing", "own"]
theorem scIt : FnScope nIt ["thing"] (defScope sLItems) := ⟨rfl, rfl, rfl, by decide +kernel, rfl, by decide +kernel, by decide +kernel⟩
theorem o_lItems (D0 : Df K mg "_law_items" sLItems ["thing"]) (B : Bi mg) : ∀ n, Ok P w K mg base n "_law_items" ["thing"] (spItems n)
  | 0 => D0.ok fun f fd F => by
    have no : ∀ vs H Q E, ¬ spItems 0 vs H Q E := fun vs H Q E h => by
      obtain ⟨_, _, _, _, _, hd, _⟩ := h
      exact Nat.not_lt_zero _ hd
    exact ⟨fun vs H Q E h => absurd h (no vs H Q E), fun A outer s H args us vs Q E _ _ _ _ h => absurd h (no vs H Q E)⟩
  | n + 1 => by
    have ih := o_lItems D0 B n
    refine D0.ok fun f fd F => F.ok scIt (fun vs H Q E h => ?_) (fun cdv A outer s H vs Q E hr h => ?_)
    · obtain ⟨_, _, rfl, _⟩ := h
      rfl
    · obtain ⟨v, d, rfl, hv, hf, hd, hm, q⟩ := h
      refine ⟨_, pss_one (ps_ret (pe_ifExp (pt_val (pe_callB call_isiT (by rfl) B.isinstance (by decide +kernel) (pa_cons (pv 0) (pa_cons (pe_tup (pa_cons (pe_bltn (v := .ty "tuple") (by rfl) B.tuple (by decide +kernel) rfl) (pa_cons (pe_bltn (v := .ty "list") (by rfl) B.list (by decide +kernel) rfl) pa_nil))) pa_nil))))
        (pe_op op_add (pe_callB call_len_seq (by rfl) B.len boot_len (pa_cons (pv 0) pa_nil)) (pe_callB (cr_sum rfl) (by rfl) B.sum (by decide +kernel) (pa_cons (pe_lc (own := [("own", 1)]) (g := gName 1) (tt := tYes) rfl scIt.nd (pi_tup (pv 0)) (blkOk_by (own := [("own", 1)]) (N := nIt) (sc := defScope sLItems) (by decide +kernel)) (fun _ _ _ _ _ => pg_name (i := 1) scIt.nd rfl (.inl rfl)) (fun _ _ _ _ _ => pts_nil) (fun _ _ _ _ _ => pe_fn ih hr (by rfl) (pa_cons (pv 1) pa_nil))) pa_nil))) pe_int)), ?_⟩
      refine ⟨v, rfl, by show 2 ≤ sizeLine; decide, fun tp ntp => ?_⟩
      have s1 := same_new (o := .tup [.ty "tuple", .ty "list"]) ntp
      refine ⟨v, tp, _, _, _, isTu d, rfl, upd_same, .cons (.ty _) (.cons (.ty _) .nil), (hv.up s1).ty, kit_tl hf, isTu d, rfl, ?_⟩
      cases hT : isTu d with
      | false =>
        have e : itm d = 0 := by
          cases d <;> first | rfl | exact absurd hT (by simp [isTu])
        have h2 := q _ s1
        rw [e] at h2
        exact iteF h2
      | true =>
        obtain ⟨ds, rfl⟩ : ∃ ds, d = .tuple ds := by
          cases d with
          | tuple ds => exact ⟨ds, rfl⟩
          | _ => exact absurd hT (by simp [isTu])
        obtain ⟨a, xs, rfl, ha, qx⟩ := Dq.tup_inv hv
        have hxl := qx.len
        have ha1 := s1 _ _ ha
        simp only [flatT] at hf
        simp only [PyData.depth] at hd
        refine iteT ⟨.ref a, rfl, a, xs, rfl, .inr (SqT.of ha1), .ref a, rfl, a, rfl, ⟨_, SqT.of ha1⟩, fun D nD => ?_⟩
        obtain ⟨hle, hmA⟩ : ds.length ≤ 400 ∧ widTA 400 ds = true := by simpa [widT] using hm
        refine lc_it (walk_tup (K := K) (a := a) (xs := xs)) (fun i G => G D = some (.lst ((((ds.take i).map itm).map fun a : Nat => (a : Int)).map V.int)) ∧ Same H G) ⟨upd_same, s1.trans (same_new nD)⟩ (fun _ _ _ ⟨_, sm⟩ => SqT.of (sm _ _ ha)) ?_ ?_
        · rintro i x _ G hi ⟨hD, sm⟩ ⟨rfl, hx⟩
          obtain ⟨d0, hd0, qd⟩ := qx.get hx
          have hmem := List.mem_of_getElem? hd0
          have hdd := depthAll_le hmem
          refine ⟨rfl, ?_⟩
          dsimp only [tYes]
          rw [if_pos rfl]
          refine ⟨x, rfl, x, d0, rfl, qd.up sm, flatTA_mem hf d0 hmem, by omega, widTA_mem hmA d0 hmem, fun H' s2 => ?_⟩
          have hD' := s2 _ _ hD
          refine ⟨_, hD', szm (by rw [List.length_map, List.length_map, List.length_map, List.length_take]; omega), ?_, fun c o hc => ?_⟩
          · rw [upd_same, List.take_add_one, hd0]
            simp
          · rw [upd_ne (ne_of_none hc (s1.free nD))]
            exact s2 _ _ (sm _ _ hc)
        · rintro G ⟨hD, sm⟩
          rw [hxl, List.take_length] at hD
          refine ⟨D, _, rfl, SqL.of hD, _, _, rfl, rfl, ?_⟩
          have h2 := q G sm
          rw [sum_castC, ← itmA_map]
          have e : ((xs.length : Nat) : Int) + ((itmA ds : Nat) : Int) = ((itm (.tuple ds) : Nat) : Int) := by
            simp only [itm]
            omega
          dsimp only
          rw [e]
          exact h2
end
end Kr
namespace Kr
open PySem PySem.Spec PyProof.Rows L2
/-! ### displays of terms beside the deck -/
def frD (p l : Addr) : Fr := ⟨fun G => Deck G p l, fun A B => Ext p l A B, Ext.rfl, fun a b => Same.trans a b, fun s d => d.up s, fun s => Ext.of s, fun D E => TS.deck D E⟩
section
variable {P : Program} {w : World} {K : PySem.W.Frag} {mg : Str → Option Value} {base : Heap}
variable {p l : Addr} {σ : L2.St} {H : Hp} {te tf : TE} {ta : TA} {n : Nat} {i j : Nat}
theorem bn_draw {N : Int → Prop} (hp : σ[i]? = some (some (.ref p))) (h : Bn (frD p l) te σ H fun m => m < 1073741824 ∧ ∀ r, 0 ≤ r → (r < m ∨ r = 0) → N r) : Bn (frD p l) (tCall spDraw [] E0 (tCons (tVar i) (tCons te tNil))) σ H N := fun G a b Q q =>
  ⟨_, hp, h G a b _ fun G1 m I1 r1 ⟨m1, k⟩ => ⟨p, l, m, rfl, I1, m1, fun G2 r D2 E2 h0 h1 => q G2 r D2 (Same.trans r1 E2) (k r h0 h1)⟩⟩
theorem bq_deed (hp : σ[i]? = some (some (.ref p))) (hn : σ[j]? = some (some (.int (n : Int)))) (n0 : 3 ≤ n) (n1 : n ≤ 24) : Bq (frD p l) (tCall spDeed7 [] E0 (tCons (tVar i) (tCons (tVar j) tNil))) σ H (fun d => ∃ m, d = deedD m ∧ Deed n m) := fun G a b Q q =>
  ⟨_, hp, _, hn, p, l, n, rfl, a, n0, n1, fun G1 v d D1 E1 qv hd => q G1 v _ D1 E1 qv (deed_flat d) ⟨d, rfl, hd⟩⟩
theorem bq_pick {S : List PyData → Prop} {R : PyData → Prop} {m : Nat} (hp : σ[i]? = some (some (.ref p))) (h : BqA (frD p l) (m + 1) ta σ H S) (hS : ∀ ds d, S ds → d ∈ ds → R d) (hm : m < 100000 := by decide) : Bq (frD p l) (tCall spPick [] E0 (tCons (tVar i) (tCons (tLst ta) tNil))) σ H R := fun G a b Q q =>
  ⟨_, hp, bq_lst h a b hm fun G1 L vs ds I1 r1 q1 l1 f1 k nL => by
    obtain ⟨n1, n2⟩ := Deck.new I1 nL
    have s := same_new (o := .lst vs) nL
    have hl := q1.len
    refine ⟨p, l, L, vs, rfl, Deck.up I1 s, hid_upd n1 n2, fun z => by rw [z] at hl; simp at hl; omega, by omega, fun G2 v D2 E2 hv => ?_⟩
    obtain ⟨x, hx⟩ := List.getElem?_of_mem hv
    obtain ⟨d, hd, qd⟩ := q1.get hx
    have fd : flatT d = true := by
      have hmem := List.mem_of_getElem? hd
      have : ∀ {es : List PyData}, flatTA es = true → ∀ d ∈ es, flatT d = true := by
        intro es
        induction es with
        | nil => intro _ d h; exact nomatch h
        | cons e es ih =>
          intro h d hd
          have h2 : flatT e = true ∧ flatTA es = true := by simpa [flatTA] using h
          rcases List.mem_cons.mp hd with rfl | hd
          · exact h2.1
          · exact ih h2.2 d hd
      exact this f1 d hmem
    exact q G2 v d D2 (Same.trans r1 (Same.trans (Ext.of s) E2)) (Dq.upT (TS.deck (Deck.up I1 s) E2) fd (qd.up s)) fd (hS ds d k (List.mem_of_getElem? hd))⟩
theorem bn_pick {N : Int → Prop} {m : Nat} (hp : σ[i]? = some (some (.ref p))) (h : BqA (frD p l) (m + 1) ta σ H fun ds => ∀ d ∈ ds, ∃ x, d = .int x ∧ N x) (hm : m < 100000 := by decide) : Bn (frD p l) (tCall spPick [] E0 (tCons (tVar i) (tCons (tLst ta) tNil))) σ H N :=
  bn_of (bq_pick (R := fun d => ∃ x, d = .int x ∧ N x) hp h (fun ds d k hd => k d hd) hm) fun d k => k
end
end Kr
namespace Kr
open PySem PySem.Spec PyProof.Rows L2
section
variable {P : Program} {w : World} {K : PySem.W.Frag} {mg : Str → Option Value} {base : Heap} {α : Type}
/-- the class of a measure, as it stands -/
structure MeaT (P : Program) (w : World) (K : PySem.W.Frag) (mg : Str → Option Value) (base : Heap) (R : MeaR α) (C : Addr) (km : Nat) (fD fR fB fT : Addr) (dD dR dB dT : FuncData) (pD pR pB pT : List Str) : Prop where
  cl : Cls K C
  mD : Meth K C "of_deed" fD
  mR : Meth K C "of_row" fR
  mB : Meth K C "of_back" fB
  mT : Meth K C "of_times" fT
  gD : FnOk P w K mg base CX0 km fD dD pD (R.spD C)
  gR : FnOk P w K mg base CX0 km fR dR pR (R.spR C)
  gB : FnOk P w K mg base CX0 km fB dB pB (R.spB C)
  gT : FnOk P w K mg base CX0 km fT dT pT (R.spT C)
  bD : Binds K dD pD []
  bR : Binds K dR pR []
  bB : Binds K dB pB []
  bT : Binds K dT pT []
def spTW (R : MeaR α) (C : Addr) (n : Nat) : Sp := fun vs H Q _ => ∃ (v : V) (W : Addr) (m : V) (t : Tm) (ws : List V) (as : List α), vs = [v, .ref W, m] ∧ R.obj C m H ∧ Dq H v (tmD t) ∧ dep t ≤ n ∧ R.most ≤ 400 ∧ okTm R.okD R.most as.length t ∧ H W = some (.lst ws) ∧ ws.length = as.length ∧ (∀ (i : Nat) u x, ws[i]? = some u → as[i]? = some x → R.rep x u H) ∧ (∀ x ∈ as, R.ok x) ∧
  ∀ H' r, Same H H' → R.rep (worth R.toMea as t) r H' → Q r H'
theorem dep_pos : ∀ t : Tm, 1 ≤ dep t
  | .doo _ => by simp only [dep]; omega
  | .part _ => by simp only [dep]; omega
  | .row _ => by simp only [dep]; omega
  | .back _ => by simp only [dep]; omega
  | .times _ _ => by simp only [dep]; omega
abbrev nTw : List Str := ["term", "worths", "measure", "word", "inner", "worth"]
theorem scTw : FnScope nTw ["term", "worths", "measure"] (defScope sTermWorth) := ⟨rfl, rfl, rfl, by decide +kernel, rfl, by decide +kernel, by decide +kernel⟩
theorem o_termWorth {R : MeaR α} {C : Addr} {km : Nat} {fD fR fB fT : Addr} {dD dR dB dT : FuncData} {pD pR pB pT : List Str} (D0 : Df K mg "term_worth" sTermWorth ["term", "worths", "measure"]) (B : Bi mg) (T : MeaT P w K mg base R C km fD fR fB fT dD dR dB dT pD pR pB pT) :
    ∀ n, Ok P w K mg base (km + n) "term_worth" ["term", "worths", "measure"] (spTW R C n)
  | 0 => D0.ok fun f fd F => by
    have no : ∀ vs H Q E, ¬ spTW R C 0 vs H Q E := fun vs H Q E h => by
      obtain ⟨_, _, _, t, _, _, _, _, _, hd, _⟩ := h
      have := dep_pos t
      omega
    exact ⟨fun vs H Q E h => absurd h (no vs H Q E), fun A outer s H args us vs Q E _ _ _ _ h => absurd h (no vs H Q E)⟩
  | n + 1 => by
    have ih := o_termWorth (R := R) D0 B T n
    refine D0.ok fun f fd F => F.ok scTw (fun vs H Q E h => ?_) (fun cdv A outer s H vs Q E hr h => ?_)
    · obtain ⟨_, _, _, _, _, _, rfl, _⟩ := h
      rfl
    · obtain ⟨v, W, m, t, ws, as, rfl, hob, hv, hdp, hmo, hok, hW, hwl, hrep, hoa, q⟩ := h
      have hm := hr.mono (show km ≤ km + n by omega)
      refine ⟨_, pss_cons (ps_set (i := 3) scTw.nd rfl (.inl rfl) (pe_ix ix_tup (pv 0) pe_int (fun _ _ => rfl)))
      (pss_cons (ps_if (pt_cmpR op_eq (pv 3) pe_str (nomark _)) (pss_one (ps_ret (pe_meth (pv 2) T.cl T.mD T.gD hm T.bD .nil pass0 (pa_cons (pe_ix ix_tup (pv 0) pe_int (fun _ _ => rfl)) pa_nil)))) pss_nil)
      (pss_cons (ps_if (pt_cmpR op_eq (pv 3) pe_str (nomark _)) (pss_one (ps_ret (pe_ix ix_list (pv 1) (pe_ix ix_tup (pv 0) pe_int (fun _ _ => rfl)) (fun _ _ => rfl)))) pss_nil)
      (pss_cons (ps_if (pt_cmpR op_eq (pv 3) pe_str (nomark _)) (pss_one (ps_ret (pe_meth (pv 2) T.cl T.mR T.gR hm T.bR .nil pass0 (pa_cons (pe_lc (own := [("inner", 4)]) (g := gName 4) (tt := tYes) rfl scTw.nd (pi_tup (pe_ix ix_tup (pv 0) pe_int (fun _ _ => rfl))) (blkOk_by (own := [("inner", 4)]) (N := nTw) (sc := defScope sTermWorth) (by decide +kernel)) (fun _ _ _ _ _ => pg_name (i := 4) scTw.nd rfl (.inl rfl)) (fun _ _ _ _ _ => pts_nil) (fun _ _ _ _ _ => (pe_fn ih hr (by rfl) (pa_cons (pv 4) (pa_cons (pv 1) (pa_cons (pv 2) pa_nil)))))) pa_nil)))) pss_nil)
      (pss_cons (ps_set (i := 5) scTw.nd rfl (.inl rfl) (pe_fn ih hr (by rfl) (pa_cons (pe_ix ix_tup (pv 0) pe_int (fun _ _ => rfl)) (pa_cons (pv 1) (pa_cons (pv 2) pa_nil)))))
      (pss_cons (ps_if (pt_cmpR op_eq (pv 3) pe_str (nomark _)) (pss_one (ps_ret (pe_meth (pv 2) T.cl T.mB T.gB hm T.bB .nil pass0 (pa_cons (pv 5) pa_nil)))) pss_nil)
      (pss_one (ps_ret (pe_meth (pv 2) T.cl T.mT T.gT hm T.bT .nil pass0 (pa_cons (pv 5) (pa_cons (pe_ix ix_tup (pv 0) pe_int (fun _ _ => rfl)) pa_nil)))))))))), ?_⟩
      cases t with
      | doo d =>
        simp only [tmD] at hv
        simp only [okTm] at hok
        obtain ⟨a, xs, rfl, ha, qx⟩ := Dq.tup_inv hv
        cases qx with
        | cons q1 qx =>
        cases qx with
        | cons q2 qx =>
        cases qx
        cases q1
        refine ⟨.ref a, rfl, a, _, ((0 : Nat) : Int), _, rfl, rfl, SqT.of ha, atI_nat (j := 0) rfl, ?_⟩
        dsimp only [tNext]
        refine ⟨_, rfl, rfl, _, rfl, ?_⟩
        rw [decide_eq_true rfl]
        refine iteT ?_
        obtain ⟨ma, dx, fs, rfl, hm1, hfs⟩ := hob
        refine ⟨.ref ma, rfl, ma, dx, fs, rfl, hm1, R.nD hfs, .ref a, rfl, a, _, ((1 : Nat) : Int), _, rfl, rfl, SqT.of ha, atI_nat (j := 1) rfl, ?_⟩
        refine ⟨.ref ma, _, d, rfl, ⟨ma, dx, fs, rfl, hm1, hfs⟩, q2, hok, fun H' r s1 h1 => q H' r s1 ?_⟩
        simp only [worth]
        exact h1
      | part j =>
        simp only [tmD] at hv
        simp only [okTm] at hok
        obtain ⟨a, xs, rfl, ha, qx⟩ := Dq.tup_inv hv
        cases qx with
        | cons q1 qx =>
        cases qx with
        | cons q2 qx =>
        cases qx
        cases q1
        cases q2
        refine ⟨.ref a, rfl, a, _, ((0 : Nat) : Int), _, rfl, rfl, SqT.of ha, atI_nat (j := 0) rfl, ?_⟩
        dsimp only [tNext]
        refine ⟨_, rfl, rfl, _, rfl, ?_⟩
        rw [decide_eq_false (by decide)]
        refine iteF ?_
        dsimp only [tNext]
        refine ⟨_, rfl, rfl, _, rfl, ?_⟩
        rw [decide_eq_true rfl]
        obtain ⟨u, hu⟩ : ∃ u, ws[j]? = some u := ⟨_, List.getElem?_eq_getElem (by omega)⟩
        refine iteT ⟨.ref W, rfl, .ref a, rfl, a, _, ((1 : Nat) : Int), _, rfl, rfl, SqT.of ha, atI_nat (j := 1) rfl, W, ws, j, u, rfl, rfl, SqL.of hW, atI_nat hu, q H u (Same.refl _) ?_⟩
        simp only [worth]
        rw [List.getD_eq_getElem?_getD, List.getElem?_eq_getElem hok]
        exact hrep j u _ hu (List.getElem?_eq_getElem hok)
      | row ts =>
        simp only [tmD] at hv
        simp only [okTm] at hok
        simp only [dep] at hdp
        obtain ⟨a, xs, rfl, ha, qx⟩ := Dq.tup_inv hv
        cases qx with
        | cons q1 qx =>
        cases qx with
        | cons q2 qx =>
        cases qx
        cases q1
        obtain ⟨b, ys, rfl, hb, qy⟩ := Dq.tup_inv q2
        rw [tmDs_map] at qy
        refine ⟨.ref a, rfl, a, _, ((0 : Nat) : Int), _, rfl, rfl, SqT.of ha, atI_nat (j := 0) rfl, ?_⟩
        dsimp only [tNext]
        refine ⟨_, rfl, rfl, _, rfl, ?_⟩
        rw [decide_eq_false (by decide)]
        refine iteF ?_
        dsimp only [tNext]
        refine ⟨_, rfl, rfl, _, rfl, ?_⟩
        rw [decide_eq_false (by decide)]
        refine iteF ?_
        dsimp only [tNext]
        refine ⟨_, rfl, rfl, _, rfl, ?_⟩
        rw [decide_eq_true rfl]
        refine iteT ?_
        obtain ⟨ma, dx, fs, rfl, hm1, hfs⟩ := hob
        have hyl : ys.length = ts.length := by rw [qy.len, List.length_map]
        refine ⟨.ref ma, rfl, ma, dx, fs, rfl, hm1, R.nR hfs, .ref a, rfl, a, _, ((1 : Nat) : Int), _, rfl, rfl, SqT.of ha, atI_nat (j := 1) rfl, b, rfl, ⟨_, SqT.of hb⟩, fun D nD => ?_⟩
        refine lc_it (walk_tup (K := K) (a := b) (xs := ys)) (fun i G => ∃ us : List V, G D = some (.lst us) ∧ Same H G ∧ us.length = i ∧ ∀ (k : Nat) u t, us[k]? = some u → ts[k]? = some t → R.rep (worth R.toMea as t) u G) ⟨[], upd_same, same_new nD, rfl, fun k u t h _ => by simp at h⟩ (fun _ _ _ ⟨_, _, sm, _, _⟩ => SqT.of (sm _ _ hb)) ?_ ?_
        · rintro i x _ G hi ⟨us, hD, sm, hul, hus⟩ ⟨rfl, hx⟩
          obtain ⟨d0, hd0, qd⟩ := qy.get hx
          rw [List.getElem?_map] at hd0
          obtain ⟨t, ht, rfl⟩ := Option.map_eq_some_iff.mp hd0
          have htm := List.mem_of_getElem? ht
          have htd : dep t ≤ n := by have := depL_le htm; omega
          refine ⟨rfl, ?_⟩
          dsimp only [tYes]
          rw [if_pos rfl]
          refine ⟨x, rfl, .ref W, rfl, .ref ma, rfl, x, W, .ref ma, t, ws, as, rfl, ⟨ma, dx, fs, rfl, sm _ _ hm1, hfs⟩, qd.up sm, htd, hmo, okTms_mem hok.2 t htm, sm _ _ hW, hwl, (fun k u y h1 h2 => R.up (TS.of sm) (hrep k u y h1 h2)), hoa, fun H' r s1 h1 => ?_⟩
          have hD' := s1 _ _ hD
          refine ⟨us, hD', szm (by omega), us ++ [r], upd_same, fun c o hc => ?_, by rw [List.length_append, hul]; rfl, fun k u t' hk ht' => ?_⟩
          · rw [upd_ne (ne_of_none hc nD)]
            exact s1 _ _ (sm _ _ hc)
          · have ts' : TS H' (upd H' D (.lst (us ++ [r]))) := TS.lst hD'
            rcases Nat.lt_trichotomy k us.length with c | c | c
            · rw [List.getElem?_append_left c] at hk
              exact R.up ts' (R.up (TS.of s1) (hus k u t' hk ht'))
            · subst c
              rw [List.getElem?_append_right (Nat.le_refl _), Nat.sub_self] at hk
              cases Option.some.inj hk
              rw [hul, ht] at ht'
              cases Option.some.inj ht'
              exact R.up ts' h1
            · rw [List.getElem?_eq_none (by rw [List.length_append]; show _ + 1 ≤ _; omega)] at hk
              cases hk
        · rintro G ⟨us, hD, sm, hul, hus⟩
          refine ⟨.ref ma, D, us, ts.map (worth R.toMea as), rfl, ⟨ma, dx, fs, rfl, sm _ _ hm1, hfs⟩, hD, by rw [List.length_map, hul, hyl], by rw [List.length_map]; exact hok.1, (fun k u x h1 h2 => ?_), (fun x hx => ?_), fun H' r s1 h1 => q H' r (sm.trans s1) ?_⟩
          · rw [List.getElem?_map] at h2
            obtain ⟨t, ht, rfl⟩ := Option.map_eq_some_iff.mp h2
            exact hus k u t h1 ht
          · obtain ⟨t, ht, rfl⟩ := List.mem_map.mp hx
            exact worth_ok R hoa t (okTms_mem hok.2 t ht)
          · simp only [worth]
            rw [worthL_map]
            exact h1
      | back t =>
        simp only [tmD] at hv
        simp only [okTm] at hok
        simp only [dep] at hdp
        obtain ⟨a, xs, rfl, ha, qx⟩ := Dq.tup_inv hv
        cases qx with
        | cons q1 qx =>
        cases qx with
        | @cons y _ _ _ q2 qx =>
        cases qx
        cases q1
        refine ⟨.ref a, rfl, a, _, ((0 : Nat) : Int), _, rfl, rfl, SqT.of ha, atI_nat (j := 0) rfl, ?_⟩
        dsimp only [tNext]
        refine ⟨_, rfl, rfl, _, rfl, ?_⟩
        rw [decide_eq_false (by decide)]
        refine iteF ?_
        dsimp only [tNext]
        refine ⟨_, rfl, rfl, _, rfl, ?_⟩
        rw [decide_eq_false (by decide)]
        refine iteF ?_
        dsimp only [tNext]
        refine ⟨_, rfl, rfl, _, rfl, ?_⟩
        rw [decide_eq_false (by decide)]
        refine iteF ?_
        dsimp only [tNext]
        refine ⟨.ref a, rfl, a, _, ((1 : Nat) : Int), _, rfl, rfl, SqT.of ha, atI_nat (j := 1) rfl, .ref W, rfl, m, rfl, _, W, m, t, ws, as, rfl, hob, q2, by omega, hmo, hok, hW, hwl, hrep, hoa, fun H1 r s1 h1 => ?_⟩
        dsimp only [tNext]
        refine ⟨_, rfl, rfl, _, rfl, ?_⟩
        rw [decide_eq_true rfl]
        obtain ⟨ma, dx, fs, rfl, hm1, hfs⟩ := hob
        refine iteT ⟨.ref ma, rfl, ma, dx, fs, rfl, s1 _ _ hm1, R.nB hfs, r, rfl, .ref ma, r, _, rfl, ⟨ma, dx, fs, rfl, s1 _ _ hm1, hfs⟩, h1, worth_ok R hoa t hok, fun H' r' s2 h2 => q H' r' (s1.trans s2) ?_⟩
        simp only [worth]
        exact h2
      | times t k =>
        simp only [tmD] at hv
        simp only [okTm] at hok
        simp only [dep] at hdp
        obtain ⟨a, xs, rfl, ha, qx⟩ := Dq.tup_inv hv
        cases qx with
        | cons q1 qx =>
        cases qx with
        | @cons y _ _ _ q2 qx =>
        cases qx with
        | cons q3 qx =>
        cases qx
        cases q1
        cases q3
        refine ⟨.ref a, rfl, a, _, ((0 : Nat) : Int), _, rfl, rfl, SqT.of ha, atI_nat (j := 0) rfl, ?_⟩
        dsimp only [tNext]
        refine ⟨_, rfl, rfl, _, rfl, ?_⟩
        rw [decide_eq_false (by decide)]
        refine iteF ?_
        dsimp only [tNext]
        refine ⟨_, rfl, rfl, _, rfl, ?_⟩
        rw [decide_eq_false (by decide)]
        refine iteF ?_
        dsimp only [tNext]
        refine ⟨_, rfl, rfl, _, rfl, ?_⟩
        rw [decide_eq_false (by decide)]
        refine iteF ?_
        dsimp only [tNext]
        refine ⟨.ref a, rfl, a, _, ((1 : Nat) : Int), _, rfl, rfl, SqT.of ha, atI_nat (j := 1) rfl, .ref W, rfl, m, rfl, _, W, m, t, ws, as, rfl, hob, q2, by omega, hmo, hok.2, hW, hwl, hrep, hoa, fun H1 r s1 h1 => ?_⟩
        dsimp only [tNext]
        refine ⟨_, rfl, rfl, _, rfl, ?_⟩
        rw [decide_eq_false (by decide)]
        obtain ⟨ma, dx, fs, rfl, hm1, hfs⟩ := hob
        refine iteF ?_
        dsimp only [tNext]
        refine ⟨.ref ma, rfl, ma, dx, fs, rfl, s1 _ _ hm1, R.nT hfs, r, rfl, .ref a, rfl, a, _, ((2 : Nat) : Int), _, rfl, rfl, SqT.of (s1 _ _ ha), atI_nat (j := 2) rfl, .ref ma, r, _, k, rfl, ⟨ma, dx, fs, rfl, s1 _ _ hm1, hfs⟩, h1, worth_ok R hoa t hok.2, hok.1, fun H' r' s2 h2 => q H' r' (s1.trans s2) ?_⟩
        simp only [worth]
        exact h2
end
end Kr
namespace Kr
open PySem PySem.Spec PyProof.Rows L2
/-! ### worths of programs -/
section
variable {α : Type}
def wsAll (M : Mea α) : List Tm → List α → List α
  | [], ws => ws
  | t :: ts, ws => wsAll M ts (ws ++ [worth M ws t])
theorem wsAll_app (M : Mea α) : ∀ (a b : List Tm) (ws : List α), wsAll M (a ++ b) ws = wsAll M b (wsAll M a ws)
  | [], _, _ => rfl
  | t :: a, b, ws => wsAll_app M a b _
theorem wsAll_len (M : Mea α) : ∀ (a : List Tm) (ws : List α), (wsAll M a ws).length = ws.length + a.length
  | [], _ => rfl
  | t :: a, ws => by
    show (wsAll M a _).length = _
    rw [wsAll_len M a]
    simp only [List.length_append, List.length_cons, List.length_nil]
    omega
/-- the worth of a program -/
def progW (M : Mea α) (p : List Tm) : α := (wsAll M p []).getLastD (M.oR [])
/-- a program whose terms are at most so deep -/
structure PrOk (D : Mv → Prop) (r n : Nat) (p : List Tm) : Prop where
  ne : 0 < p.length
  len : p.length ≤ 400
  tm : ∀ (i : Nat) t, p[i]? = some t → okTm D r i t ∧ dep t ≤ n
theorem wsAll_take (M : Mea α) {p : List Tm} {i : Nat} {t : Tm} (h : p[i]? = some t) : wsAll M (p.take (i + 1)) [] = wsAll M (p.take i) [] ++ [worth M (wsAll M (p.take i) []) t] := by
  rw [List.take_add_one, h, wsAll_app]
  rfl
theorem wsAll_ok (R : MeaR α) {n : Nat} {p : List Tm} (h : PrOk R.okD R.most n p) : ∀ i, i ≤ p.length → ∀ a ∈ wsAll R.toMea (p.take i) [], R.ok a
  | 0, _, a, ha => nomatch ha
  | i + 1, hi, a, ha => by
    obtain ⟨t, ht⟩ : ∃ t, p[i]? = some t := ⟨_, List.getElem?_eq_getElem (by omega)⟩
    rw [wsAll_take _ ht] at ha
    have ih := wsAll_ok R h i (by omega)
    rcases List.mem_append.mp ha with c | c
    · exact ih a c
    · rw [List.mem_singleton.mp c]
      refine worth_ok R ih t ?_
      rw [wsAll_len, List.length_take]
      have := (h.tm i t ht).1
      rwa [show [].length + min i p.length = i by show 0 + _ = _; omega]
end
section
variable {P : Program} {w : World} {K : PySem.W.Frag} {mg : Str → Option Value} {base : Heap} {α : Type}
def spPW (R : MeaR α) (C : Addr) (n : Nat) : Sp := fun vs H Q _ => ∃ (v m : V) (p : List Tm), vs = [v, m] ∧ R.obj C m H ∧ Dq H v (.tuple (p.map tmD)) ∧ R.most ≤ 400 ∧ PrOk R.okD R.most n p ∧ ∀ H' r, Same H H' → R.rep (progW R.toMea p) r H' → Q r H'
abbrev nPw : List Str := ["program", "measure", "worths", "term"]
theorem o_progWorth {R : MeaR α} {C : Addr} {km n : Nat} (D0 : Df K mg "program_worth" sProgramWorth ["program", "measure"]) (B : Bi mg) (tw : Ok P w K mg base (km + n) "term_worth" ["term", "worths", "measure"] (spTW R C n)) : Ok P w K mg base (km + n + 1) "program_worth" ["program", "measure"] (spPW R C n) := by
  have scPw : FnScope nPw ["program", "measure"] (defScope sProgramWorth) := ⟨rfl, rfl, rfl, by decide +kernel, rfl, by decide +kernel, by decide +kernel⟩
  refine D0.ok fun f fd F => F.ok scPw (fun vs H Q E h => ?_) (fun cdv A outer s H vs Q E hr h => ?_)
  · obtain ⟨_, _, _, rfl, _⟩ := h
    rfl
  · obtain ⟨v, m, p, rfl, hob, hv, hmo, hp, q⟩ := h
    refine ⟨_, pss_cons (ps_set (i := 2) scPw.nd rfl (.inl rfl) (pe_lst pa_nil))
      (pss_cons (ps_for PassesOwn.never rfl (pi_tup (pv 0)) (pg_name (i := 3) scPw.nd rfl (.inl rfl))
        (pss_one (ps_expr (pe_bm PySem.F.plainAttrs_list PySem.F.slot_list_append PySem.F.type_list_append mt_append (pv 2) (pa_cons (pe_fn tw hr (by rfl) (pa_cons (pv 3) (pa_cons (pv 2) (pa_cons (pv 1) pa_nil)))) pa_nil)))))
      (pss_one (ps_ret (pe_ix ix_list (pv 2) (pe_un un_neg pe_int) (fun _ _ => rfl))))), ?_⟩
    obtain ⟨pa, xs, rfl, hpa, qx⟩ := Dq.tup_inv hv
    have hxl : xs.length = p.length := by rw [qx.len, List.length_map]
    refine ⟨by show 0 ≤ sizeLine; decide, fun W nW => ?_⟩
    have s1 := same_new (o := .lst []) nW
    have hW : upd H W (.lst []) W = some (.lst []) := upd_same
    have nf : ∀ b o, H b = some o → b ≠ W := fun b o hb => ne_of_none hb nW
    generalize upd H W (.lst []) = H1 at s1 hW
    dsimp only [tNext]
    refine ⟨.ref pa, rfl, pa, rfl, ⟨_, SqT.of (s1 _ _ hpa)⟩, for_it (walk_tup (K := K) (a := pa) (xs := xs)) (fun i σ G => ∃ (v3 : Option V) (us : List V), σ = [some (.ref pa), some m, some (.ref W), v3] ∧ Same H G ∧ G W = some (.lst us) ∧ us.length = i ∧ ∀ (k : Nat) u a, us[k]? = some u → (wsAll R.toMea (p.take i) [])[k]? = some a → R.rep a u G)
      ⟨_, [], rfl, s1, hW, rfl, fun k u a h _ => by simp at h⟩ (fun _ _ _ _ ⟨_, _, _, sm, _⟩ => SqT.of (sm _ _ hpa)) ?_ ?_⟩
    · rintro i x σ _ G hi ⟨v3, us, rfl, sm, hG, hul, hus⟩ ⟨rfl, hx⟩
      obtain ⟨d0, hd0, qd⟩ := qx.get hx
      rw [List.getElem?_map] at hd0
      obtain ⟨t, ht, rfl⟩ := Option.map_eq_some_iff.mp hd0
      obtain ⟨h1, h2⟩ := hp.tm i t ht
      have hwl : (wsAll R.toMea (p.take i) []).length = i := by
        rw [wsAll_len, List.length_take]
        show 0 + _ = _
        omega
      have hpl := hp.len
      refine ⟨.ref W, rfl, .inl ⟨rfl, _, SqL.of hG⟩, x, rfl, .ref W, rfl, m, rfl, x, W, m, t, us, wsAll R.toMea (p.take i) [], rfl, MeaR.objUp hob sm, qd.up sm, h2, hmo, by rw [hwl]; exact h1, hG, by rw [hul, hwl], hus, wsAll_ok R hp i (by omega), fun H' r s2 hr' => ?_⟩
      have hG' := s2 _ _ hG
      refine ⟨W, us, r, rfl, rfl, hG', szl (by omega), _, us ++ [r], rfl, fun b o hb => ?_, upd_same, by rw [List.length_append, hul]; rfl, fun k u a hk ha => ?_⟩
      · rw [upd_ne (nf b o hb)]
        exact s2 _ _ (sm _ _ hb)
      · have ts : TS H' (upd H' W (.lst (us ++ [r]))) := TS.lst hG'
        rw [wsAll_take _ ht] at ha
        rcases Nat.lt_trichotomy k us.length with c | c | c
        · rw [List.getElem?_append_left c] at hk
          rw [List.getElem?_append_left (by rw [hwl]; omega)] at ha
          exact R.up ts (R.up (TS.of s2) (hus k u a hk ha))
        · subst c
          rw [List.getElem?_append_right (Nat.le_refl _), Nat.sub_self] at hk
          cases Option.some.inj hk
          rw [List.getElem?_append_right (by rw [hwl]; omega), hwl, hul, Nat.sub_self] at ha
          cases Option.some.inj ha
          exact R.up ts hr'
        · rw [List.getElem?_eq_none (by rw [List.length_append]; show _ + 1 ≤ _; omega)] at hk
          cases hk
    · rintro σ G ⟨v3, us, rfl, sm, hG, hul, hus⟩
      rw [hxl, List.take_length] at hus
      rw [hxl] at hul
      have hne := hp.ne
      obtain ⟨u, hu⟩ : ∃ u, us[p.length - 1]? = some u := ⟨_, List.getElem?_eq_getElem (by omega)⟩
      have hal : (wsAll R.toMea p []).length = p.length := by rw [wsAll_len]; show 0 + _ = _; omega
      obtain ⟨a, ha⟩ : ∃ a, (wsAll R.toMea p [])[p.length - 1]? = some a := ⟨_, List.getElem?_eq_getElem (by omega)⟩
      have el : progW R.toMea p = a := by
        unfold progW
        rw [List.getLastD_eq_getLast?, List.getLast?_eq_getElem?, hal, ha]
        rfl
      have hul2 : p.length - 1 < us.length := by omega
      have eu : us = us.take (p.length - 1) ++ [u] := by
        have h1 := List.take_append_drop (p.length - 1) us
        rw [List.drop_eq_getElem_cons hul2, List.drop_eq_nil_of_le (by omega)] at h1
        rw [List.getElem?_eq_getElem hul2] at hu
        rw [Option.some.inj hu] at h1
        exact h1.symm
      refine ⟨.ref W, rfl, _, rfl, W, us, -1, u, rfl, rfl, SqL.of hG, by rw [eu]; exact atI_last _ _, q G u sm ?_⟩
      rw [el]
      exact hus _ u a hu ha
end
end Kr
namespace Kr
open PySem PySem.Spec PyProof.Rows L2
/-! ### drawn programs -/
theorem tms_lowm {n r : Nat} (hn : n ≤ 24) {p : List Tm} (hl : p.length ≤ 400) (h : ∀ (i : Nat) t, p[i]? = some t → okTm (Deed n) r i t) : lowT (.tuple (p.map tmD)) = true := by
  have : ∀ ts : List Tm, (∀ t ∈ ts, lowT (tmD t) = true) → lowTA (ts.map tmD) = true := by
    intro ts
    induction ts with
    | nil => intro _; rfl
    | cons t ts ih =>
      intro h
      simp only [List.map_cons, lowTA, h t List.mem_cons_self, ih fun x hx => h x (List.mem_cons_of_mem _ hx)]
      rfl
  simp only [lowT]
  refine this p fun t ht => ?_
  obtain ⟨i, hi⟩ := List.getElem?_of_mem ht
  exact low_tm hn (show i ≤ 400 by have := (List.getElem?_eq_some_iff.mp hi).1; omega) t (h i t hi)
/-- how many items a drawn term has at most -/
def itF : Nat → Nat
  | 0 => 8
  | d + 1 => 5 + 3 * itF d
theorem itF_le : ∀ a d : Nat, itF a ≤ itF (a + d)
  | _, 0 => Nat.le_refl _
  | a, d + 1 => Nat.le_trans (itF_le a d) (by show _ ≤ 5 + 3 * itF (a + d); omega)
theorem itF_mono {a b : Nat} (h : a ≤ b) : itF a ≤ itF b := by
  have := itF_le a (b - a)
  rwa [show a + (b - a) = b by omega] at this
theorem itF_one (d : Nat) : 29 ≤ itF (d + 1) := itF_mono (a := 1) (by omega)
mutual
theorem itm_tm {n k : Nat} (hn : n ≤ 24) : ∀ t : Tm, okTm (Deed n) 3 k t → itm (tmD t) ≤ itF (dep t)
  | .doo d, h => by
    simp only [okTm] at h
    have h1 := h.few
    have h2 : ∀ l : List Nat, itmA (l.map fun x : Nat => PyData.int (x : Int)) = 0 := by
      intro l
      induction l with
      | nil => rfl
      | cons x l ih => simp only [List.map_cons, itmA, itm, ih]
    simp only [tmD, deedD, lotD, itm, itmA, h2, dep, List.length_cons, List.length_nil, List.length_map, itF]
    omega
  | .part j, h => by simp only [tmD, itm, itmA, dep, List.length_cons, List.length_nil, itF]; omega
  | .row ts, h => by
    simp only [okTm] at h
    have h1 : (tmDs ts).length = ts.length := by rw [tmDs_map, List.length_map]
    have h2 := itm_tms hn ts h.2
    have h3 : ts.length * itF (depL ts) ≤ 3 * itF (depL ts) := Nat.mul_le_mul_right _ h.1
    simp only [tmD, itm, itmA, dep, List.length_cons, List.length_nil, itF, h1]
    omega
  | .back t, h => by
    simp only [okTm] at h
    have h2 := itm_tm hn t h
    simp only [tmD, itm, itmA, dep, List.length_cons, List.length_nil, itF]
    omega
  | .times t m, h => by
    simp only [okTm] at h
    have h2 := itm_tm hn t h.2
    simp only [tmD, itm, itmA, dep, List.length_cons, List.length_nil, itF]
    omega
theorem itm_tms {n k : Nat} (hn : n ≤ 24) : ∀ ts : List Tm, okTms (Deed n) 3 k ts → itmA (tmDs ts) ≤ ts.length * itF (depL ts)
  | [], _ => by simp [tmDs, itmA]
  | t :: ts, h => by
    simp only [okTms] at h
    have h1 := itm_tm hn t h.1
    have h2 := itm_tms hn ts h.2
    have h3 : itF (dep t) ≤ itF (depL (t :: ts)) := itF_mono (Nat.le_max_left _ _)
    have h4 : ts.length * itF (depL ts) ≤ ts.length * itF (depL (t :: ts)) := Nat.mul_le_mul_left _ (itF_mono (Nat.le_max_right _ _))
    simp only [tmDs, itmA, List.length_cons, Nat.succ_mul]
    omega
end
theorem last_at {α : Type} (xs : List α) (y : α) : (xs ++ [y])[(xs ++ [y]).length - 1]? = some y := by simp
def sizesOf (ts : List Tm) : List Int := ts.map fun t => ((1 + itm (tmD t) : Nat) : Int)
theorem sizes_sum : ∀ ts : List Tm, (sizesOf ts).sum = ((itm (.tuple (ts.map tmD)) : Nat) : Int)
  | [] => rfl
  | t :: ts => by
    have ih := sizes_sum ts
    simp only [itm] at ih ⊢
    show ((1 + itm (tmD t) : Nat) : Int) + (sizesOf ts).sum = _
    rw [ih]
    simp only [List.map_cons, itmA, List.length_cons]
    omega
theorem mono_sum (K : PySem.W.Frag) : MonoL (rSum K) := fun _ _ _ _ h ⟨a, ns, x, y, q⟩ => ⟨a, ns, x, y, h _ _ q⟩
def spProg7 : Sp := fun vs H Q _ => ∃ (p l tl : Addr) (many most deep : Nat) (ks : List Nat), vs = [.ref p, .int (many : Int), .int (most : Int), .int (deep : Int), .ref tl] ∧ Deck H p l ∧ 3 ≤ many ∧ many ≤ 24 ∧ 1 ≤ most ∧ most ≤ 300 ∧ 1 ≤ deep ∧ deep ≤ 5 ∧ hid p l H tl = some (.lst (ks.map fun k : Nat => V.int (k : Int))) ∧ ks ≠ [] ∧ ks.length ≤ 100 ∧ (∀ k ∈ ks, k ≤ 10 ^ 30) ∧
  ∀ H' v ts, Deck H' p l → Ext p l H H' → Dq H' v (.tuple (ts.map tmD)) → PrOk (Deed many) 3 deep ts → itm (.tuple (ts.map tmD)) ≤ 3600 → ts.length ≤ most → Q v H'
section
variable {P : Program} {w : World} {K : PySem.W.Frag} {mg : Str → Option Value} {base : Heap}
abbrev n_lProg7 : List Str := ["deck", "many", "most", "deep", "times", "found", "spot", "sizes", "term"]
theorem sc_lProg7 : FnScope n_lProg7 ["deck", "many", "most", "deep", "times"] (defScope sLProgram) := ⟨rfl, rfl, rfl, by decide +kernel, rfl, by decide +kernel, by decide +kernel⟩
theorem o_lProg7 (D0 : Df K mg "_law_program" sLProgram ["deck", "many", "most", "deep", "times"]) (B : Bi mg) (dr : Ok P w K mg base 1 "_law_draw" ["deck", "many"] spDraw) (tm : Ok P w K mg base 8 "_law_term" ["deck", "many", "spot", "deep", "times"] (spTerm7 5)) (it : Ok P w K mg base 12 "_law_items" ["thing"] (spItems 12)) : Ok P w K mg base 13 "_law_program" ["deck", "many", "most", "deep", "times"] spProg7 := by
  refine D0.ok fun f fd F => F.ok sc_lProg7 (fun vs H Q E h => ?_) (fun cdv A outer s H vs Q E hr h => ?_)
  · obtain ⟨_, _, _, _, _, _, _, rfl, _⟩ := h
    rfl
  · obtain ⟨p, l, tl, many, most, deep, ks, rfl, Dk, m0, m1, mo0, mo1, d0, d1, htl, hk0, hkl, hkb, q⟩ := h
    have hr_dr := hr.mono (show 1 ≤ 12 by omega)
    have hr_tm := hr.mono (show 8 ≤ 12 by omega)
    have hr_it := hr.mono (show 12 ≤ 12 by omega)
    have hu : (cxOf CX0 P w K mg base n_lProg7 "_law_program" (defScope sLProgram) f cdv A outer s H E).A.units + 64 < cLine := hr.units
    have hu1 := hu_of hr
    refine ⟨_, pss_cons (ps_setLc (i := 5) (own := [("spot", 6)]) (g := gName 6) (tt := tYes) rfl sc_lProg7.nd rfl rfl (sw_true rfl rfl rfl (by decide +kernel)) (pi_range1 (by rfl) B.range (pa_cons (pe_op op_add pe_int (pe_fn dr hr_dr (by rfl) (pa_cons (pv 0) (pa_cons (pv 2) pa_nil)))) pa_nil)) (blkOk_by (own := [("spot", 6)]) (N := n_lProg7) (sc := defScope sLProgram) (by decide +kernel)) (fun _ _ _ _ _ => pg_name (i := 6) sc_lProg7.nd rfl (.inl rfl)) (fun _ _ _ _ _ => pts_nil) (fun _ _ _ _ _ => (pe_fn tm hr_tm (by rfl) (pa_cons (pv 0) (pa_cons (pv 1) (pa_cons (pv 6) (pa_cons (pv 3) (pa_cons (pv 4) pa_nil))))))))
      (pss_cons (ps_setLc (i := 7) (own := [("term", 8)]) (g := gName 8) (tt := tYes) rfl sc_lProg7.nd rfl rfl (sw_true rfl rfl rfl (by decide +kernel)) (pi_list (pv 5)) (blkOk_by (own := [("term", 8)]) (N := n_lProg7) (sc := defScope sLProgram) (by decide +kernel)) (fun _ _ _ _ _ => pg_name (i := 8) sc_lProg7.nd rfl (.inl rfl)) (fun _ _ _ _ _ => pts_nil) (fun _ _ _ _ _ => (pe_op op_add pe_int (pe_fn it hr_it (by rfl) (pa_cons (pv 8) pa_nil)))))
      (pss_cons (ps_while PassesOwn.never (pt_cmpR op_gt (pe_callB (cr_sum rfl) (by rfl) B.sum (by decide +kernel) (pa_cons (pv 7) pa_nil)) pe_int (nomark _))
        (pss_cons (ps_expr (pe_bm0 PySem.F.plainAttrs_list PySem.F.slot_list_pop PySem.F.type_list_pop mt_pop (pv 5)))
        (pss_one (ps_expr (pe_bm0 PySem.F.plainAttrs_list PySem.F.slot_list_pop PySem.F.type_list_pop mt_pop (pv 7))))))
      (pss_one (ps_ret (pe_callTy call_tuple_of (by rfl) B.tuple (by decide +kernel) (pa_cons (pv 5) pa_nil)))))), ?_⟩
    obtain ⟨ntp, ntl, htl0⟩ := hid_some htl
    refine ⟨.ref p, rfl, .int (most : Int), rfl, p, l, most, rfl, Dk, by omega, fun H1 r D1 E1 r0 r1 => ⟨_, _, rfl, rfl, 1 + r, rfl, by omega, by omega, fun D nD => ?_⟩⟩
    obtain ⟨mm, hmm, hk, hk1⟩ : ∃ mm : Nat, (1 + r).toNat = mm ∧ mm ≤ most ∧ 1 ≤ mm := ⟨(1 + r).toNat, rfl, by omega, by omega⟩
    rw [hmm]
    obtain ⟨nDp, nDl⟩ := D1.new nD
    have nD0 : H D = none := E1.free nD nDp nDl
    refine lc_it (walk_rg (n := mm)) (fun i G2 => ∃ (us : List V) (ts : List Tm), G2 D = some (.lst us) ∧ Deck G2 p l ∧ Ext p l H G2 ∧ us.length = i ∧ DqA G2 us (ts.map tmD) ∧ ∀ (j : Nat) t, ts[j]? = some t → okTm (Deed many) 3 j t ∧ dep t ≤ deep) ⟨[], [], upd_same, D1.mut nDp nDl, Ext.mut E1 nD0, rfl, .nil, (fun j t h => by simp at h)⟩ (fun _ _ _ _ => trivial) ?_ ?_
    · rintro i x _ G2 hi ⟨us, ts, hD, DG, EG, hul, qu, hts⟩ ⟨rfl, rfl⟩
      have htl2 : ts.length = us.length := by have := qu.len; rw [List.length_map] at this; exact this.symm
      refine ⟨rfl, ?_⟩
      dsimp only [tYes]
      rw [if_pos rfl]
      refine ⟨.ref p, rfl, .int (many : Int), rfl, .int (i : Int), rfl, .int (deep : Int), rfl, .ref tl, rfl, p, l, tl, many, i, deep, ks, rfl, DG, m0, m1, by omega, by omega, by omega, by rw [hid_ne ntp ntl]; exact Ext.at_ EG ntp ntl htl0, hk0, hkl, hkb, fun G3 v t D3 E3 hv hok hdt => ?_⟩
      have hD3 := E3.at_ nDp nDl hD
      have ts3 : TS G3 (upd G3 D (.lst (us ++ [v]))) := TS.lst hD3
      have fl := tms_flat ts
      rw [tmDs_map] at fl
      refine ⟨us, hD3, szm (by omega), us ++ [v], ts ++ [t], upd_same, D3.mut nDp nDl, Ext.mut (Same.trans EG E3) nD0, by rw [List.length_append, hul]; rfl, ?_, fun j y hy => ?_⟩
      · rw [List.map_append]
        exact dqa_snoc (DqA.upT ts3 fl (DqA.upT (TS.deck DG E3) fl qu)) (Dq.upT ts3 (tm_flat t) hv)
      · rcases Nat.lt_trichotomy j ts.length with c | c | c
        · rw [List.getElem?_append_left c] at hy
          exact hts j y hy
        · subst c
          rw [List.getElem?_append_right (Nat.le_refl _), Nat.sub_self] at hy
          cases Option.some.inj hy
          rw [htl2, hul]
          exact ⟨hok, hdt⟩
        · rw [List.getElem?_eq_none (by rw [List.length_append]; show _ + 1 ≤ _; omega)] at hy
          cases hy
    · rintro G ⟨us, ts, hD, DG, EG, hul, qu, hts⟩
      have htl2 : ts.length = us.length := by have := qu.len; rw [List.length_map] at this; exact this.symm
      dsimp only [tNext]
      refine ⟨.ref D, rfl, D, rfl, ⟨us, SqL.of hD⟩, fun S nS => ?_⟩
      obtain ⟨nSp, nSl⟩ := DG.new nS
      have nS0 : H S = none := EG.free nS nSp nSl
      have nSD : S ≠ D := (ne_of_none hD nS).symm
      refine lc_it (walk_list (K := K) (a := D) (xs := us)) (fun i G2 => G2 S = some (.lst ((sizesOf (ts.take i)).map V.int)) ∧ Same G G2) ⟨upd_same, same_new nS⟩ (fun _ _ _ ⟨_, sm⟩ => SqL.of (sm _ _ hD)) ?_ ?_
      · rintro i x _ G2 hi ⟨hS, sm⟩ ⟨rfl, hx⟩
        obtain ⟨d0, hd0, qd⟩ := qu.get hx
        rw [List.getElem?_map] at hd0
        obtain ⟨t, ht, rfl⟩ := Option.map_eq_some_iff.mp hd0
        obtain ⟨o1, o2⟩ := hts i t ht
        have o3 := tm_depth t
        refine ⟨rfl, ?_⟩
        dsimp only [tYes]
        rw [if_pos rfl]
        refine ⟨x, rfl, x, _, rfl, qd.up sm, tm_flat t, by omega, wid_tm m1 (by decide) t o1, fun G3 s3 => ⟨_, _, rfl, rfl, _, s3 _ _ hS, szm ?_, ?_, fun c o hc => ?_⟩⟩
        · rw [List.length_map]
          show (List.map _ _).length ≤ _
          rw [List.length_map, List.length_take]
          omega
        · rw [upd_same, List.take_add_one, ht]
          show some (HO.lst _) = some (HO.lst ((List.map _ (_ ++ _)).map _))
          rw [List.map_append, List.map_append]
          simp [sizesOf]
        · rw [upd_ne (ne_of_none hc nS)]
          exact s3 _ _ (sm _ _ hc)
      · rintro G2 ⟨hS, sm⟩
        rw [← htl2, List.take_length] at hS
        dsimp only [tNext]
        have fl := tms_flat ts
        rw [tmDs_map] at fl
        refine while_by (fun σ G3 => ∃ (us : List V) (ts : List Tm), σ = [some (.ref p), some (.int (many : Int)), some (.int (most : Int)), some (.int (deep : Int)), some (.ref tl), some (.ref D), none, some (.ref S), none] ∧ Deck G3 p l ∧ Ext p l H G3 ∧ G3 D = some (.lst us) ∧ DqA G3 us (ts.map tmD) ∧ G3 S = some (.lst ((sizesOf ts).map V.int)) ∧ 0 < ts.length ∧ ts.length ≤ most ∧ ∀ (j : Nat) t, ts[j]? = some t → okTm (Deed many) 3 j t ∧ dep t ≤ deep)
          (fun σ G3 => match G3 S with | some (.lst zs) => zs.length | _ => 0) ⟨us, ts, rfl, DG.up sm, Same.trans EG (Ext.of sm), sm _ _ hD, qu.up sm, hS, by omega, by omega, hts⟩ ?_ (mono_test (mono_op (mono_rI0 _) (mono_cb (mono_sum K) (mono_cons (mono_var 7) mono_nil)) (mono_c _)))
        rintro σ G3 ⟨us, ts, rfl, D3, E3, hD3, q3, hS3, h0, h3, ht3⟩
        refine ⟨.ref S, rfl, S, _, rfl, SqL.of hS3, _, _, rfl, rfl, _, rfl, ?_⟩
        rw [sizes_sum]
        have hpr : PrOk (Deed many) 3 deep ts := ⟨h0, by omega, ht3⟩
        have hul3 := q3.len
        rw [List.length_map] at hul3
        refine ite2 (fun c => ?_) (fun c => ?_)
        · have c1 : 3600 < itm (.tuple (ts.map tmD)) := by
            have := of_decide_eq_true c
            omega
          have h2 : 2 ≤ ts.length := by
            rcases Nat.lt_or_ge ts.length 2 with c2 | c2
            · exfalso
              obtain ⟨t, rfl⟩ : ∃ t, ts = [t] := by
                match ts, h0, c2 with
                | [t], _, _ => exact ⟨t, rfl⟩
                | _ :: _ :: _, _, c2 => exact absurd c2 (by simp)
              obtain ⟨o1, o2⟩ := ht3 0 t rfl
              have a1 := itm_tm m1 t o1
              have a2 : itF (dep t) ≤ itF 5 := itF_mono (by omega)
              have a3 : itF 5 = 2549 := by decide
              simp only [List.map_cons, List.map_nil, itm, itmA, List.length_cons, List.length_nil] at c1
              omega
            · exact c2
          obtain ⟨us0, u, rfl⟩ : ∃ us0 u, us = us0 ++ [u] := by
            have hne : us ≠ [] := fun z => by rw [z] at hul3; simp at hul3; omega
            exact ⟨us.dropLast, us.getLast hne, (List.dropLast_concat_getLast hne).symm⟩
          obtain ⟨ts0, t, rfl⟩ : ∃ ts0 t, ts = ts0 ++ [t] := by
            have hne : ts ≠ [] := fun z => by rw [z] at h0; simp at h0
            exact ⟨ts.dropLast, ts.getLast hne, (List.dropLast_concat_getLast hne).symm⟩
          refine ⟨.ref D, rfl, .inl ⟨rfl, _, SqL.of hD3⟩, D, _, u, rfl, rfl, hD3, last_at _ _, ?_⟩
          have t1 : TS G3 (upd G3 D (.lst (us0 ++ [u]).dropLast)) := TS.lst hD3
          have fl3 := tms_flat (ts0 ++ [t])
          rw [tmDs_map] at fl3
          have q4 := DqA.upT t1 fl3 q3
          have hS4 : upd G3 D (.lst (us0 ++ [u]).dropLast) S = some (.lst ((sizesOf (ts0 ++ [t])).map V.int)) := by rw [upd_ne nSD]; exact hS3
          have hD4 : upd G3 D (.lst (us0 ++ [u]).dropLast) D = some (.lst us0) := by rw [upd_same, List.dropLast_concat]
          have D4 := D3.mut (o := .lst (us0 ++ [u]).dropLast) nDp nDl
          have E4 : Ext p l H (upd G3 D (.lst (us0 ++ [u]).dropLast)) := Ext.mut E3 nD0
          generalize upd G3 D (.lst (us0 ++ [u]).dropLast) = G4 at q4 hS4 hD4 D4 E4
          dsimp only [tNext]
          have e5 : (sizesOf (ts0 ++ [t])).map V.int = (sizesOf ts0).map V.int ++ [.int ((1 + itm (tmD t) : Nat) : Int)] := by simp [sizesOf]
          rw [e5] at hS4
          refine ⟨.ref S, rfl, .inl ⟨rfl, _, SqL.of hS4⟩, S, _, _, rfl, rfl, hS4, last_at _ _, ?_⟩
          have t2 : TS G4 (upd G4 S (.lst ((sizesOf ts0).map V.int ++ [V.int ((1 + itm (tmD t) : Nat) : Int)]).dropLast)) := TS.lst hS4
          refine ⟨⟨us0, ts0, rfl, D4.mut nSp nSl, Ext.mut E4 nS0, by rw [upd_ne nSD.symm]; exact hD4, ?_, by rw [upd_same, List.dropLast_concat], by rw [List.length_append] at h2; simp at h2; omega, by rw [List.length_append] at h3; omega, fun j y hy => ht3 j y ?_⟩, ?_⟩
          · have fl0 := tms_flat ts0
            rw [tmDs_map] at fl0
            refine DqA.upT t2 fl0 ?_
            have := DqA.take us0.length q4
            rw [List.take_left, List.map_append, List.take_left' (by rw [List.length_map]; rw [List.length_append, List.length_append] at hul3; simp at hul3; omega)] at this
            exact this
          · have hj := (List.getElem?_eq_some_iff.mp hy).1
            rw [List.getElem?_append_left hj]
            exact hy
          · show (match upd G4 S _ S with | some (.lst zs) => zs.length | _ => 0) < (match G3 S with | some (.lst zs) => zs.length | _ => 0)
            rw [upd_same, hS3, e5]
            show (List.dropLast _).length < (_ ++ _ : List V).length
            rw [List.dropLast_concat, List.length_append]
            exact Nat.lt_succ_self _
        · have c1 : itm (.tuple (ts.map tmD)) ≤ 3600 := by
            have : ¬ (3600 : Int) < ((itm (.tuple (ts.map tmD)) : Nat) : Int) := fun z => c (decide_eq_true z)
            omega
          dsimp only [tNext]
          refine ⟨.ref D, rfl, D, _, rfl, .inl ⟨SqL.of hD3, fun t nt => ?_⟩⟩
          have s1 := same_new (o := .tup us) nt
          exact q _ _ ts (D3.up s1) (Same.trans E3 (Ext.of s1)) (.tup upd_same (q3.up s1)) hpr c1 h3
end
end Kr
namespace Kr
open PySem PySem.Spec PyProof.Rows L2
/-! ### words of terms asked: term[0] == ".." -/
section
variable {K : PySem.W.Frag} {σ : L2.St} {H : Hp} {i : Nat} {a : Addr} {xs : List V} {w x : Str} {D : Ends} {t u : L2.TS}
abbrev tWord (K : PySem.W.Frag) (i : Nat) (x : Str) : TT := tTest (tOp rEq (tOp (rIxT K) (tVar i) (tC (.int 0))) (tC (.str x)))
theorem w_test {Q : Bool → Hp → Prop} (hv : σ[i]? = some (some (.ref a))) (ha : H a = some (.tup (.str w :: xs))) (q : Q (decide (V.str w = V.str x)) H) : tWord K i x σ H Q := ⟨.ref a, hv, a, _, ((0 : Nat) : Int), _, rfl, rfl, SqT.of ha, atI_nat (j := 0) rfl, rfl, _, rfl, q⟩
theorem sq_wno (hv : σ[i]? = some (some (.ref a))) (ha : H a = some (.tup (.str w :: xs))) (hne : decide (V.str w = V.str x) = false) (h : u D σ H) : tSeq (tIfS (tWord K i x) t tNext) u D σ H := w_test (Q := fun b H1 => if b = true then t { D with nx := u D } σ H1 else u D σ H1) hv ha (by rw [hne]; exact iteF h)
theorem sq_wyes (hv : σ[i]? = some (some (.ref a))) (ha : H a = some (.tup (.str w :: xs))) (h : t (nxD D u) σ H) : tSeq (tIfS (tWord K i w) t tNext) u D σ H := w_test (Q := fun b H1 => if b = true then t { D with nx := u D } σ H1 else u D σ H1) hv ha (by rw [decide_eq_true rfl]; exact iteT h)
theorem rix {k : Int} {j : Nat} {v : V} {Q : VK} (hv : σ[i]? = some (some (.ref a))) (ha : H a = some (.tup xs)) (hk : k = ((j : Nat) : Int)) (hx : xs[j]? = some v) (q : Q v H) : tOp (rIxT K) (tVar i) (tC (.int k)) σ H Q := by
  subst hk
  exact ⟨.ref a, hv, a, xs, _, v, rfl, rfl, SqT.of ha, atI_nat hx, q⟩
end
/-- what stands at the data of a term -/
theorem tm_doo {H : Hp} {v : V} {d : Mv} (h : Dq H v (tmD (.doo d))) : ∃ a x, v = .ref a ∧ H a = some (.tup [.str "do", x]) ∧ Dq H x (deedD d) := by
  simp only [tmD] at h
  obtain ⟨a, xs, rfl, ha, qx⟩ := Dq.tup_inv h
  cases qx with
  | cons q1 qx =>
  cases qx with
  | cons q2 qx =>
  cases qx
  cases q1
  exact ⟨a, _, rfl, ha, q2⟩
theorem tm_prt {H : Hp} {v : V} {j : Nat} (h : Dq H v (tmD (.part j))) : ∃ a, v = .ref a ∧ H a = some (.tup [.str "part", .int (j : Int)]) := by
  simp only [tmD] at h
  obtain ⟨a, xs, rfl, ha, qx⟩ := Dq.tup_inv h
  cases qx with
  | cons q1 qx =>
  cases qx with
  | cons q2 qx =>
  cases qx
  cases q1
  cases q2
  exact ⟨a, rfl, ha⟩
theorem tm_rw {H : Hp} {v : V} {ts : List Tm} (h : Dq H v (tmD (.row ts))) : ∃ a b ys, v = .ref a ∧ H a = some (.tup [.str "row", .ref b]) ∧ H b = some (.tup ys) ∧ DqA H ys (ts.map tmD) ∧ ys.length = ts.length := by
  simp only [tmD] at h
  obtain ⟨a, xs, rfl, ha, qx⟩ := Dq.tup_inv h
  cases qx with
  | cons q1 qx =>
  cases qx with
  | cons q2 qx =>
  cases qx
  cases q1
  obtain ⟨b, ys, rfl, hb, qy⟩ := Dq.tup_inv q2
  rw [tmDs_map] at qy
  exact ⟨a, b, ys, rfl, ha, hb, qy, by rw [qy.len, List.length_map]⟩
theorem tm_bk {H : Hp} {v : V} {t : Tm} (h : Dq H v (tmD (.back t))) : ∃ a x, v = .ref a ∧ H a = some (.tup [.str "back", x]) ∧ Dq H x (tmD t) := by
  simp only [tmD] at h
  obtain ⟨a, xs, rfl, ha, qx⟩ := Dq.tup_inv h
  cases qx with
  | cons q1 qx =>
  cases qx with
  | cons q2 qx =>
  cases qx
  cases q1
  exact ⟨a, _, rfl, ha, q2⟩
theorem tm_tms {H : Hp} {v : V} {t : Tm} {k : Nat} (h : Dq H v (tmD (.times t k))) : ∃ a x, v = .ref a ∧ H a = some (.tup [.str "times", x, .int (k : Int)]) ∧ Dq H x (tmD t) := by
  simp only [tmD] at h
  obtain ⟨a, xs, rfl, ha, qx⟩ := Dq.tup_inv h
  cases qx with
  | cons q1 qx =>
  cases qx with
  | cons q2 qx =>
  cases qx with
  | cons q3 qx =>
  cases qx
  cases q1
  cases q3
  exact ⟨a, _, rfl, ha, q2⟩
mutual
/-- all terms in it are done at most so often -/
def timK (c : Nat) : Tm → Prop
  | .doo _ => True
  | .part _ => True
  | .row ts => timKs c ts
  | .back t => timK c t
  | .times t k => k ≤ c ∧ timK c t
def timKs (c : Nat) : List Tm → Prop
  | [] => True
  | t :: ts => timK c t ∧ timKs c ts
end
theorem timKs_of {c : Nat} : ∀ {ts : List Tm}, (∀ t ∈ ts, timK c t) → timKs c ts
  | [], _ => by simp [timKs]
  | t :: ts, h => by
    simp only [timKs]
    exact ⟨h t List.mem_cons_self, timKs_of fun x hx => h x (List.mem_cons_of_mem _ hx)⟩
theorem timKs_mem {c : Nat} : ∀ {ts : List Tm}, timKs c ts → ∀ t ∈ ts, timK c t
  | u :: ts, h, t, ht => by
    simp only [timKs] at h
    rcases List.mem_cons.mp ht with rfl | ht
    · exact h.1
    · exact timKs_mem h.2 t ht
end Kr
namespace Kr
open PySem PySem.Spec PyProof.Rows L2
/-! ### deeds done -/
def gz (ss : List Int) (j : Int) : Int := ss.getD j.toNat 0
def exch (ss lot : List Int) (a b : Int) : List Int := if lot.any (fun j => !decide (gz ss j = 0)) = true then ss else (ss.set a.toNat (gz ss b)).set b.toNat (gz ss a)
structure InR (n : Nat) (lot : List Int) (a b : Int) : Prop where
  rng : ∀ z ∈ lot, 0 ≤ z ∧ z < n
  a0 : 0 ≤ a
  a1 : a < n
  b0 : 0 ≤ b
  b1 : b < n
  len : lot.length ≤ 1000
theorem at_gz {ss : List Int} {j : Int} (h0 : 0 ≤ j) (h1 : j < ss.length) : atI (ss.map V.int) j = some (.int (gz ss j)) := by
  refine atI_int h0 ?_
  have h : j.toNat < ss.length := by omega
  rw [List.getElem?_map, List.getElem?_eq_getElem h]
  unfold gz
  rw [List.getD_eq_getElem?_getD, List.getElem?_eq_getElem h]
  rfl
theorem ixn {n : Nat} {a : Int} (h0 : 0 ≤ a) (h1 : a < n) : ixN n a = some a.toNat := by
  unfold ixN
  rw [if_pos h0, if_pos h1]
theorem ne0 (z : Int) : (!decide (V.int z = V.int 0)) = !decide (z = 0) := by simp
def spDone : Sp := fun vs H Q _ => ∃ (st dd la : Addr) (ss lot : List Int) (a b : Int), vs = [.ref st, .ref dd] ∧ H st = some (.tup (ss.map V.int)) ∧ H dd = some (.tup [.ref la, .int a, .int b]) ∧ H la = some (.tup (lot.map V.int)) ∧ InR ss.length lot a b ∧ ss.length ≤ 1000 ∧
  ∀ (H' : Hp) (t : Addr), Same H H' → H' t = some (.tup ((exch ss lot a b).map V.int)) → Q (.ref t) H'
/-- the same of riders that are none below 0 -/
theorem mem_map_int {lot : List Int} {j : Nat} {x : V} (h : (lot.map V.int)[j]? = some x) : ∃ z, lot[j]? = some z ∧ z ∈ lot ∧ x = V.int z := by
  rw [List.getElem?_map] at h
  cases g : lot[j]? with
  | none => rw [g] at h; cases h
  | some u =>
    rw [g] at h
    exact ⟨u, rfl, List.mem_of_getElem? g, (Option.some.inj h).symm⟩
end Kr
namespace Kr
open PySem PySem.Spec PyProof.Rows L2
/-- the standing behind a deed, behind some -/
def doM (ss : List Int) (m : Mv) : List Int := exch ss (m.1.map fun (x : Nat) => (x : Int)) (m.2.1 : Nat) (m.2.2 : Nat)
def runM (ms : List Mv) (ss : List Int) : List Int := ms.foldl doM ss
theorem exch_len (ss lot : List Int) (a b : Int) : (exch ss lot a b).length = ss.length := by
  unfold exch
  split <;> simp
theorem runM_len : ∀ (ms : List Mv) (ss : List Int), (runM ms ss).length = ss.length
  | [], _ => rfl
  | m :: ms, ss => (runM_len ms _).trans (exch_len _ _ _ _)
theorem Deed.inR {n : Nat} {m : Mv} (d : Deed n m) (hn : n ≤ 1000) : InR n (m.1.map fun (x : Nat) => (x : Int)) (m.2.1 : Nat) (m.2.2 : Nat) := by
  have h1 := d.ab
  have h2 := d.bn
  have h3 := d.asc.len
  refine ⟨fun z hz => ?_, by omega, by omega, by omega, by omega, by rw [List.length_map]; omega⟩
  obtain ⟨x, hx, rfl⟩ := List.mem_map.mp hz
  have := (d.asc.2 x hx).2
  omega
def stD (ss : List Int) : PyData := .tuple (ss.map .int)
/-! ### standings led by tables -/
/-- who lies where, as riders -/
def ridAt (ss ls : List Int) : List Int := ls.map fun z => if 0 ≤ z then gz ss z else 0
/-- the places with keys -/
def KeysAt (n : Nat) (l : List Nat) (ss : List Int) : Prop := ss.length = n ∧ ∀ x, x < n → (x ∈ l ↔ ss.getD x 0 = 0)
theorem getD_map {f : Int → Int} {ls : List Int} {y : Nat} (h : y < ls.length) : (ls.map f).getD y 0 = f (ls.getD y 0) := by
  rw [List.getD_eq_getElem?_getD, List.getD_eq_getElem?_getD, List.getElem?_map, List.getElem?_eq_getElem h]
  rfl
theorem int_ext {n : Nat} {a b : List Int} (ha : a.length = n) (hb : b.length = n) (h : ∀ x, x < n → a.getD x 0 = b.getD x 0) : a = b := list_ext ha hb h
theorem rid_start {n : Nat} {l : List Nat} {ss : List Int} (h : KeysAt n l ss) : ridAt ss (stL n l) = ss := by
  have hl : (stL n l).length = n := by unfold stL; rw [List.length_map, List.length_range]
  refine int_ext (n := n) (by unfold ridAt; rw [List.length_map, hl]) h.1 fun x hx => ?_
  unfold ridAt
  rw [getD_map (by rw [hl]; exact hx)]
  have e : (stL n l).getD x 0 = if x ∈ l then -1 else ((x : Nat) : Int) := by
    unfold stL
    rw [List.getD_eq_getElem?_getD, List.getElem?_map, List.getElem?_range hx]
    rfl
  rw [e]
  by_cases c : x ∈ l
  · rw [if_pos c, if_neg (by decide), (h.2 x hx).mp c]
  · rw [if_neg c, if_pos (by omega)]
    unfold gz
    rw [Int.toNat_natCast]
theorem rid_step {n : Nat} {l : List Nat} {ss ls : List Int} (h : KeysAt n l ss) (L : Lies n l ls) {m : Mv} (d : Deed n m) : ridAt ss (mvL ls m) = doM (ridAt ss ls) m := by
  have h1 := d.ab
  have h2 := d.bn
  have hl := L.len
  have at_ : ∀ y, y < n → gz (ridAt ss ls) ((y : Nat) : Int) = if 0 ≤ ls.getD y 0 then gz ss (ls.getD y 0) else 0 := fun y hy => by
    show (ridAt ss ls).getD (y : Int).toNat 0 = _
    rw [Int.toNat_natCast]
    unfold ridAt
    rw [getD_map (by rw [hl]; exact hy)]
  have cond : (m.1.map fun (x : Nat) => (x : Int)).any (fun j => !decide (gz (ridAt ss ls) j = 0)) = !(m.1.all fun x => !decide (0 ≤ ls.getD x 0)) := by
    rw [List.any_map, Bool.eq_iff_iff, List.any_eq_true, Bool.not_eq_true', ← Bool.not_eq_true, List.all_eq_true]
    constructor
    · rintro ⟨x, hx, hz⟩ hall
      have hxn : x < n := by have := (d.asc.2 x hx).2; omega
      have := hall x hx
      simp only [Function.comp, at_ x hxn] at hz
      rw [if_neg (by simpa using this)] at hz
      simp at hz
    · intro hall
      refine Classical.byContradiction fun hno => hall fun x hx => ?_
      have hxn : x < n := by have := (d.asc.2 x hx).2; omega
      have hz : ¬ (!decide (gz (ridAt ss ls) ((x : Nat) : Int) = 0)) = true := fun z => hno ⟨x, hx, z⟩
      rw [at_ x hxn] at hz
      by_cases c : 0 ≤ ls.getD x 0
      · exfalso
        rw [if_pos c] at hz
        rcases L.at_ x hxn with e | ⟨r, hr, hrl, e⟩
        · omega
        · have : ss.getD r 0 ≠ 0 := fun z => hrl ((h.2 r hr).mpr z)
          apply hz
          rw [e]
          unfold gz
          rw [Int.toNat_natCast]
          simp only [Bool.not_eq_true', decide_eq_false_iff_not]
          exact this
      · rw [decide_eq_false c]
        rfl
  unfold doM exch mvL
  rw [cond]
  cases hc : (m.1.all fun x => !decide (0 ≤ ls.getD x 0)) with
  | true =>
    rw [if_pos rfl, if_neg (show ¬ (!true) = true by decide), at_ m.2.1 (by omega), at_ m.2.2 h2]
    unfold ridAt
    rw [List.map_set, List.map_set]
    simp only [Int.toNat_natCast]
  | false =>
    rw [if_neg (show ¬ false = true by decide), if_pos (show (!false) = true from rfl)]
theorem lies_fold {n : Nat} {l : List Nat} {ss : List Int} (h : KeysAt n l ss) : ∀ (ms : List Mv) (ls : List Int), Lies n l ls → (∀ m ∈ ms, Deed n m) → ridAt ss (ms.foldl mvL ls) = runM ms (ridAt ss ls)
  | [], _, _, _ => rfl
  | m :: ms, ls, L, d => by
    rw [List.foldl_cons, lies_fold h ms (mvL ls m) (L.moved (d m List.mem_cons_self)).1 fun x hx => d x (List.mem_cons_of_mem _ hx), rid_step h L (d m List.mem_cons_self)]
    rfl
/-- the program's own way -/
def ledP (n : Nat) (e ss : List Int) (i : Nat) : List Int := putAll (((List.range i).filter fun x => !decide (ss.getD x 0 = 0)).map fun x => ((e.getD x 0).toNat, ss.getD x 0)) (List.replicate n 0)
theorem led_lies {n : Nat} {l : List Nat} {ss ls : List Int} (h : KeysAt n l ss) (L : Lies n l ls) : ledP n (lawE n ls) ss n = ridAt ss ls := by
  have hl := L.len
  refine int_ext (n := n) (by unfold ledP; rw [putAll_len, List.length_replicate]) (by unfold ridAt; rw [List.length_map, hl]) fun y hy => ?_
  have inj : ∀ x x', x < n → x' < n → x ∉ l → x' ∉ l → ((lawE n ls).getD x 0).toNat = ((lawE n ls).getD x' 0).toNat → x = x' := fun x x' hx hx' c c' e => by
    obtain ⟨u, hu, eu⟩ := L.has x hx c
    obtain ⟨u', hu', eu'⟩ := L.has x' hx' c'
    rw [L.put hx hu eu, L.put hx' hu' eu', Int.toNat_natCast, Int.toNat_natCast] at e
    subst e
    rw [eu] at eu'
    omega
  have mem : ∀ {x}, x ∈ (List.range n).filter (fun x => !decide (ss.getD x 0 = 0)) ↔ x < n ∧ x ∉ l := fun {x} => by
    rw [List.mem_filter, List.mem_range]
    constructor
    · rintro ⟨a, b⟩
      refine ⟨a, fun c => ?_⟩
      rw [(h.2 x a).mp c] at b
      simp at b
    · rintro ⟨a, b⟩
      refine ⟨a, ?_⟩
      rw [Bool.not_eq_true', decide_eq_false_iff_not]
      exact fun z => b ((h.2 x a).mpr z)
  have nd : (((List.range n).filter fun x => !decide (ss.getD x 0 = 0)).map fun x => (((lawE n ls).getD x 0).toNat, ss.getD x 0)).map (·.1) |>.Nodup := by
    rw [List.map_map]
    refine List.pairwise_map.mpr ?_
    refine ((List.nodup_range (n := n)).filter _).imp_of_mem fun {a b} ha hb hne => ?_
    obtain ⟨a1, a2⟩ := mem.mp ha
    obtain ⟨b1, b2⟩ := mem.mp hb
    exact fun z => hne (inj a b a1 b1 a2 b2 z)
  unfold ridAt
  rw [getD_map (by rw [hl]; exact hy)]
  rcases L.at_ y hy with e | ⟨x, hx, hxl, e⟩
  · rw [e, if_neg (by decide)]
    unfold ledP
    rw [List.getD_eq_getElem?_getD, putAll_keep _ _ fun p hp => ?_, List.getElem?_replicate, if_pos hy]
    · rfl
    · obtain ⟨x, hx, rfl⟩ := List.mem_map.mp hp
      obtain ⟨a1, a2⟩ := mem.mp hx
      obtain ⟨u, hu, eu⟩ := L.has x a1 a2
      show ((lawE n ls).getD x 0).toNat ≠ y
      rw [L.put a1 hu eu, Int.toNat_natCast]
      intro z
      subst z
      rw [e] at eu
      omega
  · rw [e, if_pos (by omega)]
    unfold ledP
    rw [List.getD_eq_getElem?_getD, putAll_at (v := ss.getD x 0) _ _ nd ?_ (by rw [List.length_replicate]; exact hy)]
    · unfold gz
      rw [Int.toNat_natCast]
      rfl
    · refine List.mem_map.mpr ⟨x, mem.mpr ⟨hx, hxl⟩, ?_⟩
      rw [L.put hx hy e, Int.toNat_natCast]
/-- a table of deeds leads as the deeds do -/
theorem led_made {n : Nat} {l : List Nat} {ss : List Int} (h : KeysAt n l ss) {ms : List Mv} (d : ∀ m ∈ ms, Deed n m) : ledP n (madeE n ms l) ss n = runM ms ss := by
  have L := lies_start n l
  rw [madeE, led_lies h (lies_all ms _ L d), lies_fold h ms _ L d, rid_start h]
end Kr
namespace Kr
open PySem PySem.Spec PyProof.Rows L2
/-! ### the deeds of a term, one behind another -/
def movM : Mea (List Mv) := ⟨fun d => [d], List.flatten, List.reverse, fun a k => (List.replicate k a).flatten⟩
theorem rep_flat_len {α : Type} (k : Nat) (l : List α) : (List.replicate k l).flatten.length = l.length * k := by
  induction k with
  | zero => simp
  | succ k ih => rw [List.replicate_succ, List.flatten_cons, List.length_append, ih, Nat.mul_succ]; omega
theorem flat_len_le {α : Type} {b : Nat} : ∀ {ls : List (List α)}, (∀ l ∈ ls, l.length ≤ b) → ls.flatten.length ≤ ls.length * b
  | [], _ => by simp
  | l :: ls, h => by
    have h1 := h l List.mem_cons_self
    have h2 := flat_len_le (b := b) fun x hx => h x (List.mem_cons_of_mem _ hx)
    rw [List.flatten_cons, List.length_append, List.length_cons, Nat.succ_mul]
    omega
mutual
theorem mov_len {D : Mv → Prop} {k B : Nat} (hB : 1 ≤ B) {ws : List (List Mv)} (hw : ∀ a ∈ ws, a.length ≤ B) : ∀ t : Tm, okTm D 10 k t → timK 3 t → (worth movM ws t).length ≤ B * 10 ^ dep t
  | .doo d, _, _ => by
    simp only [worth, dep]
    show 1 ≤ _
    have : 1 ≤ 10 ^ 1 := by decide
    exact Nat.le_trans hB (Nat.le_mul_of_pos_right _ (by decide))
  | .part j, h, _ => by
    simp only [worth, dep]
    have h1 : (ws.getD j (movM.oR [])).length ≤ B := by
      rw [List.getD_eq_getElem?_getD]
      cases e : ws[j]? with
      | none => exact Nat.zero_le _
      | some a => exact hw a (List.mem_of_getElem? e)
    exact Nat.le_trans h1 (Nat.le_mul_of_pos_right _ (by decide))
  | .row ts, h, c => by
    simp only [okTm] at h
    simp only [timK] at c
    simp only [worth, dep]
    have h1 := movL_len hB hw ts h.2 c
    have h2 : (worthL movM ws ts).flatten.length ≤ (worthL movM ws ts).length * (B * 10 ^ depL ts) := flat_len_le h1
    have h3 : (worthL movM ws ts).length ≤ 10 := by rw [worthL_map, List.length_map]; exact h.1
    have h4 : (worthL movM ws ts).length * (B * 10 ^ depL ts) ≤ 10 * (B * 10 ^ depL ts) := Nat.mul_le_mul_right _ h3
    have h5 : 10 * (B * 10 ^ depL ts) = B * 10 ^ (depL ts + 1) := by rw [Nat.pow_succ, ← Nat.mul_assoc, Nat.mul_comm 10 B, Nat.mul_assoc, Nat.mul_comm 10]
    show (worthL movM ws ts).flatten.length ≤ _
    omega
  | .back t, h, c => by
    simp only [okTm] at h
    simp only [timK] at c
    simp only [worth, dep]
    have h1 := mov_len hB hw t h c
    show (List.reverse _).length ≤ _
    rw [List.length_reverse]
    exact Nat.le_trans h1 (Nat.mul_le_mul_left _ (Nat.pow_le_pow_right (by decide) (by omega)))
  | .times t m, h, c => by
    simp only [okTm] at h
    simp only [timK] at c
    simp only [worth, dep]
    have h1 := mov_len hB hw t h.2 c.2
    show (List.flatten _).length ≤ _
    rw [rep_flat_len]
    have h2 : (worth movM ws t).length * m ≤ (B * 10 ^ dep t) * 10 := Nat.mul_le_mul h1 (by omega)
    have h5 : (B * 10 ^ dep t) * 10 = B * 10 ^ (dep t + 1) := by rw [Nat.pow_succ, Nat.mul_assoc]
    omega
theorem movL_len {D : Mv → Prop} {k B : Nat} (hB : 1 ≤ B) {ws : List (List Mv)} (hw : ∀ a ∈ ws, a.length ≤ B) : ∀ ts : List Tm, okTms D 10 k ts → timKs 3 ts → ∀ x ∈ worthL movM ws ts, x.length ≤ B * 10 ^ depL ts
  | [], _, _, x, hx => by
    simp only [worthL] at hx
    exact nomatch hx
  | t :: ts, h, c, x, hx => by
    simp only [okTms] at h
    simp only [timKs] at c
    simp only [worthL] at hx
    simp only [depL]
    rcases List.mem_cons.mp hx with rfl | hx
    · exact Nat.le_trans (mov_len hB hw t h.1 c.1) (Nat.mul_le_mul_left _ (Nat.pow_le_pow_right (by decide) (Nat.le_max_left _ _)))
    · exact Nat.le_trans (movL_len hB hw ts h.2 c.2 x hx) (Nat.mul_le_mul_left _ (Nat.pow_le_pow_right (by decide) (Nat.le_max_right _ _)))
end
theorem deeds_flat' (ms : List Mv) : flatTA (ms.map deedD) = true := flatTA_of fun d hd => by
  obtain ⟨m, _, rfl⟩ := List.mem_map.mp hd
  exact deed_flat m
theorem szx {n : Nat} (h : n ≤ 5000000) : n ≤ sizeLine := by rw [sizeLine_eq]; omega
end Kr
namespace Kr
open PySem PySem.Spec PyProof.Rows L2 PySem.SeqAt PySem.MeetsSeq
/-! ### x == i, x any data, i a number -/
theorem dict_eq_declines_int (l : Addr) (es : Array DictEntry) (ep : Nat) (dd : Option Addr) (sl : Array (Option Value)) (b : Int) (u : Tok) :
    Meets (Builtin.«dict.__eq__» ⟨[.ref l, .int b u], []⟩) (fun _ R s => s.heap.get? l = some { cls := .type "dict", dict := dd, data := .dict es ep, slots := sl } ∧ R (.ok (.ret .notImplemented)) s) :=
  .of_wp fun prog w A R s h => by obtain ⟨hp, g, d, tk, os⟩ := s; obtain ⟨hl, h⟩ := h; have f1 := F.sub_int_dict; wp_walk using wpAny_loadPart' hl; exact ⟨_, rfl, h⟩
theorem int_eq_declines_dict (b : Int) (u : Tok) (l : Addr) (c : Value) (es : Array DictEntry) (ep : Nat) (dd : Option Addr) (sl : Array (Option Value)) :
    Meets (Builtin.«int.__eq__» ⟨[.int b u, .ref l], []⟩) (fun _ R s => s.heap.get? l = some { cls := c, dict := dd, data := .dict es ep, slots := sl } ∧ R (.ok (.ret .notImplemented)) s) :=
  .of_wp fun prog w A R s h => by obtain ⟨hp, g, d, tk, os⟩ := s; obtain ⟨hl, h⟩ := h; wp_walk using wpAny_loadPart' hl, wpAny_load hl; exact ⟨_, rfl, h⟩
theorem rc_dict_int {A : Around} {s : Shared} {l : Addr} {es : Array DictEntry} {ep : Nat} {dd : Option Addr} {sl : Array (Option Value)} (b : Int) (u : Tok) (ho : s.heap.get? l = some { cls := .type "dict", dict := dd, data := .dict es ep, slots := sl }) (hu : A.units < cLine) : RcAt A s (.ref l) (.int b u) false := fun prog w E Q h => by
  exact rc_eq_decline_or (k := false) ⟨_, ho, rfl⟩ (typeIs_int s b u) (by decide) F.sub_int_dict F.slot_dict_eq F.slot_int_eq_refl
    (fun _ hq => call_meets F.slot_dict_eq ⟨_, ho, rfl⟩ F.entry_dict_eq (F.args_dict_eq_2 _ _) (dict_eq_declines_int l es ep dd sl b u) ⟨ho, hq⟩)
    (fun _ hq => call_meets F.slot_int_eq_refl (typeIs_int s b u) F.entry_int_eq (F.args_int_eq_2 _ _) (int_eq_declines_dict b u l (.type "dict") es ep dd sl) ⟨ho, hq⟩)
    (fun _ hq => wpAny_of_eq (rfl : isSame (.ref l) (.int b u) = pure false) hq) (.inr hu) h
def rEq1 : R2 := fun x y H Q => ∃ (d : PyData) (i : Int), Dq H x d ∧ y = .int i ∧ Q (.bl (PyData.eqv d (.int i))) H
theorem op_eq1 {X : Cx} (hu : X.A.units + 64 < cLine) : OpR X (compareOp .Eq) rEq1 := by
  intro pins s σ H x y v u Q I rx ry h
  obtain ⟨d, i, hd, rfl, q⟩ := h
  obtain ⟨t, rfl⟩ := ry
  have hu : X.A.units < cLine := by omega
  cases hd with
  | non =>
    cases rx
    exact RcAt.none_int i t X.prog X.w X.xe _ ⟨.bl _, H, I, rfl, q⟩
  | bl b =>
    cases rx
    exact RcAt.bool_int b i t X.prog X.w X.xe _ ⟨.bl _, H, I, rfl, q⟩
  | int j =>
    obtain ⟨t', rfl⟩ := rx
    exact RcAt.int_int j t' i t X.prog X.w X.xe _ ⟨.bl _, H, I, rfl, q⟩
  | str z =>
    obtain ⟨t', rfl⟩ := rx
    exact RcAt.str_int z t' i t X.prog X.w X.xe _ ⟨.bl _, H, I, rfl, q⟩
  | lst e _ =>
    cases rx
    obtain ⟨its, _, p1, _⟩ := I.list (SqL.of (K := X.K) e)
    exact RcAt.list_int i t p1.isList hu X.prog X.w X.xe _ ⟨.bl _, H, I, rfl, q⟩
  | tup e _ =>
    cases rx
    obtain ⟨its, _, p1, _⟩ := I.tuple (SqT.of (K := X.K) e)
    exact RcAt.tuple_int i t p1 hu X.prog X.w X.xe _ ⟨.bl _, H, I, rfl, q⟩
  | @dic a e =>
    cases rx
    obtain ⟨_, hsys, vs, rel, ⟨cls, dd, data, sl⟩, es, ep, ho, hx, hd, _⟩ := I.hok a _ e
    obtain rfl : cls = .type "dict" := hx.1
    simp only at hd
    subst hd
    exact rc_dict_int i t ho hu X.prog X.w X.xe _ ⟨.bl _, H, I, rfl, q⟩
/-- a tuple beside () -/
def rEqT0 (K : PySem.W.Frag) : R2 := fun x y H Q => ∃ l b xs, x = .ref l ∧ y = .ref b ∧ SqT K H l xs ∧ SqT K H b [] ∧ Q (.bl xs.isEmpty) H
theorem all0 (n : Nat) (e : Nat → Bool) : ((List.range (min n 0)).all e && n == 0) = decide (n = 0) := by
  rw [Nat.min_zero]
  cases n <;> rfl
theorem isE {xs : List V} {its : List Value} (r : Vals xs its) : decide (its.toArray.size = 0) = xs.isEmpty := by
  cases r with
  | nil => rfl
  | cons _ _ => rfl
theorem op_eqT0 {X : Cx} (hu : X.A.units + 64 < cLine) : OpR X (compareOp .Eq) (rEqT0 X.K) := by
  intro pins s σ H x y v u Q I rx ry h
  obtain ⟨l, b, xs, rfl, rfl, hl, hb, q⟩ := h
  obtain rfl : v = Value.ref l := rx
  obtain rfl : u = Value.ref b := ry
  obtain ⟨its, r1, p1, _⟩ := I.tuple hl
  obtain ⟨it2, r2, p2, _⟩ := I.tuple hb
  cases r2
  refine SeqAt.RcAt.tuples (e := fun _ => true) p1 p2 (by omega) (fun j _ h2 => absurd h2 (by simp)) X.prog X.w X.xe _ ⟨.bl xs.isEmpty, H, I, ?_, q⟩
  show Value.bool _ = Value.bool _
  rw [← isE r1]
  exact congrArg Value.bool (all0 _ _)
end Kr
namespace Kr
open PySem PySem.Spec PyProof.Rows L2
/-- None or a tuple, beside () -/
def rEqT0N (K : PySem.W.Frag) : R2 := fun x y H Q => ∃ b, y = .ref b ∧ SqT K H b [] ∧ ((x = .non ∧ Q (.bl false) H) ∨ ∃ l xs, x = .ref l ∧ SqT K H l xs ∧ Q (.bl xs.isEmpty) H)
theorem op_eqT0N {X : Cx} (hu : X.A.units + 64 < cLine) : OpR X (compareOp .Eq) (rEqT0N X.K) := by
  intro pins s σ H x y v u Q I rx ry h
  obtain ⟨b, rfl, hb, ⟨rfl, q⟩ | ⟨l, xs, rfl, hl, q⟩⟩ := h
  · exact op_eqD hu pins s σ H .non (.ref b) v u Q I rx ry ⟨.none, .tuple [], .non, .tup hb .nil, by decide, by decide, by
      have e : PyData.eqv .none (.tuple []) = false := by simp [PyData.eqv]
      rw [e]
      exact q⟩
  · exact op_eqT0 hu pins s σ H (.ref l) (.ref b) v u Q I rx ry ⟨l, b, xs, rfl, rfl, hl, hb, q⟩
end Kr
namespace Kr
open PySem PySem.Spec PyProof.Rows L2
/-! ### xs.extend(t), t a tuple -/
theorem list_extend_tup (l : Addr) (items : Array Value) (n : Nat) (b : Addr) (items2 : Array Value) (n2 : Nat) (dd : Option Addr) (sl : Array (Option Value)) (hs0 : ¬(!items.isEmpty && Builtin.List.listTooLong (items.size + items2.size)) = true) (hs1 : items.size ≤ sizeLine) (hs2 : items.size + items2.size ≤ sizeLine + 1) :
    Meets (Builtin.«list.extend» ⟨[.ref l, .ref b], []⟩) (fun _ R s => s.heap.get? l = some { cls := .type "list", dict := none, data := .seq items n, slots := #[] } ∧ s.heap.get? b = some { cls := .type "tuple", dict := dd, data := .seq items2 n2, slots := sl } ∧ R (.ok (.ret Value.none)) { s with heap := s.heap.update l (Obj.mapSeq fun x => x ++ items2), toks := s.toks }) :=
  .of_wp fun prog w A R s h => by
    obtain ⟨hp, g, d, tk, os⟩ := s; obtain ⟨hl, hb, h⟩ := h; have f1 := AutoSeq1.idx_int; have f2 := AutoSeq1.sub_tuple_tuple; have f3 := AutoSeq1.sub_list_list; have f4 := AutoSeq1.sub_tuple_list; have f5 := AutoSeq1.sub_list_tuple
    have hz' : (items ++ items2).size ≤ sizeLine + 1 := by rw [Array.size_append]; exact hs2
    wp_walk using (wpAny_updateSeq hl rfl (hz := hs1) (_hz' := hz')), wpAny_loadPart' hl, wpAny_loadPart' hb; exact ⟨_, rfl, h⟩
def rExtendT (K : PySem.W.Frag) : V → List V → Hp → VK → Prop := fun x vs H Q => ∃ l b xs zs, x = .ref l ∧ vs = [.ref b] ∧ H l = some (.lst xs) ∧ SqT K H b zs ∧ xs.length + zs.length ≤ sizeLine ∧ Q .non (upd H l (.lst (xs ++ zs)))
theorem mt_extendT {X : Cx} : MtM X "list.extend" (rExtendT X.K) := by
  intro pins s σ H x vs v us Q I rx rv h
  obtain ⟨l, b, xs, zs, rfl, rfl, hH, hB, hz, q⟩ := h
  cases rx
  obtain ⟨u, rfl, ru⟩ := rv.one
  cases ru
  obtain ⟨z, its, n, r, hl, e⟩ := I.lstM hH
  obtain ⟨its2, r2, ⟨⟨cls, dd, data, sl⟩, e2, hc, n2, hd⟩, hs⟩ := I.tuple hB
  simp only at hc hd
  subst hc hd
  have hl2 : its2.length = zs.length := r2.length.symm
  have hsz : its.toArray.size + its2.toArray.size ≤ sizeLine := by rw [List.size_toArray, List.size_toArray]; omega
  have hlong : ¬ (!its.toArray.isEmpty && Builtin.List.listTooLong (its.toArray.size + its2.toArray.size)) = true := by
    rw [notLongL hsz, Bool.and_false]
    exact Bool.false_ne_true
  refine call_meets F.slot_list_extend ⟨_, e, rfl⟩ F.entry_list_extend (F.args_list_extend_2 _ _)
    (list_extend_tup l its.toArray n b its2.toArray n2 dd sl hlong (by rw [List.size_toArray]; omega) (by omega)) ⟨e, e2, ?_⟩
  refine ⟨.non, _, I.lset (its' := its ++ its2) hH e (by simp) (r.append r2) ?_, rfl, q⟩
  rw [List.length_append]
  omega
end Kr
namespace Kr
open PySem PySem.Spec PyProof.Rows L2
/-! ### C(), C an own class without __init__ -/
structure MkP (K : PySem.W.Frag) (C : Addr) : Prop where
  makes : PySem.W.makesIn K C = true
  init : PySem.W.findIn K (.ref C) "__init__" = some (some (.builtin "object.__init__"))
  kp : PySem.W.keepIn K (.ref C) = true
def tMakeP (C : Addr) : TE := fun _ H Q => ∀ x dx, H x = none → H dx = none → dx ≠ x → Q (.ref x) (upd (upd H dx (.own x)) x (.ins C dx []))
section
variable {X : Cx} {C : Addr} {x : Str} {p pos : Pos}
theorem run_makeP {pins : List (Addr × Obj)} {σ : L2.St} {H : Hp} {s : Shared} {Q : VK} (M : MkP X.K C) (I : Inv X pins σ H s)
    (h : ∀ x dx, H x = none → H dx = none → dx ≠ x → Q (.ref x) (upd (upd H dx (.own x)) x (.ins C dx []))) :
    wpAny (model X.prog X.w) X.A (call (.ref C) []) (EP X pins σ Q) X.xe s := by
  have hq := h (s.heap.objs.size + 1) s.heap.objs.size (I.hok.fresh (Nat.le_succ _)) (I.hok.fresh (Nat.le_refl _)) (Nat.ne_of_lt (Nat.lt_succ_self _))
  have I2 := Inv.made (C := C) I
  have Y := PySem.W.makes_of (M := model X.prog X.w) I.kIn M.makes
  refine wpAny_call (make_map0 I.kIn M.makes M.init (fun self => PySem.W.Looks.of_pure (PySem.W.oi_bind self)) ?_)
  have e2 : ((s.heap.push PySem.W.emptyDict).push (PySem.W.instObj C s.heap.objs.size)).get? (s.heap.objs.size + 1) = some (PySem.W.instObj C s.heap.objs.size) := by
    have := Heap.get?_push_size (s.heap.push PySem.W.emptyDict) (o := PySem.W.instObj C s.heap.objs.size) rfl
    rwa [Heap.size_push] at this
  have t1 : PySem.W.Looks (model X.prog X.w) ((s.heap.push PySem.W.emptyDict).push (PySem.W.instObj C s.heap.objs.size)) (typeOf (.ref (s.heap.objs.size + 1))) (.ref C) := (PySem.W.Looks.ld e2).andThen .now
  have t2 : PySem.W.Looks (model X.prog X.w) ((s.heap.push PySem.W.emptyDict).push (PySem.W.instObj C s.heap.objs.size)) (isInstance (.ref (s.heap.objs.size + 1)) (.type "object")) true := t1.andThen (Y.top.keeps fun b o e => Heap.get?_push_of_some _ (Heap.get?_push_of_some _ e))
  refine codeAny_call_builtin PySem.W.oi_plain PySem.W.entry_oi (@PySem.W.check_slot (model X.prog X.w) _ _ _ "object.__init__" "object" "__init__" (.ref (s.heap.objs.size + 1)) [] [] _ PySem.W.oi_kind PySem.W.oi_split t2 (PySem.W.oi_args (.ref (s.heap.objs.size + 1))) ?_)
  rw [PySem.W.oi_run]
  exact wpAny_pure (And.intro rfl ⟨V.ref (s.heap.objs.size + 1), _, I2, rfl, hq⟩)
theorem pe_makeP (M : MkP X.K C) (hg : Gl X x) (hm : X.mg x = some (.ref C)) (hdb : (x == ("__debug__" : Str)) = false := by decide) : PE X (.Call (.Name x p) [] [] pos) (tMakeP C) := by
  refine ⟨fun pins s σ H Q I h => ?_⟩
  refine wpAny_Call_Name_kw (ld_glob I hg hm ?_ hdb)
  exact PySem.W.callWith_K0 I.kIn M.kp (run_makeP M I h)
end
end Kr
namespace PySem
namespace TooX
open PySem.W PySem.Calls PyProof.Rows PySem.HandSPX
/-! ### the text of __init__ -/
def iA (p1 p2 : Pos) : Arguments := { posonlyargs := [], args := [{ arg := "self", annotation := none, pos := p1 }, { arg := "limit", annotation := none, pos := p2 }], vararg := none, kwonlyargs := [], kw_defaults := [], kwarg := none, defaults := [] }
def iB (q1 q2 q3 q4 : Pos) : List Stmt := [.Assign [.Attribute (.Name "self" q1) "limit" q2] (.Name "limit" q3) q4]
def iS : Scope := { kind := .function, names := [(PySem.Str.ofString "self", .local), (PySem.Str.ofString "limit", .local)], isGenerator := false, isCoroutine := false, more := [] }
/-- what the written part says of Low, at C, and of its __init__, at fI -/
structure TooTxt (K : Frag) (mg : Str → Option Value) (C fI : Addr) : Prop where
  gC : mg "TooMany" = some (.ref C)
  cls : ∃ nm q N bs bm sn sub ab col dd k0 k1 k2 k3 k5, K.lookup C = some (excClassObj nm q C N bs bm true sn sub ab col dd k0 k1 k2 k3 k5 "ValueError.__new__") ∧ refsVE bm = true
  sa : findIn K (.ref C) "__setattr__" = some (some (.builtin "object.__setattr__"))
  ga : findIn K (.ref C) "__getattribute__" = some (some (.builtin "BaseException.__getattribute__"))
  gg : findIn K (.ref C) "__getattr__" = some none
  noN : findIn K (.ref C) "limit" = some none
  iC : findIn K (.ref C) "__init__" = some (some (.ref fI))
  tC : typeIn K (.ref fI) = some (.type "function")
  kC : keepIn K (.ref C) = true
  exC : subIn K (.ref C) (.type "BaseException") = some true
  tyC : typeIn K (.ref C) = some (.type "type")
  hdC : hasDictIn K C = true
  te : exmOne K (.ref C) (.ref C) = some true
  fn : ∃ (oc : Value) (od : Option Addr) (doc pm : Value) (an : Option Addr) (cdv ct : Value) (osl : Array (Option Value)) (p1 p2 q1 q2 q3 q4 : Pos),
    K.lookup fI = some ⟨oc, od, .func (fnOf "__init__" "TooMany.__init__" (iA p1 p2) (iB q1 q2 q3 q4) iS .none .none doc pm an cdv ct), osl⟩ ∧ codeIn K cdv "TooMany.__init__" = true
theorem one_size (v : Value) : [v].length ≤ sizeLine := by
  rw [sizeLine_eq]
  exact (by decide : 1 ≤ 16777216)
theorem kept_but {K : Frag} {h h' : Heap} {x : Addr} (X : K.In h) (hx : K.lookup x = none) (k : ∀ b o, b ≠ x → h.get? b = some o → h'.get? b = some o) : K.In h' := fun a o e =>
  k a o (fun z => by rw [z, hx] at e; cases e) (X a o e)
theorem ldC {M : Model} {s : Shared} {name : Str} {scope : Scope} {L a : Addr} {cd : Value} {m : Str → Option Value} {x : Str} {pos : Pos} {v : Value} {Q : Value → Shared → Prop} {A : Around} {E : Value → Shared → Prop} (hn : s.heap.Ns L m) (hv : m x = some v) (h : Q v s)
    (hk : scope.kind = .function := by rfl) (hl : (envOfC name scope L a cd).kindOf x = some .local := by rfl) (hd : (x == ("__debug__" : Str)) = false := by decide) :
    wpAny M A (eval (.Name x pos) (envOfC name scope L a cd)) Q E s := wpAny_Name (wpAny_loadName_local hk hl hn hv h) hd
/-- what __init__ leaves of a fresh exception at x -/
structure InitEnd (h h' : Heap) (x C dx t1 : Addr) (v : Value) : Prop where
  keep : ∀ b o, b ≠ x → h.get? b = some o → h'.get? b = some o
  obj : h'.get? x = some { cls := .ref C, dict := some dx, data := .fields #[.ref t1, .none, .none, .none, .bool false, .none] }
  dbig : h.objs.size ≤ dx
  dne : dx ≠ x
  ns : h'.Ns1 dx (fun y => if y = "limit" then some v else none)
/-- a made Low -/
structure OwnMade (h h' : Heap) (e C d : Addr) (v : Value) : Prop where
  keep : ∀ b o, h.get? b = some o → h'.get? b = some o
  new : h.objs.size ≤ e
  obj : ∃ oe vs, h'.get? e = some oe ∧ oe.cls = .ref C ∧ oe.dict = some d ∧ oe.data = .fields vs ∧ vs[1]? = some .none
  dbig : h.objs.size ≤ d
  dne : d ≠ e
  ns : h'.Ns1 d (fun y => if y = "limit" then some v else none)
section
variable {prog : Program} {w : World} {A : Around} {E : Value → Shared → Prop} {R : Result → Shared → Prop} {s : Shared} {K : Frag} {mg : Str → Option Value} {C fI : Addr}
theorem too_init (T : TooTxt K mg C fI) {x t0 : Addr} {v : Value} (X : K.In s.heap) (hlim : s.heap.NoLimit) (hx : s.heap.get? x = some (excO C t0)) (hnx : K.lookup x = none) (hroom : A.depth < recursionLimit)
    (hq : ∀ h' tk dx, InitEnd s.heap h' x C dx t0 v → R (.ok (.ret .none)) { s with heap := h', toks := tk }) :
    codeAny (model prog w) A (.call (.ref fI) ⟨[.ref x, v], []⟩) R s := by
  obtain ⟨oc, od, doc, pm, an, cdv, ct, osl, p1, p2, q1, q2, q3, q4, ho, hcd⟩ := T.fn
  obtain ⟨nm, q, N, bs, bm, sn, sub, ab, col, dd, k0, k1, k2, k3, k5, hC, hbm⟩ := T.cls
  have hcl : clsIn K C = some { name := nm, bases := bs, mro := .ref C :: bm, ns := N, qualname := q, hasDict := true, slotNames := sn, subclasses := sub, abstract := ab, collection := col, hasDel := false } := by unfold clsIn; rw [hC] <;> rfl
  refine Att.call_fn (binds := [("self", .ref x), ("limit", v)]) X hlim ho hcd hroom (BindsTo.of_eq (by first | rfl | with_unfolding_all rfl)) (by first | rfl | decide | with_unfolding_all rfl) (fun s₁ IC => ?_) rfl rfl rfl
  obtain ⟨h₁, tk₁, rfl⟩ := IC.toInCall.same
  have k : ∀ b o, s.heap.get? b = some o → h₁.get? b = some o := IC.toInCall.keep
  have hn := IC.toInCall.ns
  have hxL : s.heap.objs.size ≠ x := Nat.ne_of_gt (Heap.lt_size hx)
  have X₁ : K.In h₁ := X.keeps k
  have hx₁ := k _ _ hx
  -- self.by = by
  show wpAny _ _ (execs _ _) _ _ _
  refine wpAny_execs_cons (plainObj_wpAny_Assign_Attribute ?_)
  refine ldC (v := v) hn (by first | rfl | with_unfolding_all rfl | kernel_rfl) (ldC (v := .ref x) hn (by first | rfl | with_unfolding_all rfl | kernel_rfl) ?_)
  refine set_plain X₁ (ox := excO C t0) (od := none) ⟨hx₁, rfl, rfl, trivial⟩ T.sa ?_
  refine exc_osa X₁ hx₁ hcl (show refsVE (.ref C :: bm) = true from hbm) rfl T.noN (fun h₃ tk₃ dx k₃ dn dne hx₃ hn₃ => ?_)
  show wpAny _ _ (execs _ _) _ _ _
  have z : s.heap.objs.size < h₁.objs.size := hn.lt
  exact wpAny_execs_nil (hq h₃ tk₃ dx ⟨fun b o hb e => k₃ b o hb (k b o e), hx₃, Nat.le_of_lt (Nat.lt_of_lt_of_le z dn), dne, hn₃⟩)
theorem too_made (T : TooTxt K mg C fI) {v : Value} (X : K.In s.heap) (hlim : s.heap.NoLimit) (hroom : A.depth + 1 < recursionLimit)
    (hq : ∀ h' tk e d, OwnMade s.heap h' e C d v → R (.ok (.ret (.ref e))) { s with heap := h', toks := tk }) :
    codeAny (model prog w) A (.call (.ref C) ⟨[v], []⟩) R s := by
  obtain ⟨nm, q, N, bs, bm, sn, sub, ab, col, dd, k0, k1, k2, k3, k5, hC, hbm⟩ := T.cls
  obtain ⟨hp, g, dr, tk, os⟩ := s
  have k : ∀ b o, hp.get? b = some o → ((hp.push (kdv_tup [v])).push (excO C hp.objs.size)).get? b = some o := fun b o e => Heap.get?_push_of_some _ (Heap.get?_push_of_some _ e)
  have hget : ((hp.push (kdv_tup [v])).push (excO C hp.objs.size)).get? (hp.objs.size + 1) = some (excO C hp.objs.size) := by heap_get
  have hnx : K.lookup (hp.objs.size + 1) = none := by
    cases e : K.lookup (hp.objs.size + 1) with
    | none => rfl
    | some o =>
      have z : hp.get? (hp.objs.size + 1) = some o := X _ _ e
      exact absurd (Nat.lt_of_succ_lt (Heap.lt_size z)) (Nat.lt_irrefl _)
  refine call_own F.excBase_ValueError (fun X => refsVE_contains X bm hbm) (X _ _ hC) (looks_findIn X T.iC) (fun self => bind_fn X self T.tC) (one_size v) ?_
  refine too_init (s := ⟨(hp.push (kdv_tup [v])).push (excO C hp.objs.size), g, dr, tk, os⟩) T (X.keeps k) (hlim.keeps k) hget hnx ?_ fun h' tk' dx ⟨k', hx, dn, dne, hns⟩ => ?_
  · show A.depth + 1 < recursionLimit
    exact hroom
  · have old : ∀ b o, hp.get? b = some o → h'.get? b = some o := fun b o e => k' b o (Nat.ne_of_lt (Nat.lt_succ_of_lt (Heap.lt_size e))) (k b o e)
    have z : hp.objs.size + 1 + 1 ≤ dx := by
      first
        | (simpa only [Heap.size_push] using dn)
        | exact dn
        | (have q := dn; rw [Heap.size_push, Heap.size_push] at q; exact q)
    exact ⟨rfl, hq h' tk' (hp.objs.size + 1) dx ⟨old, Nat.le_succ _, ⟨_, _, hx, rfl, rfl, rfl, rfl⟩, Nat.le_trans (Nat.le_trans (Nat.le_succ _) (Nat.le_succ _)) z, dne, hns⟩⟩
end
end TooX
end PySem
namespace L2
open PySem PySem.Spec PyProof.Rows
theorem relO_too {v : V} {v' : Value} (r : RelV v v') (f : Str) : RelO (List.lookup f [(("limit" : Str), v)]) (if f = "limit" then some v' else none) := by
  by_cases hw : f = "limit"
  · subst hw
    rw [if_pos rfl]
    have q : List.lookup ("limit" : Str) [(("limit" : Str), v)] = some v := by simp [List.lookup]
    rw [q]
    exact r
  · rw [if_neg hw]
    have qw : (f == ("limit" : Str)) = false := by simpa using hw
    have q2 : List.lookup f [(("limit" : Str), v)] = none := by simp [List.lookup, qw]
    rw [q2]
    trivial
section
variable {X : Cx} {C fI : Addr}
/-- Low(e) -/
def tMkToo (C : Addr) (ta : TA) : St → Hp → XK → Prop := fun σ H Q => ta σ H fun vs H1 => ∃ v, vs = [v] ∧ ∀ d, H1 d = none → Q (.ref C) (some d) (upd H1 d (.xd [(("limit" : Str), v)]))
theorem pmk_too {a : Expr} {ta : TA} {p pos : Pos} {k : Nat} (T : PySem.TooX.TooTxt X.K X.mg C fI) (hr : Room k X.A) (ha : PA X [a] ta) (hg : Gl X "TooMany" := by rfl)
    (he : starEach (a :: []) X.env = (false, eval a X.env) :: starEach [] X.env := by rfl) (hpl : (backTo pos (starEach [] X.env)).any (·.1) = false := by rfl) :
    PMk X (.Call (.Name "TooMany" p) [a] [] pos) (tMkToo C ta) := by
  intro pins s σ H Q I h
  refine wpAny_Call_Name_kw (ld_glob I hg T.gC ?_)
  refine PySem.W.callWith_K (h₀ := X.base) I.ok.mod.kin T.kC (thn (ha.run pos pins s σ H _ I h) fun us s1 hh => ?_) he hpl
  obtain ⟨vs, H1, I1, r1, v, ev, q1⟩ := hh
  subst ev
  refine ⟨I1.kIn, ?_⟩
  cases r1 with
  | cons rv rn =>
    rename_i v' us'
    cases rn
    show wpAny _ _ (call (.ref C) [v']) _ _ _
    have hlim := I1.nolimit
    obtain ⟨hp, g, dr, tk, os⟩ := s1
    refine wpAny_call (PySem.TooX.too_made T I1.kIn hlim (by have := hr.dp; omega) fun h' tk' e d M => ?_)
    show MkP X pins σ Q (.ref e) ⟨h', g, dr, tk', os⟩
    obtain ⟨oe, fv, hoe, hc, hd, hdat, h1⟩ := M.obj
    have hns := M.ns
    obtain ⟨G', g1, g2⟩ := restrict h' fun b => decide (b ≠ e)
    have gk : ∀ b, b ≠ e → G'.get? b = h'.get? b := fun b hb => g1 b (decide_eq_true hb)
    have ge : G'.get? e = none := g2 e (by simp)
    have old : ∀ b o, hp.get? b = some o → G'.get? b = some o := fun b o q => (gk b (Nat.ne_of_lt (Nat.lt_of_lt_of_le (Heap.lt_size q) M.new))).trans (M.keep b o q)
    have ob : ObjOk X.prog X.w (upd H1 d (.xd [(("limit" : Str), v)])) G' d (.xd [(("limit" : Str), v)]) :=
      ⟨_, hns.at (fun o q => (gk d M.dne).trans q), fun f => relO_too rv f⟩
    have J : Inv X pins σ (upd H1 d (.xd [(("limit" : Str), v)])) ⟨G', g, dr, tk', os⟩ := I1.laid (t' := tk') old M.dbig ob
    refine ⟨e, oe, fv, ⟨G', g, dr, tk', os⟩, _, .ref C, some d, rfl, J, fun b o q => ?_, ge, hoe, ⟨hc, hd⟩, hdat, h1, ?_, rfl, I1.bare, raises_own T.exC T.tyC, q1 d (I1.hok.fresh M.dbig)⟩
    · by_cases hb : b = e
      · have q' : G'.get? b = some o := q
        rw [hb, ge] at q'; cases q'
      · exact (gk b hb).symm.trans q
    · rw [upd_ne (Ne.symm M.dne)]
      exact I1.hok.fresh M.new
/-- raise Low(e) -/
def tRaiseToo (C : Addr) (W : WX) (ta : TA) : TS := fun _ σ H => tMkToo C ta σ H fun cls d H' => W cls d σ H'
theorem ps_raiseToo {a : Expr} {ta : TA} {W : WX} {p pos pos2 : Pos} {k : Nat} (hc : X.calm = true) (T : PySem.TooX.TooTxt X.K X.mg C fI) (hr : Room k X.A) (tk : Takes X W) (ha : PA X [a] ta) (hg : Gl X "TooMany" := by rfl)
    (he : starEach (a :: []) X.env = (false, eval a X.env) :: starEach [] X.env := by rfl) (hpl : (backTo pos (starEach [] X.env)).any (·.1) = false := by rfl) :
    PS X (.Raise (some (.Call (.Name "TooMany" p) [a] [] pos)) none pos2) (tRaiseToo C W ta) := ps_raise hc tk (pmk_too T hr ha hg he hpl)
/-- low.by, low the exception that the suite holds (at a; its class cls, its dict d) -/
def tByToo (C : Addr) (a : Addr) (cls : Value) (d : Option Addr) (te : TE) : TE := fun σ H Q => te σ H fun x H1 => x = .ref a ∧ cls = .ref C ∧ ∃ (dd : Addr) (v : V), d = some dd ∧ H1 dd = some (.xd [(("limit" : Str), v)]) ∧ Q v H1
theorem pe_byToo {a : Addr} {oe : Obj} {cls : Value} {d : Option Addr} {pn : List (Addr × Obj)} {e : Expr} {te : TE} {pos : Pos} (T : PySem.TooX.TooTxt X.K X.mg C fI) (hz : Zc cls d oe) (hf : ∃ vs, oe.data = .fields vs) (he : PE (X.suite a ((a, oe) :: pn)) e te)
    (hb : attributeBase e "limit" X.env (eval e X.env) = eval e X.env := by rfl) :
    PE (X.suite a ((a, oe) :: pn)) (.Attribute e "limit" pos) (tByToo C a cls d te) := by
  refine ⟨fun pins s σ H Q I h => ?_⟩
  refine attr_of hb (thn (he.run pins s σ H _ I h) fun u s1 hh => ?_)
  obtain ⟨x, H1, I1, rx, ex, ec, dd, v, ed, ea, q⟩ := hh
  subst ex
  obtain rfl : u = Value.ref a := rx
  subst ec
  subst ed
  obtain ⟨ha, _⟩ := I1.pin (a, oe) (List.mem_append_left _ List.mem_cons_self)
  obtain ⟨vs, hd⟩ := hf
  have hx : ObjOk X.prog X.w H1 s1.heap dd (.xd [(("limit" : Str), v)]) := I1.hok dd _ ea
  obtain ⟨mA, hns, hr⟩ := hx
  obtain ⟨od, ho, hl⟩ := lookIn_ns hns
  have l : List.lookup ("limit" : Str) [(("limit" : Str), v)] = some v := by simp [List.lookup]
  obtain ⟨u, hu, ru⟩ := RelO.some_of (v := v) (o := mA "limit") (by rw [← l]; exact hr "limit")
  have J : PySem.W.InstAt s1.heap a oe C (some od) := ⟨ha, hz.1, by unfold PySem.W.notCls; rw [hd] <;> rfl, by rw [hz.2]; exact ho⟩
  exact HandSPX.exc_get I1.kIn J T.ga T.gg T.exC (PySem.W.findObj_own T.hdC T.noN rfl (by rw [hl, hu])) (handed_of ru) ⟨v, H1, I1.tok _, ru, q⟩
end
end L2
namespace Kr
open PySem PySem.Spec PyProof.Rows L2
abbrev nDo : List Str := ["standing", "deed", "lot", "a", "b", "place", "items"]
section
variable {P : Program} {w : World} {K : PySem.W.Frag} {mg : Str → Option Value} {base : Heap}
theorem scDo : FnScope nDo ["standing", "deed"] (defScope sDone) := ⟨rfl, rfl, rfl, by decide +kernel, rfl, by decide +kernel, by decide +kernel⟩
theorem f_done {f : Addr} {fd : FuncData} (F : Fun K "done" "done" sDone f fd) (B : Bi mg) : FnOk P w K mg base CX0 1 f fd ["standing", "deed"] spDone := by
  refine F.ok scDo (fun vs H Q E h => ?_) (fun cdv A outer s H vs Q E hr h => ?_)
  · obtain ⟨st, dd, la, ss, lot, a, b, rfl, _⟩ := h
    rfl
  · obtain ⟨st, dd, la, ss, lot, a, b, rfl, hst, hdd, hla, R, hsl, q⟩ := h
    refine ⟨_, pss_cons (ps_asg (pv 1) (pg_tup rfl (pgs_cons (pg_name (i := 2) scDo.nd rfl (.inl rfl)) (pgs_cons (pg_name (i := 3) scDo.nd rfl (.inl rfl)) (pgs_cons (pg_name (i := 4) scDo.nd rfl (.inl rfl)) pgs_nil)))))
      (pss_cons (ps_if (pt_val (pe_callB (cr_any rfl) (by rfl) B.any (by decide +kernel) (pa_cons
          (pe_lc (own := [("place", 5)]) (g := gName 5) rfl scDo.nd (pi_tup (pv 2)) (blkOk_by (own := [("place", 5)]) (N := nDo) (sc := defScope sDone) (by decide +kernel)) (fun _ _ _ _ _ => pg_name (i := 5) scDo.nd rfl (.inl rfl)) (fun _ _ _ _ _ => pts_nil)
            (fun _ _ _ _ _ => pe_cmpR op_ne (pe_ix (r := rIxT K) ix_tup (pv 0) (pv 5) (fun _ _ => rfl)) pe_int (nomark _))) pa_nil))) (pss_one (ps_ret (pv 0))) pss_nil)
      (pss_cons (ps_set (i := 6) scDo.nd rfl (.inl rfl) (pe_callTy call_list_of (by rfl) B.list (by decide +kernel) (pa_cons (pv 0) pa_nil)))
      (pss_cons (ps_asg (pe_ix ix_tup (pv 0) (pv 4) (fun _ _ => rfl)) (pg_sub (pv 6) (pv 3) set_list))
      (pss_cons (ps_asg (pe_ix ix_tup (pv 0) (pv 3) (fun _ _ => rfl)) (pg_sub (pv 6) (pv 4) set_list))
      (pss_one (ps_ret (pe_callTy call_tuple_of (by rfl) B.tuple (by decide +kernel) (pa_cons (pv 6) pa_nil)))))))), ?_⟩
    refine ⟨.ref dd, rfl, dd, _, rfl, SqT.of hdd, rfl, .ref la, _, rfl, .int a, _, rfl, .int b, _, rfl, rfl, ?_⟩
    refine ⟨.ref la, rfl, la, rfl, ⟨_, SqT.of hla⟩, fun Da nDa => lc_tup (K := K) (xs := lot.map V.int) (fun i G2 => ∃ bs : List Bool, G2 Da = some (.lst (bs.map V.bl)) ∧ Same H G2 ∧ bs = (lot.take i).map (fun j => !decide (gz ss j = 0)))
      ⟨[], upd_same, same_new nDa, rfl⟩ (fun i G2 _ ⟨_, _, sm, _⟩ => SqT.of (sm _ _ hla)) ?_ ?_⟩
    · rintro j _ G2 hx ⟨bs, hDa, sm, rfl⟩
      obtain ⟨z, hz, hzm, rfl⟩ := mem_map_int hx
      obtain ⟨z0, z1⟩ := R.rng z hzm
      have hjl := (List.getElem?_eq_some_iff.mp hz).1
      have hll := R.len
      refine ⟨rfl, ?_⟩
      dsimp only [tYes]
      rw [if_pos rfl]
      refine ⟨.ref st, rfl, .int z, rfl, st, _, z, _, rfl, rfl, SqT.of (sm _ _ hst), at_gz z0 z1, rfl, ?_⟩
      refine ⟨_, hDa, szl (by rw [List.length_map, List.length_map, List.length_take]; omega), (lot.take (j + 1)).map (fun j => !decide (gz ss j = 0)), ?_, fun b o hb' => ?_, rfl⟩
      · rw [upd_same, List.take_add_one, hz, List.map_append, List.map_append, ne0]
        rfl
      · rw [upd_ne (ne_of_none hb' nDa)]
        exact sm _ _ hb'
    · rintro G2 ⟨bs, hDa, sm, rfl⟩
      rw [List.length_map, List.take_length] at hDa
      refine ⟨Da, _, rfl, SqL.of hDa, _, rfl, ?_⟩
      have eany : (lot.map (fun j => !decide (gz ss j = 0))).any id = lot.any (fun j => !decide (gz ss j = 0)) := by
        rw [List.any_map]
        rfl
      rw [eany]
      unfold exch at q
      by_cases hb : lot.any (fun j => !decide (gz ss j = 0)) = true
      · rw [if_pos hb] at q
        rw [hb]
        exact iteT ⟨.ref st, rfl, q _ _ sm (sm _ _ hst)⟩
      · rw [if_neg hb] at q
        rw [Bool.eq_false_iff.mpr hb]
        refine iteF ⟨.ref st, rfl, st, _, rfl, .inr (SqT.of (sm _ _ hst)), fun it nit => ?_⟩
        have s2 := sm.trans (same_new (o := .lst (ss.map V.int)) nit)
        have nit0 : H it = none := sm.free nit
        have up : ∀ {G : Hp} {o : HO}, Same H G → Same H (upd G it o) := fun s c o h => by
          rw [upd_ne (ne_of_none h nit0)]
          exact s _ _ h
        refine ⟨.ref st, rfl, .int b, rfl, st, _, b, _, rfl, rfl, SqT.of (s2 _ _ hst), at_gz R.b0 R.b1, .ref it, rfl, .int a, rfl, it, _, a, a.toNat, rfl, rfl, upd_same, ixn R.a0 (by rw [List.length_map]; exact R.a1), ?_⟩
        have s3 := up (o := .lst ((ss.map V.int).set a.toNat (.int (gz ss b)))) s2
        refine ⟨.ref st, rfl, .int a, rfl, st, _, a, _, rfl, rfl, SqT.of (s3 _ _ hst), at_gz R.a0 R.a1, .ref it, rfl, .int b, rfl, it, _, b, b.toNat, rfl, rfl, upd_same, ixn R.b0 (by rw [List.length_set, List.length_map]; exact R.b1), ?_⟩
        have s4 := up (o := .lst (((ss.map V.int).set a.toNat (.int (gz ss b))).set b.toNat (.int (gz ss a)))) s3
        refine ⟨.ref it, rfl, it, _, rfl, .inl ⟨SqL.of upd_same, fun t nt => ?_⟩⟩
        refine q _ t (s4.trans (same_new nt)) ?_
        rw [upd_same, List.map_set, List.map_set]
end
end Kr
namespace Kr
open PySem PySem.Spec PyProof.Rows L2
/-! ### the deeds that programs do, one by one -/
abbrev Stw := Option (List Mv)
def stepAdd (acc w : Stw) : Stw := match acc, w with
  | some a, some b => if a.length + b.length > 5000 then none else some (a ++ b)
  | _, _ => none
def stepM : Mea Stw := ⟨fun d => some [d], fun as => as.foldl stepAdd (some []), fun w => w.map List.reverse, fun w k => if k = 0 ∨ w = some [] then some [] else match w with
  | some b => if b.length * k > 5000 then none else some (List.replicate k b).flatten
  | none => none⟩
def stepD : Stw → PyData
  | none => .none
  | some ms => .tuple (ms.map deedD)
theorem deeds_flat (ms : List Mv) : flatTA (ms.map deedD) = true := flatTA_of fun d hd => by
  obtain ⟨m, _, rfl⟩ := List.mem_map.mp hd
  exact deed_flat m
theorem step_flat : ∀ w : Stw, flatT (stepD w) = true
  | none => rfl
  | some ms => by simpa [stepD, flatT] using deeds_flat ms
/-- deeds of n places, not too many -/
def StOk (n : Nat) (w : Stw) : Prop := ∀ ms, w = some ms → ms.length ≤ 5000 ∧ ∀ m ∈ ms, Deed n m
theorem step_none : ∀ as : List Stw, as.foldl stepAdd none = none
  | [] => rfl
  | a :: as => by
    rw [List.foldl_cons]
    exact step_none as
theorem stepAdd_ok {n : Nat} {a b : Stw} (ha : StOk n a) (hb : StOk n b) : StOk n (stepAdd a b) := by
  intro ms h
  cases a with
  | none => cases h
  | some a =>
    cases b with
    | none => cases h
    | some b =>
      simp only [stepAdd] at h
      split at h
      · cases h
      · cases h
        refine ⟨by rw [List.length_append]; omega, fun m hm => ?_⟩
        rcases List.mem_append.mp hm with c | c
        · exact (ha a rfl).2 m c
        · exact (hb b rfl).2 m c
theorem step_fold {n : Nat} : ∀ {as : List Stw} {a : Stw}, StOk n a → (∀ x ∈ as, StOk n x) → StOk n (as.foldl stepAdd a)
  | [], _, h, _ => h
  | x :: as, a, h, g => by
    rw [List.foldl_cons]
    exact step_fold (stepAdd_ok h (g x List.mem_cons_self)) fun y hy => g y (List.mem_cons_of_mem _ hy)
theorem rep_len {α : Type} (k : Nat) (l : List α) : (List.replicate k l).flatten.length = l.length * k := by
  induction k with
  | zero => simp
  | succ k ih => rw [List.replicate_succ, List.flatten_cons, List.length_append, ih, Nat.mul_succ]; omega
def stepR (n : Nat) : MeaR Stw where
  toMea := stepM
  rep := fun w v H => Dq H v (stepD w)
  flds := fun fs => fs = []
  ok := StOk n
  okD := Deed n
  most := 400
  up := fun s h => Dq.upT s (step_flat _) h
  cD := fun h ms e => by
    cases e
    exact ⟨by simp, fun m hm => by rw [List.mem_singleton.mp hm]; exact h⟩
  cR := fun h _ => step_fold (fun ms e => by cases e; exact ⟨by simp, fun m hm => nomatch hm⟩) h
  cB := fun {a} h ms e => by
    cases a with
    | none => cases e
    | some b =>
      cases e
      exact ⟨by rw [List.length_reverse]; exact (h b rfl).1, fun m hm => (h b rfl).2 m (List.mem_reverse.mp hm)⟩
  cT := fun {a k} h _ ms e => by
    simp only [stepM] at e
    split at e
    · cases e
      exact ⟨by simp, fun m hm => nomatch hm⟩
    · cases a with
      | none => cases e
      | some b =>
        simp only at e
        split at e
        · cases e
        · cases e
          refine ⟨by rw [rep_len]; omega, fun m hm => ?_⟩
          obtain ⟨l, hl, hm2⟩ := List.mem_flatten.mp hm
          rw [List.eq_of_mem_replicate hl] at hm2
          exact (h b rfl).2 m hm2
  nD := fun h => by rw [h]; rfl
  nR := fun h => by rw [h]; rfl
  nB := fun h => by rw [h]; rfl
  nT := fun h => by rw [h]; rfl
abbrev sSmDeed : Stmt := inClass sStepsMeasure 0
abbrev sSmRow : Stmt := inClass sStepsMeasure 1
abbrev sSmBack : Stmt := inClass sStepsMeasure 2
abbrev sSmTimes : Stmt := inClass sStepsMeasure 3
section
variable {P : Program} {w : World} {K : PySem.W.Frag} {mg : Str → Option Value} {base : Heap}
variable {C : Addr}
theorem f_smDeed {n : Nat} {f : Addr} {fd : FuncData} (F : Fun K "of_deed" "StepsMeasure.of_deed" sSmDeed f fd) : FnOk P w K mg base CX0 1 f fd ["self", "deed"] ((stepR n).spD C) := by
  have sc : FnScope ["self", "deed"] ["self", "deed"] (defScope sSmDeed) := ⟨rfl, rfl, rfl, by decide +kernel, rfl, by decide +kernel, by decide +kernel⟩
  refine F.ok sc (fun vs H Q E h => ?_) (fun cdv A outer s H vs Q E hr h => ?_)
  · obtain ⟨_, _, _, rfl, _⟩ := h
    rfl
  · obtain ⟨m, v, d, rfl, hob, hv, hd, q⟩ := h
    refine ⟨_, pss_one (ps_ret (pe_tup (pa_cons (pv 1) pa_nil))), v, rfl, by show 1 ≤ sizeLine; decide, fun t nt => ?_⟩
    have s1 := same_new (o := .tup [v]) nt
    exact q _ _ s1 (.tup upd_same (.cons (hv.up s1) .nil))
theorem f_smBack {n : Nat} {f : Addr} {fd : FuncData} (F : Fun K "of_back" "StepsMeasure.of_back" sSmBack f fd) : FnOk P w K mg base CX0 1 f fd ["self", "worth"] ((stepR n).spB C) := by
  have sc : FnScope ["self", "worth"] ["self", "worth"] (defScope sSmBack) := ⟨rfl, rfl, rfl, by decide +kernel, rfl, by decide +kernel, by decide +kernel⟩
  refine F.ok sc (fun vs H Q E h => ?_) (fun cdv A outer s H vs Q E hr h => ?_)
  · obtain ⟨_, _, _, rfl, _⟩ := h
    rfl
  · obtain ⟨m, v, x, rfl, hob, hv, hx, q⟩ := h
    have hv : Dq H v (stepD x) := hv
    refine ⟨_, pss_one (ps_ret (pe_ifExp (pt_cmpR op_isN (pv 1) pe_non (nomark _)) pe_non (pe_revT (pv 1)))), v, rfl, rfl, _, rfl, ?_⟩
    cases x with
    | none =>
      cases hv
      exact iteT (q _ _ (Same.refl _) .non)
    | some ms =>
      obtain ⟨a, xs, rfl, ha, qx⟩ := Dq.tup_inv hv
      refine iteF ⟨.ref a, rfl, a, xs, rfl, SqT.of ha, fun p np => ?_⟩
      have s1 := same_new (o := .tup xs.reverse) np
      refine q _ _ s1 (.tup upd_same ?_)
      rw [List.map_reverse]
      exact (qx.up s1).rev
theorem f_smRow {n : Nat} {f : Addr} {fd : FuncData} (F : Fun K "of_row" "StepsMeasure.of_row" sSmRow f fd) (B : Bi mg) (hM : ∃ t, mg "MAX_STEPS" = some (.int 5000 t)) : FnOk P w K mg base CX0 1 f fd ["self", "worths"] ((stepR n).spR C) := by
  have sc : FnScope ["self", "worths", "deeds", "worth"] ["self", "worths"] (defScope sSmRow) := ⟨rfl, rfl, rfl, by decide +kernel, rfl, by decide +kernel, by decide +kernel⟩
  obtain ⟨tM, gM⟩ := hM
  refine F.ok sc (fun vs H Q E h => ?_) (fun cdv A outer s H vs Q E hr h => ?_)
  · obtain ⟨_, _, _, _, rfl, _⟩ := h
    rfl
  · obtain ⟨m, a, us, as, rfl, hob, ha, hul, has, hus, hok, q⟩ := h
    refine ⟨_, pss_cons (ps_set (i := 2) sc.nd rfl (.inl rfl) (pe_lst pa_nil))
      (pss_cons (ps_for PassesOwn.never rfl (pi_list (pv 1)) (pg_name (i := 3) sc.nd rfl (.inl rfl))
        (pss_cons (ps_if (PW.pt (pw_or (pt_cmpR op_isN (pv 3) pe_non (nomark _)) (pw_or1 (pt_cmpR op_gt (pe_op op_add (pe_callB call_len_seq (by rfl) B.len boot_len (pa_cons (pv 2) pa_nil)) (pe_callB call_len_seq (by rfl) B.len boot_len (pa_cons (pv 3) pa_nil))) (pe_glob (v := .int 5000) (by rfl) gM ⟨_, rfl⟩) (nomark _))))) (pss_one (ps_ret pe_non)) pss_nil)
        (pss_one (ps_expr (pe_bm PySem.F.plainAttrs_list PySem.F.slot_list_extend PySem.F.type_list_extend mt_extendT (pv 2) (pa_cons (pv 3) pa_nil))))))
      (pss_one (ps_ret (pe_callTy call_tuple_of (by rfl) B.tuple (by decide +kernel) (pa_cons (pv 2) pa_nil))))), ?_⟩
    refine ⟨by show 0 ≤ sizeLine; decide, fun D nD => ?_⟩
    dsimp only [tNext]
    have hDa : D ≠ a := (ne_of_none ha nD).symm
    refine ⟨.ref a, rfl, a, rfl, ⟨us, SqL.of (same_new nD _ _ ha)⟩, for_it (walk_list (K := K) (a := a) (xs := us)) (fun i σ G => ∃ (v3 : Option V) (ms : List Mv) (vs : List V), σ = [some m, some (.ref a), some (.ref D), v3] ∧ Same H G ∧ G D = some (.lst vs) ∧ DqA G vs (ms.map deedD) ∧ (as.take i).foldl stepAdd (some []) = some ms ∧ ms.length ≤ 5000) ⟨none, [], [], rfl, same_new nD, upd_same, .nil, rfl, by simp⟩ (fun _ _ _ _ ⟨_, _, _, _, sm, _⟩ => SqL.of (sm _ _ ha)) ?_ ?_⟩
    · rintro i x σ _ G hi ⟨v3, ms, vs, rfl, sm, hD, qv, hf, hml⟩ ⟨rfl, hx⟩
      obtain ⟨w, hw⟩ : ∃ w, as[i]? = some w := ⟨_, List.getElem?_eq_getElem (by rw [← hul]; exact hi)⟩
      have hv : Dq G x (stepD w) := Dq.up sm (hus i x w hx hw)
      have hok' := hok w (List.mem_of_getElem? hw)
      have hstep : (as.take (i + 1)).foldl stepAdd (some []) = stepAdd (some ms) w := by rw [List.take_add_one, hw, List.foldl_append, hf]; rfl
      have bad : stepAdd (some ms) w = none → Q .non G := fun e => by
        refine q _ _ sm ?_
        show Dq G .non (stepD (as.foldl stepAdd (some [])))
        have e2 : as.foldl stepAdd (some []) = none := by
          rw [← List.take_append_drop (i + 1) as, List.foldl_append, hstep, e]
          exact step_none _
        rw [e2]
        exact .non
      cases w with
      | none =>
        cases hv
        exact ⟨.non, rfl, rfl, _, rfl, iteT (iteT (bad rfl))⟩
      | some b =>
        obtain ⟨t, ys, rfl, ht, qy⟩ := Dq.tup_inv hv
        have hyl := qy.len
        have hvl := qv.len
        rw [List.length_map] at hyl hvl
        have hbl := (hok' b rfl).1
        refine ⟨.ref t, rfl, rfl, _, rfl, iteF ⟨.ref D, rfl, D, vs, rfl, .inl (SqL.of hD), .ref t, rfl, t, ys, rfl, .inr (SqT.of ht), _, _, rfl, rfl, _, _, rfl, rfl, _, rfl, ?_⟩⟩
        refine ite2 (fun c => ?_) (fun c => ?_)
        · refine bad ?_
          have := of_decide_eq_true c
          simp only [stepAdd]
          rw [if_pos (by omega)]
        · have c1 : ¬ (5000 : Int) < ((vs.length : Nat) : Int) + ((ys.length : Nat) : Int) := fun z => c (decide_eq_true z)
          dsimp only [tNext]
          have tD : TS G (upd G D (.lst (vs ++ ys))) := TS.lst hD
          refine ⟨.ref D, rfl, .inl ⟨rfl, vs, SqL.of hD⟩, .ref t, rfl, D, t, vs, ys, rfl, rfl, hD, SqT.of ht, sz (by omega), some (.ref t), ms ++ b, vs ++ ys, rfl, fun c o hc => ?_, upd_same, ?_, ?_, by rw [List.length_append]; omega⟩
          · rw [upd_ne (ne_of_none hc nD)]
            exact sm _ _ hc
          · rw [List.map_append]
            exact (DqA.upT tD (deeds_flat ms) qv).app (DqA.upT tD (deeds_flat b) qy)
          · rw [hstep]
            simp only [stepAdd]
            rw [if_neg (by omega)]
    · rintro σ G ⟨v3, ms, vs, rfl, sm, hD, qv, hf, hml⟩
      rw [hul, List.take_length] at hf
      refine ⟨.ref D, rfl, D, vs, rfl, .inl ⟨SqL.of hD, fun t nt => ?_⟩⟩
      have s1 := same_new (o := .tup vs) nt
      refine q _ _ (sm.trans s1) ?_
      show Dq _ _ (stepD (as.foldl stepAdd (some [])))
      rw [hf]
      exact .tup upd_same (qv.up s1)
theorem f_smTimes {n : Nat} {f : Addr} {fd : FuncData} (F : Fun K "of_times" "StepsMeasure.of_times" sSmTimes f fd) (B : Bi mg) (hM : ∃ t, mg "MAX_STEPS" = some (.int 5000 t)) : FnOk P w K mg base CX0 1 f fd ["self", "worth", "k"] ((stepR n).spT C) := by
  have sc : FnScope ["self", "worth", "k"] ["self", "worth", "k"] (defScope sSmTimes) := ⟨rfl, rfl, rfl, by decide +kernel, rfl, by decide +kernel, by decide +kernel⟩
  obtain ⟨tM, gM⟩ := hM
  refine F.ok sc (fun vs H Q E h => ?_) (fun cdv A outer s H vs Q E hr h => ?_)
  · obtain ⟨_, _, _, _, rfl, _⟩ := h
    rfl
  · obtain ⟨m, v, x, k, rfl, hob, hv, hx, hk, q⟩ := h
    have hv : Dq H v (stepD x) := hv
    have hu : (cxOf CX0 P w K mg base ["self", "worth", "k"] "StepsMeasure.of_times" (defScope sSmTimes) f cdv A outer s H E).A.units + 64 < cLine := hr.units
    refine ⟨_, pss_cons (ps_if (PW.pt (pw_or (pt_cmpR op_eq (pv 2) pe_int (nomark _)) (pw_or1 (pt_cmpR (op_eqT0N hu) (pv 1) (pe_tup pa_nil) (nomark _))))) (pss_one (ps_ret (pe_tup pa_nil))) pss_nil)
      (pss_cons (ps_if (PW.pt (pw_or (pt_cmpR op_isN (pv 1) pe_non (nomark _)) (pw_or1 (pt_cmpR op_gt (pe_op op_mulW (pe_callB call_len_seq (by rfl) B.len boot_len (pa_cons (pv 1) pa_nil)) (pv 2)) (pe_glob (v := .int 5000) (by rfl) gM ⟨_, rfl⟩) (nomark _))))) (pss_one (ps_ret pe_non)) pss_nil)
      (pss_one (ps_ret (pe_op op_repA (pv 1) (pv 2))))), ?_⟩
    refine ⟨.int (k : Int), rfl, rfl, _, rfl, ?_⟩
    have zero : ∀ G, Same H G → (stepM.oT x k = some []) → (0 ≤ sizeLine ∧ ∀ t, G t = none → Q (.ref t) (upd G t (.tup []))) := fun G sG e => ⟨by decide, fun t nt => by
      refine q _ _ (sG.trans (same_new nt)) ?_
      show Dq _ _ (stepD (stepM.oT x k))
      rw [e]
      exact .tup upd_same .nil⟩
    by_cases hk0 : k = 0
    · subst hk0
      rw [decide_eq_true (show V.int ((0 : Nat) : Int) = V.int 0 from rfl)]
      refine iteT (iteT (zero H (Same.refl _) ?_))
      simp [stepM]
    · rw [decide_eq_false (show ¬ V.int (k : Int) = V.int 0 from fun z => hk0 (by have := V.int.inj z; omega))]
      refine iteF ?_
      refine ⟨v, rfl, by show 0 ≤ sizeLine; decide, fun z nz => ?_⟩
      have sz' := same_new (o := .tup []) nz
      have hvz := hv.up sz'
      cases x with
      | none =>
        cases hv
        refine ⟨z, rfl, SqT.of upd_same, .inl ⟨rfl, _, rfl, iteF ?_⟩⟩
        dsimp only [tNext]
        refine ⟨.non, rfl, rfl, _, rfl, iteT (iteT (q _ _ sz' ?_))⟩
        show Dq _ _ (stepD (stepM.oT none k))
        simp only [stepM]
        rw [if_neg (by intro c; rcases c with c | c; exact hk0 c; cases c)]
        exact .non
      | some b =>
        obtain ⟨t, ys, rfl, ht, qy⟩ := Dq.tup_inv hvz
        have hyl := qy.len
        rw [List.length_map] at hyl
        have hbl := (hx b rfl).1
        refine ⟨z, rfl, SqT.of upd_same, .inr ⟨t, ys, rfl, SqT.of ht, _, rfl, ?_⟩⟩
        generalize upd H z (.tup []) = G at ht qy sz' hvz
        cases hyb : ys.isEmpty with
        | true =>
          have hb0 : b = [] := by
            rw [List.isEmpty_iff] at hyb
            rw [hyb] at hyl
            exact List.eq_nil_of_length_eq_zero hyl.symm
          refine iteT (zero G sz' ?_)
          simp only [stepM]
          rw [if_pos (.inr (by rw [hb0]))]
        | false =>
          have hyne : ys ≠ [] := fun z => by rw [z] at hyb; cases hyb
          have hb0 : b ≠ [] := fun z => hyne (by rw [z] at hyl; exact List.eq_nil_of_length_eq_zero hyl)
          have eT : stepM.oT (some b) k = if b.length * k > 5000 then none else some (List.replicate k b).flatten := by
            simp only [stepM]
            rw [if_neg (by intro c; rcases c with c | c; exact hk0 c; exact hb0 (Option.some.inj c))]
          refine iteF ?_
          dsimp only [tNext]
          refine ⟨.ref t, rfl, rfl, _, rfl, iteF ⟨.ref t, rfl, t, ys, rfl, .inr (SqT.of ht), .int (k : Int), rfl, _, _, rfl, rfl, wide_mul (a := 13) (b := 100) (by rw [Int.natAbs_natCast]; exact Nat.lt_of_le_of_lt (by omega : ys.length ≤ 5000) (by decide)) (by rw [Int.natAbs_natCast]; exact Nat.lt_of_le_of_lt hk (by decide +kernel)) (by decide) (by decide) (by decide), _, _, rfl, rfl, _, rfl, ?_⟩⟩
          rw [← Int.natCast_mul]
          refine ite2 (fun c => ?_) (fun c => ?_)
          · have := of_decide_eq_true c
            refine q _ _ sz' ?_
            show Dq _ _ (stepD (stepM.oT (some b) k))
            rw [eT, if_pos (by rw [← hyl]; omega)]
            exact .non
          · have c1 : ¬ (5000 : Int) < ((ys.length * k : Nat) : Int) := fun z => c (decide_eq_true z)
            dsimp only [tNext]
            refine ⟨.ref t, rfl, .int (k : Int), rfl, repA_k ht hyne (by omega) (by rw [Int.toNat_natCast]; omega) fun y G2 s2 h2 => q _ _ (sz'.trans s2) ?_⟩
            show Dq _ _ (stepD (stepM.oT (some b) k))
            rw [eT, if_neg (by rw [← hyl]; omega)]
            rw [Int.toNat_natCast] at h2
            refine .tup h2 ?_
            have rp : ∀ j : Nat, DqA G2 (List.replicate j ys).flatten ((List.replicate j b).flatten.map deedD) := by
              intro j
              induction j with
              | zero => exact .nil
              | succ j ih =>
                rw [List.replicate_succ, List.replicate_succ, List.flatten_cons, List.flatten_cons, List.map_append]
                exact (qy.up s2).app ih
            exact rp k
end
end Kr
namespace Kr
open PySem PySem.Spec PyProof.Rows L2
/-! ### two measures that keep a relation -/
/-- place by place -/
def RelL {α β : Type} (R : α → β → Prop) : List α → List β → Prop
  | [], [] => True
  | a :: as, b :: bs => R a b ∧ RelL R as bs
  | _, _ => False
section
variable {α β : Type} {R : α → β → Prop} {M : Mea α} {N : Mea β}
structure RelM (R : α → β → Prop) (D : Mv → Prop) (M : Mea α) (N : Mea β) : Prop where
  oD : ∀ d, D d → R (M.oD d) (N.oD d)
  oR : ∀ as bs, RelL R as bs → R (M.oR as) (N.oR bs)
  oB : ∀ a b, R a b → R (M.oB a) (N.oB b)
  oT : ∀ a b k, R a b → R (M.oT a k) (N.oT b k)
theorem RelL.snoc : ∀ {as : List α} {bs : List β} {a : α} {b : β}, RelL R as bs → R a b → RelL R (as ++ [a]) (bs ++ [b])
  | [], [], _, _, _, h => ⟨h, trivial⟩
  | x :: as, y :: bs, _, _, h, g => ⟨h.1, RelL.snoc (as := as) (bs := bs) h.2 g⟩
  | [], _ :: _, _, _, h, _ => h.elim
  | _ :: _, [], _, _, h, _ => h.elim
theorem RelL.getD : ∀ {as : List α} {bs : List β} {a : α} {b : β} (j : Nat), RelL R as bs → R a b → R (as.getD j a) (bs.getD j b)
  | [], [], _, _, _, _, h => h
  | x :: as, y :: bs, _, _, 0, h, _ => h.1
  | x :: as, y :: bs, _, _, j + 1, h, g => by
    simpa using RelL.getD (as := as) (bs := bs) j h.2 g
  | [], _ :: _, _, _, _, h, _ => h.elim
  | _ :: _, [], _, _, _, h, _ => h.elim
theorem RelL.lastD : ∀ {as : List α} {bs : List β} {a : α} {b : β}, RelL R as bs → R a b → R (as.getLastD a) (bs.getLastD b)
  | [], [], _, _, _, h => h
  | x :: as, y :: bs, a, b, h, _ => by
    rw [List.getLastD_cons, List.getLastD_cons]
    exact RelL.lastD (as := as) (bs := bs) h.2 h.1
  | [], _ :: _, _, _, h, _ => h.elim
  | _ :: _, [], _, _, h, _ => h.elim
mutual
theorem RelM.worth {D : Mv → Prop} {r k : Nat} (h : RelM R D M N) {ws : List α} {vs : List β} (hw : RelL R ws vs) : ∀ t : Tm, okTm D r k t → R (worth M ws t) (worth N vs t)
  | .doo d, o => by
    simp only [okTm] at o
    simp only [Kr.worth]
    exact h.oD d o
  | .part j, _ => by
    simp only [Kr.worth]
    exact hw.getD j (h.oR [] [] trivial)
  | .row ts, o => by
    simp only [okTm] at o
    simp only [Kr.worth]
    exact h.oR _ _ (RelM.worthL h hw ts o.2)
  | .back t, o => by
    simp only [okTm] at o
    simp only [Kr.worth]
    exact h.oB _ _ (RelM.worth h hw t o)
  | .times t n, o => by
    simp only [okTm] at o
    simp only [Kr.worth]
    exact h.oT _ _ n (RelM.worth h hw t o.2)
theorem RelM.worthL {D : Mv → Prop} {r k : Nat} (h : RelM R D M N) {ws : List α} {vs : List β} (hw : RelL R ws vs) : ∀ ts : List Tm, okTms D r k ts → RelL R (worthL M ws ts) (worthL N vs ts)
  | [], _ => by
    simp only [Kr.worthL]
    trivial
  | t :: ts, o => by
    simp only [okTms] at o
    simp only [Kr.worthL]
    exact ⟨RelM.worth h hw t o.1, RelM.worthL h hw ts o.2⟩
end
theorem RelM.wsAll {D : Mv → Prop} {r n : Nat} (h : RelM R D M N) {p : List Tm} (hp : PrOk D r n p) : ∀ i, i ≤ p.length → RelL R (wsAll M (p.take i) []) (wsAll N (p.take i) [])
  | 0, _ => trivial
  | i + 1, hi => by
    obtain ⟨t, ht⟩ : ∃ t, p[i]? = some t := ⟨_, List.getElem?_eq_getElem (by omega)⟩
    rw [wsAll_take _ ht, wsAll_take _ ht]
    have ih := RelM.wsAll h hp i (by omega)
    exact ih.snoc (h.worth ih t (hp.tm i t ht).1)
theorem RelM.progW {D : Mv → Prop} {r n : Nat} (h : RelM R D M N) {p : List Tm} (hp : PrOk D r n p) : R (progW M p) (progW N p) := by
  have e := RelM.wsAll h hp p.length (Nat.le_refl _)
  rw [List.take_length] at e
  exact e.lastD (h.oR [] [] trivial)
end
end Kr
namespace Kr
open PySem PySem.Spec PyProof.Rows L2
/-- a def that may raise, where it doesn't -/
abbrev calmSp (sp : Sp) : Sp := fun vs H Q _ => sp vs H Q (fun _ _ _ => False)
theorem fn_calm {P : Program} {w : World} {K : PySem.W.Frag} {mg : Str → Option Value} {base : Heap} {k : Nat} {f : Addr} {fd : FuncData} {ps : List Str} {sp : Sp} (F : FnOk P w K mg base (L2.CX P w) k f fd ps sp) : FnOk P w K mg base CX0 k f fd ps (calmSp sp) :=
  ⟨fun vs H Q E h => F.len _ _ _ _ h, fun A outer s H args us vs Q E r e b v h => codeAny_mono (F.run A outer s H args us vs Q _ r e b v h) fun res s' hq => by
    cases res with
    | error e =>
      obtain ⟨_, _, _, _, _, _, _, _, _, _, _, _, z⟩ := hq
      exact z.elim
    | ok fl =>
      cases fl with
      | ret u => exact hq
      | next => exact hq.elim
      | brk => exact hq.elim
      | cont => exact hq.elim⟩
end Kr
namespace Kr
open PySem PySem.Spec PyProof.Rows L2
/-! ### what programs do, how long they are, their kinds: all by the list of their deeds -/
def cutS (ms : List Mv) : Stw := if ms.length ≤ 5000 then some ms else none
theorem rel_step : RelM (fun w ms => w = cutS ms) (fun _ => True) stepM movM := by
  refine ⟨fun d _ => rfl, fun as bs h => ?_, fun a b h => ?_, fun a b k h => ?_⟩
  · have add : ∀ a b : List Mv, stepAdd (cutS a) (cutS b) = cutS (a ++ b) := fun a b => by
      have e : (a ++ b).length = a.length + b.length := List.length_append
      unfold cutS
      rw [e]
      by_cases h1 : a.length ≤ 5000
      · rw [if_pos h1]
        by_cases h2 : b.length ≤ 5000
        · rw [if_pos h2]
          by_cases h3 : a.length + b.length > 5000
          · rw [if_neg (show ¬ (a.length + b.length ≤ 5000) by omega)]
            show (if a.length + b.length > 5000 then none else some (a ++ b)) = none
            rw [if_pos h3]
          · rw [if_pos (show a.length + b.length ≤ 5000 by omega)]
            show (if a.length + b.length > 5000 then none else some (a ++ b)) = some (a ++ b)
            rw [if_neg h3]
        · rw [if_neg h2, if_neg (show ¬ (a.length + b.length ≤ 5000) by omega)]
          rfl
      · rw [if_neg h1, if_neg (show ¬ (a.length + b.length ≤ 5000) by omega)]
        rfl
    have fold : ∀ (as : List Stw) (bs : List (List Mv)) (c : List Mv), RelL (fun w ms => w = cutS ms) as bs → as.foldl stepAdd (cutS c) = cutS (c ++ bs.flatten) := by
      intro as
      induction as with
      | nil =>
        intro bs c h
        cases bs with
        | nil => simp
        | cons b bs => exact h.elim
      | cons a as ih =>
        intro bs c h
        cases bs with
        | nil => exact h.elim
        | cons b bs =>
          obtain ⟨rfl, h2⟩ := h
          rw [List.foldl_cons, add, ih bs (c ++ b) h2, List.flatten_cons, List.append_assoc]
    have := fold as bs [] h
    exact this
  · subst h
    show Option.map List.reverse (cutS b) = cutS b.reverse
    unfold cutS
    rw [List.length_reverse]
    by_cases h1 : b.length ≤ 5000
    · rw [if_pos h1, if_pos h1]; rfl
    · rw [if_neg h1, if_neg h1]; rfl
  · subst h
    show stepM.oT (cutS b) k = cutS (List.replicate k b).flatten
    have hl := rep_flat_len k b
    by_cases hk : k = 0
    · subst hk
      simp [stepM, cutS]
    · by_cases hb : b = []
      · subst hb
        have : (List.replicate k ([] : List Mv)).flatten = [] := List.eq_nil_of_length_eq_zero (by rw [rep_flat_len]; simp)
        rw [this]
        simp [stepM, cutS]
      · have hpos : 0 < b.length := List.length_pos_iff.mpr hb
        unfold cutS
        rw [hl]
        have hge : b.length * 1 ≤ b.length * k := Nat.mul_le_mul_left _ (by omega)
        by_cases h1 : b.length ≤ 5000
        · rw [if_pos h1]
          simp only [stepM]
          rw [if_neg (by intro c; rcases c with c | c; exact hk c; exact hb (Option.some.inj c))]
          by_cases h2 : b.length * k > 5000
          · rw [if_pos h2, if_neg (by omega)]
          · rw [if_neg h2, if_pos (by omega)]
        · rw [if_neg h1, if_neg (by omega)]
          simp only [stepM]
          rw [if_neg (by intro c; rcases c with c | c; exact hk c; cases c)]
theorem rel_cnt : RelM (fun c (ms : List Mv) => c = ms.length) (fun _ => True) cntM movM := by
  refine ⟨fun d _ => rfl, fun as bs h => ?_, fun a b h => ?_, fun a b k h => ?_⟩
  · have fold : ∀ (as : List Nat) (bs : List (List Mv)), RelL (fun c (ms : List Mv) => c = ms.length) as bs → as.sum = bs.flatten.length := by
      intro as
      induction as with
      | nil =>
        intro bs h
        cases bs with
        | nil => rfl
        | cons b bs => exact h.elim
      | cons a as ih =>
        intro bs h
        cases bs with
        | nil => exact h.elim
        | cons b bs =>
          obtain ⟨rfl, h2⟩ := h
          rw [List.sum_cons, ih bs h2, List.flatten_cons, List.length_append]
    exact fold as bs h
  · subst h
    show b.length = b.reverse.length
    rw [List.length_reverse]
  · subst h
    exact (rep_flat_len k b).symm
theorem rel_bound : ∀ {as : List Nat} {bs : List (List Mv)} {B : Nat}, RelL (fun c (ms : List Mv) => c = ms.length) as bs → (∀ a ∈ as, a ≤ B) → ∀ b ∈ bs, b.length ≤ B
  | [], [], _, _, _, _, h => nomatch h
  | a :: as, b :: bs, B, h, g, x, hx => by
    rcases List.mem_cons.mp hx with rfl | hx
    · have := g a List.mem_cons_self
      have e : a = x.length := h.1
      omega
    · exact rel_bound (as := as) (bs := bs) h.2 (fun y hy => g y (List.mem_cons_of_mem _ hy)) x hx
  | [], _ :: _, _, h, _, _, _ => h.elim
  | _ :: _, [], _, h, _, _, _ => h.elim
/-! ### what a term tells depends on the parts that it may name -/
section
variable {α : Type}
mutual
theorem worth_cong (M : Mea α) {D : Mv → Prop} {r k : Nat} {ws vs : List α} (h : ∀ i, i < k → ws.getD i (M.oR []) = vs.getD i (M.oR [])) : ∀ t : Tm, okTm D r k t → worth M ws t = worth M vs t
  | .doo d, _ => by simp only [worth]
  | .part j, o => by
    simp only [okTm] at o
    simp only [worth]
    exact h j o
  | .row ts, o => by
    simp only [okTm] at o
    simp only [worth]
    rw [worthL_cong M h ts o.2]
  | .back t, o => by
    simp only [okTm] at o
    simp only [worth]
    rw [worth_cong M h t o]
  | .times t n, o => by
    simp only [okTm] at o
    simp only [worth]
    rw [worth_cong M h t o.2]
theorem worthL_cong (M : Mea α) {D : Mv → Prop} {r k : Nat} {ws vs : List α} (h : ∀ i, i < k → ws.getD i (M.oR []) = vs.getD i (M.oR [])) : ∀ ts : List Tm, okTms D r k ts → worthL M ws ts = worthL M vs ts
  | [], _ => rfl
  | t :: ts, o => by
    simp only [okTms] at o
    simp only [worthL]
    rw [worth_cong M h t o.1, worthL_cong M h ts o.2]
end
theorem wsAll_pre (M : Mea α) : ∀ (ts : List Tm) (ws : List α) (i : Nat), i < ws.length → (wsAll M ts ws)[i]? = ws[i]?
  | [], _, _, _ => rfl
  | t :: ts, ws, i, h => by
    show (wsAll M ts (ws ++ [worth M ws t]))[i]? = _
    rw [wsAll_pre M ts _ i (by rw [List.length_append]; omega), List.getElem?_append_left h]
/-- a part's worth, by all worths -/
theorem ws_at (M : Mea α) {D : Mv → Prop} {r : Nat} {ps : List Tm} {j : Nat} {t : Tm} (h : ps[j]? = some t) (o : okTm D r j t) : (wsAll M ps [])[j]? = some (worth M (wsAll M ps []) t) := by
  have hj := (List.getElem?_eq_some_iff.mp h).1
  have e : wsAll M ps [] = wsAll M (ps.drop (j + 1)) (wsAll M (ps.take (j + 1)) []) := by
    rw [← wsAll_app, List.take_append_drop]
  have hl : (wsAll M (ps.take j) []).length = j := by
    rw [wsAll_len, List.length_take]
    show 0 + _ = _
    omega
  have hpre : ∀ i, i < j → (wsAll M ps []).getD i (M.oR []) = (wsAll M (ps.take j) []).getD i (M.oR []) := fun i hi => by
    rw [List.getD_eq_getElem?_getD, List.getD_eq_getElem?_getD, e, wsAll_take M h, wsAll_pre M _ _ i (by rw [List.length_append, hl]; omega), List.getElem?_append_left (by omega)]
  rw [worth_cong M hpre t o]
  rw [e, wsAll_take M h, wsAll_pre M _ _ j (by rw [List.length_append, hl]; show j < j + 1; omega), List.getElem?_append_right (by omega), hl, Nat.sub_self]
  rfl
theorem progW_snoc (M : Mea α) (ps : List Tm) (t : Tm) : progW M (ps ++ [t]) = worth M (wsAll M ps []) t := by
  unfold progW
  rw [wsAll_app]
  show (wsAll M ps [] ++ [_]).getLastD _ = _
  rw [List.getLastD_eq_getLast?, List.getLast?_append]
  rfl
end
theorem RelL.of_ws {α β : Type} {R : α → β → Prop} {M : Mea α} {N : Mea β} {D : Mv → Prop} {r n : Nat} (h : RelM R D M N) {p : List Tm} (hp : PrOk D r n p) : RelL R (wsAll M p []) (wsAll N p []) := by
  have := h.wsAll hp p.length (Nat.le_refl _)
  rwa [List.take_length] at this
theorem PrOk.mono {D D' : Mv → Prop} {r r' n n' : Nat} {p : List Tm} (h : PrOk D r n p) (hD : ∀ d, D d → D' d) (hr : r ≤ r') (hn : n ≤ n') : PrOk D' r' n' p :=
  ⟨h.ne, h.len, fun i t ht => ⟨okTm_mono hD hr (Nat.le_refl _) t (h.tm i t ht).1, Nat.le_trans (h.tm i t ht).2 hn⟩⟩
theorem PrOk.snoc {D : Mv → Prop} {r n : Nat} {p : List Tm} {t : Tm} (h : PrOk D r n p) (hl : p.length < 400) (o : okTm D r p.length t) (hd : dep t ≤ n) : PrOk D r n (p ++ [t]) := by
  refine ⟨by rw [List.length_append]; show 0 < p.length + 1; omega, by rw [List.length_append]; show p.length + 1 ≤ 400; omega, fun i u hu => ?_⟩
  rcases Nat.lt_trichotomy i p.length with c | c | c
  · rw [List.getElem?_append_left c] at hu
    exact h.tm i u hu
  · subst c
    rw [List.getElem?_append_right (Nat.le_refl _), Nat.sub_self] at hu
    cases Option.some.inj hu
    exact ⟨o, hd⟩
  · rw [List.getElem?_eq_none (by rw [List.length_append]; show _ + 1 ≤ _; omega)] at hu
    cases hu
/-! ### deeds twice -/
theorem doM_twice {n : Nat} {ss : List Int} (hs : ss.length = n) {m : Mv} (d : Deed n m) : doM (doM ss m) m = ss := by
  have h1 := d.ab
  have h2 := d.bn
  have ha : m.2.1 < ss.length := by omega
  have hb : m.2.2 < ss.length := by omega
  have key : ∀ j ∈ m.1, gz ((ss.set m.2.1 (gz ss (m.2.2 : Nat))).set m.2.2 (gz ss (m.2.1 : Nat))) ((j : Nat) : Int) = gz ss ((j : Nat) : Int) := fun j hj => by
    have n1 : m.2.1 ≠ j := fun z => d.na (by rw [z]; exact hj)
    have n2 : m.2.2 ≠ j := fun z => d.nb (by rw [z]; exact hj)
    unfold gz
    simp only [Int.toNat_natCast]
    rw [List.getD_eq_getElem?_getD, List.getElem?_set_ne n2, List.getElem?_set_ne n1, ← List.getD_eq_getElem?_getD]
  unfold doM
  by_cases c : (m.1.map fun (x : Nat) => (x : Int)).any (fun j => !decide (gz ss j = 0)) = true
  · have e : exch ss (m.1.map fun (x : Nat) => (x : Int)) (m.2.1 : Nat) (m.2.2 : Nat) = ss := by unfold exch; rw [if_pos c]
    rw [e, e]
  · have e : exch ss (m.1.map fun (x : Nat) => (x : Int)) (m.2.1 : Nat) (m.2.2 : Nat) = (ss.set m.2.1 (gz ss (m.2.2 : Nat))).set m.2.2 (gz ss (m.2.1 : Nat)) := by unfold exch; rw [if_neg c]; rfl
    rw [e]
    have c2 : ¬ (m.1.map fun (x : Nat) => (x : Int)).any (fun j => !decide (gz ((ss.set m.2.1 (gz ss (m.2.2 : Nat))).set m.2.2 (gz ss (m.2.1 : Nat))) j = 0)) = true := fun z => c (by
      rw [List.any_eq_true] at z ⊢
      obtain ⟨x, hx, h⟩ := z
      obtain ⟨j, hj, rfl⟩ := List.mem_map.mp hx
      refine ⟨_, hx, ?_⟩
      rw [key j hj] at h
      exact h)
    unfold exch
    rw [if_neg c2]
    have g : ∀ i : Nat, gz ((ss.set m.2.1 (gz ss (m.2.2 : Nat))).set m.2.2 (gz ss (m.2.1 : Nat))) ((i : Nat) : Int) = if i = m.2.2 then gz ss (m.2.1 : Nat) else if i = m.2.1 then gz ss (m.2.2 : Nat) else gz ss (i : Nat) := fun i => by
      unfold gz
      simp only [Int.toNat_natCast, List.getD_eq_getElem?_getD]
      by_cases c1 : i = m.2.2
      · subst c1
        rw [if_pos rfl, List.getElem?_set_self (by rw [List.length_set]; omega)]
        rfl
      · rw [if_neg c1, List.getElem?_set_ne (fun z => c1 z.symm)]
        by_cases c2 : i = m.2.1
        · subst c2
          rw [if_pos rfl, List.getElem?_set_self ha]
          rfl
        · rw [if_neg c2, List.getElem?_set_ne (fun z => c2 z.symm)]
    rw [g, g, if_pos rfl, if_neg (by omega), if_pos rfl]
    refine List.ext_getElem? fun i => ?_
    have e0 : ∀ (j : Nat), j < ss.length → some (gz ss (j : Nat)) = ss[j]? := fun j hj => by
      unfold gz
      rw [Int.toNat_natCast, List.getD_eq_getElem?_getD, List.getElem?_eq_getElem hj]
      rfl
    simp only [Int.toNat_natCast]
    by_cases c1 : m.2.2 = i
    · subst c1
      rw [List.getElem?_set_self (by simp only [List.length_set]; omega), e0 _ hb]
    · rw [List.getElem?_set_ne c1]
      by_cases c2 : m.2.1 = i
      · subst c2
        rw [List.getElem?_set_self (by simp only [List.length_set]; omega), e0 _ ha]
      · rw [List.getElem?_set_ne c2, List.getElem?_set_ne c1, List.getElem?_set_ne c2]
theorem runM_app (a b : List Mv) (ss : List Int) : runM (a ++ b) ss = runM b (runM a ss) := by
  unfold runM
  rw [List.foldl_append]
theorem runM_rev {n : Nat} : ∀ {ms : List Mv} {ss : List Int}, ss.length = n → (∀ m ∈ ms, Deed n m) → runM ms.reverse (runM ms ss) = ss
  | [], _, _, _ => rfl
  | m :: ms, ss, hs, h => by
    rw [List.reverse_cons, runM_app]
    show doM (runM ms.reverse (runM ms (doM ss m))) m = ss
    rw [runM_rev (ss := doM ss m) ((exch_len _ _ _ _).trans hs) fun x hx => h x (List.mem_cons_of_mem _ hx)]
    exact doM_twice hs (h m List.mem_cons_self)
/-- deeds of a term are deeds -/
theorem rel_deeds {n : Nat} : RelM (fun (_ : Unit) (ms : List Mv) => ∀ m ∈ ms, Deed n m) (Deed n) ⟨fun _ => (), fun _ => (), fun _ => (), fun _ _ => ()⟩ movM := by
  refine ⟨fun d hd m hm => ?_, fun as bs h => ?_, fun a b h m hm => h m (List.mem_reverse.mp hm), fun a b k h m hm => ?_⟩
  · have hm : m ∈ [d] := hm
    rw [List.mem_singleton.mp hm]
    exact hd
  · have : ∀ (as : List Unit) (bs : List (List Mv)), RelL (fun (_ : Unit) (ms : List Mv) => ∀ m ∈ ms, Deed n m) as bs → ∀ m ∈ bs.flatten, Deed n m := by
      intro as
      induction as with
      | nil =>
        intro bs h
        cases bs with
        | nil => intro m hm; exact nomatch hm
        | cons b bs => exact h.elim
      | cons a as ih =>
        intro bs h
        cases bs with
        | nil => exact h.elim
        | cons b bs =>
          intro m hm
          rw [List.flatten_cons] at hm
          rcases List.mem_append.mp hm with c | c
          · exact h.1 m c
          · exact ih bs h.2 m c
    exact this as bs h
  · obtain ⟨l, hl, h2⟩ := List.mem_flatten.mp hm
    rw [List.eq_of_mem_replicate hl] at h2
    exact h m h2
end Kr
namespace Kr
open PySem PySem.Spec PyProof.Rows L2
section
variable {P : Program} {w : World} {K : PySem.W.Frag} {mg : Str → Option Value} {base : Heap}
def spCount (n : Nat) : Sp := fun vs H Q _ => ∃ (L : Addr) (v : V) (t : Tm) (ws : List Nat) (W : Nat), vs = [.ref L, v] ∧ H L = some (.lst (ws.map fun a : Nat => V.int (a : Int))) ∧ Dq H v (tmD t) ∧ dep t ≤ n ∧ okTm (fun _ => True) 400 ws.length t ∧ (∀ a ∈ ws, a < 2 ^ W) ∧ W + 110 * n ≤ 900000 ∧ ∀ H', Same H H' → Q (.int ((worth cntM ws t : Nat) : Int)) H'
abbrev nCo : List Str := ["longs", "term", "word", "item"]
theorem scCo : FnScope nCo ["longs", "term"] (defScope sLCount) := ⟨rfl, rfl, rfl, by decide +kernel, rfl, by decide +kernel, by decide +kernel⟩
theorem o_lCount (D0 : Df K mg "_law_count" sLCount ["longs", "term"]) (B : Bi mg) : ∀ n, Ok P w K mg base n "_law_count" ["longs", "term"] (spCount n)
  | 0 => D0.ok fun f fd F => by
    have no : ∀ vs H Q E, ¬ spCount 0 vs H Q E := fun vs H Q E h => by
      obtain ⟨_, _, t, _, _, _, _, _, hd, _⟩ := h
      have := dep_pos t
      omega
    exact ⟨fun vs H Q E h => absurd h (no vs H Q E), fun A outer s H args us vs Q E _ _ _ _ h => absurd h (no vs H Q E)⟩
  | n + 1 => by
    have ih := o_lCount D0 B n
    refine D0.ok fun f fd F => F.ok scCo (fun vs H Q E h => ?_) (fun cdv A outer s H vs Q E hr h => ?_)
    · obtain ⟨_, _, _, _, _, rfl, _⟩ := h
      rfl
    · obtain ⟨L, v, t, ws, W, rfl, hL, hv, hdp, hok, hws, hW, q⟩ := h
      refine ⟨_, pss_cons (ps_set (i := 2) scCo.nd rfl (.inl rfl) (pe_ix ix_tup (pv 1) pe_int (fun _ _ => rfl)))
      (pss_cons (ps_if (pt_cmpR op_eq (pv 2) pe_str (nomark _)) (pss_one (ps_ret pe_int)) pss_nil)
      (pss_cons (ps_if (pt_cmpR op_eq (pv 2) pe_str (nomark _)) (pss_one (ps_ret (pe_callB (cr_sum rfl) (by rfl) B.sum (by decide +kernel) (pa_cons (pe_lc (own := [("item", 3)]) (g := gName 3) (tt := tYes) rfl scCo.nd (pi_tup (pe_ix ix_tup (pv 1) pe_int (fun _ _ => rfl))) (blkOk_by (own := [("item", 3)]) (N := nCo) (sc := defScope sLCount) (by decide +kernel)) (fun _ _ _ _ _ => pg_name (i := 3) scCo.nd rfl (.inl rfl)) (fun _ _ _ _ _ => pts_nil) (fun _ _ _ _ _ => (pe_fn ih hr (by rfl) (pa_cons (pv 0) (pa_cons (pv 3) pa_nil))))) pa_nil)))) pss_nil)
      (pss_cons (ps_if (pt_cmpR op_eq (pv 2) pe_str (nomark _)) (pss_one (ps_ret (pe_ix ix_list (pv 0) (pe_ix ix_tup (pv 1) pe_int (fun _ _ => rfl)) (fun _ _ => rfl)))) pss_nil)
      (pss_one (ps_ret (pe_op op_mulW (pe_fn ih hr (by rfl) (pa_cons (pv 0) (pa_cons (pe_ix ix_tup (pv 1) pe_int (fun _ _ => rfl)) pa_nil))) (pe_ifExp (pt_cmpR op_eq (pv 2) pe_str (nomark _)) (pe_ix ix_tup (pv 1) pe_int (fun _ _ => rfl)) pe_int))))))), ?_⟩
      cases t with
      | doo d =>
        simp only [tmD] at hv
        obtain ⟨a, xs, rfl, ha, qx⟩ := Dq.tup_inv hv
        cases qx with
        | cons q1 qx =>
        cases q1
        refine ⟨.ref a, rfl, a, _, ((0 : Nat) : Int), _, rfl, rfl, SqT.of ha, atI_nat (j := 0) rfl, ?_⟩
        dsimp only [tNext]
        refine ⟨_, rfl, rfl, _, rfl, ?_⟩
        rw [decide_eq_true rfl]
        refine iteT ?_
        have := q H (Same.refl _)
        simp only [worth] at this
        exact this
      | part j =>
        simp only [tmD] at hv
        simp only [okTm] at hok
        obtain ⟨a, xs, rfl, ha, qx⟩ := Dq.tup_inv hv
        cases qx with
        | cons q1 qx =>
        cases qx with
        | cons q2 qx =>
        cases qx
        cases q1
        cases q2
        refine ⟨.ref a, rfl, a, _, ((0 : Nat) : Int), _, rfl, rfl, SqT.of ha, atI_nat (j := 0) rfl, ?_⟩
        dsimp only [tNext]
        refine ⟨_, rfl, rfl, _, rfl, ?_⟩
        rw [decide_eq_false (by decide)]
        refine iteF ?_
        dsimp only [tNext]
        refine ⟨_, rfl, rfl, _, rfl, ?_⟩
        rw [decide_eq_false (by decide)]
        refine iteF ?_
        dsimp only [tNext]
        refine ⟨_, rfl, rfl, _, rfl, ?_⟩
        rw [decide_eq_true rfl]
        have := q H (Same.refl _)
        simp only [worth] at this
        rw [List.getD_eq_getElem?_getD, List.getElem?_eq_getElem hok] at this
        exact iteT ⟨.ref L, rfl, .ref a, rfl, a, _, ((1 : Nat) : Int), _, rfl, rfl, SqT.of ha, atI_nat (j := 1) rfl, L, _, j, _, rfl, rfl, SqL.of hL, atI_nat (by rw [List.getElem?_map, List.getElem?_eq_getElem hok]; rfl), this⟩
      | row ts =>
        simp only [tmD] at hv
        simp only [okTm] at hok
        simp only [dep] at hdp
        obtain ⟨a, xs, rfl, ha, qx⟩ := Dq.tup_inv hv
        cases qx with
        | cons q1 qx =>
        cases qx with
        | cons q2 qx =>
        cases qx
        cases q1
        obtain ⟨b, ys, rfl, hb, qy⟩ := Dq.tup_inv q2
        rw [tmDs_map] at qy
        have hyl : ys.length = ts.length := by rw [qy.len, List.length_map]
        refine ⟨.ref a, rfl, a, _, ((0 : Nat) : Int), _, rfl, rfl, SqT.of ha, atI_nat (j := 0) rfl, ?_⟩
        dsimp only [tNext]
        refine ⟨_, rfl, rfl, _, rfl, ?_⟩
        rw [decide_eq_false (by decide)]
        refine iteF ?_
        dsimp only [tNext]
        refine ⟨_, rfl, rfl, _, rfl, ?_⟩
        rw [decide_eq_true rfl]
        refine iteT ⟨.ref a, rfl, a, _, ((1 : Nat) : Int), _, rfl, rfl, SqT.of ha, atI_nat (j := 1) rfl, b, rfl, ⟨_, SqT.of hb⟩, fun D nD => ?_⟩
        refine lc_it (walk_tup (K := K) (a := b) (xs := ys)) (fun i G => G D = some (.lst ((((ts.take i).map (worth cntM ws)).map fun a : Nat => (a : Int)).map V.int)) ∧ Same H G) ⟨upd_same, same_new nD⟩ (fun _ _ _ ⟨_, sm⟩ => SqT.of (sm _ _ hb)) ?_ ?_
        · rintro i x _ G hi ⟨hD, sm⟩ ⟨rfl, hx⟩
          obtain ⟨d0, hd0, qd⟩ := qy.get hx
          rw [List.getElem?_map] at hd0
          obtain ⟨t, ht, rfl⟩ := Option.map_eq_some_iff.mp hd0
          have htm := List.mem_of_getElem? ht
          have htd : dep t ≤ n := by have := depL_le htm; omega
          refine ⟨rfl, ?_⟩
          dsimp only [tYes]
          rw [if_pos rfl]
          refine ⟨.ref L, rfl, x, rfl, L, x, t, ws, W, rfl, sm _ _ hL, qd.up sm, htd, okTms_mem hok.2 t htm, hws, by omega, fun H' s1 => ?_⟩
          have hD' := s1 _ _ hD
          refine ⟨_, hD', szm (by rw [List.length_map, List.length_map, List.length_map, List.length_take]; omega), ?_, fun c o hc => ?_⟩
          · rw [upd_same, List.take_add_one, ht]
            simp
          · rw [upd_ne (ne_of_none hc nD)]
            exact s1 _ _ (sm _ _ hc)
        · rintro G ⟨hD, sm⟩
          rw [hyl, List.take_length] at hD
          refine ⟨D, _, rfl, SqL.of hD, ?_⟩
          have := q G sm
          simp only [worth] at this
          rw [worthL_map] at this
          rw [sum_castC]
          exact this
      | back t =>
        simp only [tmD] at hv
        simp only [okTm] at hok
        simp only [dep] at hdp
        obtain ⟨a, xs, rfl, ha, qx⟩ := Dq.tup_inv hv
        cases qx with
        | cons q1 qx =>
        cases qx with
        | @cons y _ _ _ q2 qx =>
        cases qx
        cases q1
        have hlt := cnt_lt hws t hok
        refine ⟨.ref a, rfl, a, _, ((0 : Nat) : Int), _, rfl, rfl, SqT.of ha, atI_nat (j := 0) rfl, ?_⟩
        dsimp only [tNext]
        refine ⟨_, rfl, rfl, _, rfl, ?_⟩
        rw [decide_eq_false (by decide)]
        refine iteF ?_
        dsimp only [tNext]
        refine ⟨_, rfl, rfl, _, rfl, ?_⟩
        rw [decide_eq_false (by decide)]
        refine iteF ?_
        dsimp only [tNext]
        refine ⟨_, rfl, rfl, _, rfl, ?_⟩
        rw [decide_eq_false (by decide)]
        refine iteF ?_
        dsimp only [tNext]
        refine ⟨.ref L, rfl, .ref a, rfl, a, _, ((1 : Nat) : Int), _, rfl, rfl, SqT.of ha, atI_nat (j := 1) rfl, L, _, t, ws, W, rfl, hL, q2, by omega, hok, hws, by omega, fun H' s1 => ⟨_, rfl, rfl, _, rfl, ?_⟩⟩
        rw [decide_eq_false (by decide)]
        refine iteF ⟨_, _, rfl, rfl, wide_mul (a := W + 110 * dep t) (b := 1) (by rw [Int.natAbs_natCast]; exact hlt) (by decide) (by have := dep_pos t; omega) (by decide) (by omega), ?_⟩
        have := q H' s1
        simp only [worth] at this
        show Q (V.int (((worth cntM ws t : Nat) : Int) * 1)) H'
        rw [Int.mul_one]
        exact this
      | times t k =>
        simp only [tmD] at hv
        simp only [okTm] at hok
        simp only [dep] at hdp
        obtain ⟨a, xs, rfl, ha, qx⟩ := Dq.tup_inv hv
        cases qx with
        | cons q1 qx =>
        cases qx with
        | @cons y _ _ _ q2 qx =>
        cases qx with
        | cons q3 qx =>
        cases qx
        cases q1
        cases q3
        have hlt := cnt_lt hws t hok.2
        refine ⟨.ref a, rfl, a, _, ((0 : Nat) : Int), _, rfl, rfl, SqT.of ha, atI_nat (j := 0) rfl, ?_⟩
        dsimp only [tNext]
        refine ⟨_, rfl, rfl, _, rfl, ?_⟩
        rw [decide_eq_false (by decide)]
        refine iteF ?_
        dsimp only [tNext]
        refine ⟨_, rfl, rfl, _, rfl, ?_⟩
        rw [decide_eq_false (by decide)]
        refine iteF ?_
        dsimp only [tNext]
        refine ⟨_, rfl, rfl, _, rfl, ?_⟩
        rw [decide_eq_false (by decide)]
        refine iteF ?_
        dsimp only [tNext]
        refine ⟨.ref L, rfl, .ref a, rfl, a, _, ((1 : Nat) : Int), _, rfl, rfl, SqT.of ha, atI_nat (j := 1) rfl, L, _, t, ws, W, rfl, hL, q2, by omega, hok.2, hws, by omega, fun H' s1 => ⟨_, rfl, rfl, _, rfl, ?_⟩⟩
        rw [decide_eq_true rfl]
        refine iteT ⟨.ref a, rfl, a, _, ((2 : Nat) : Int), _, rfl, rfl, SqT.of (s1 _ _ ha), atI_nat (j := 2) rfl, _, _, rfl, rfl, wide_mul (a := W + 110 * dep t) (b := 100) (by rw [Int.natAbs_natCast]; exact hlt) (by rw [Int.natAbs_natCast]; exact Nat.lt_of_le_of_lt hok.1 (by decide +kernel)) (by have := dep_pos t; omega) (by decide) (by omega), ?_⟩
        have := q H' s1
        simp only [worth] at this
        show Q (V.int (((worth cntM ws t : Nat) : Int) * (k : Int))) H'
        rw [← Int.natCast_mul]
        exact this
end
end Kr
namespace Kr
open PySem PySem.Spec PyProof.Rows L2
section
variable {P : Program} {w : World} {K : PySem.W.Frag} {mg : Str → Option Value} {base : Heap}
def spLongs (n : Nat) : Sp := fun vs H Q _ => ∃ (v : V) (p : List Tm), vs = [v] ∧ Dq H v (.tuple (p.map tmD)) ∧ PrOk (fun _ => True) 400 n p ∧ 110 * n * (p.length + 1) ≤ 900000 ∧ ∀ H' r, Same H H' → H r = none → H' r = some (.lst ((wsAll cntM p []).map fun a : Nat => V.int (a : Int))) → Q (.ref r) H'
theorem ws_cnt {D : Mv → Prop} {n : Nat} {p : List Tm} (h : PrOk D 400 n p) : ∀ i, i ≤ p.length → ∀ a ∈ wsAll cntM (p.take i) [], a < 2 ^ (110 * n * i)
  | 0, _, a, ha => by simp [wsAll] at ha
  | i + 1, hi, a, ha => by
    obtain ⟨t, ht⟩ : ∃ t, p[i]? = some t := ⟨_, List.getElem?_eq_getElem (by omega)⟩
    rw [wsAll_take _ ht] at ha
    obtain ⟨o1, o2⟩ := h.tm i t ht
    have ih := ws_cnt h i (by omega)
    have hl : (wsAll cntM (p.take i) []).length = i := by
      rw [wsAll_len, List.length_take]
      show 0 + _ = _
      omega
    rcases List.mem_append.mp ha with c | c
    · exact Nat.lt_of_lt_of_le (ih a c) (Nat.pow_le_pow_right (by decide) (Nat.mul_le_mul_left _ (Nat.le_succ i)))
    · rw [List.mem_singleton.mp c]
      refine Nat.lt_of_lt_of_le (cnt_lt ih t (by rw [hl]; exact okTm_mono (fun _ _ => trivial) (Nat.le_refl _) (Nat.le_refl _) t o1)) (Nat.pow_le_pow_right (by decide) ?_)
      rw [Nat.mul_succ]
      exact Nat.add_le_add_left (Nat.mul_le_mul_left _ o2) _
abbrev n_lLongs : List Str := ["program", "longs", "term"]
theorem sc_lLongs : FnScope n_lLongs ["program"] (defScope sLLongs) := ⟨rfl, rfl, rfl, by decide +kernel, rfl, by decide +kernel, by decide +kernel⟩
theorem o_lLongs {n : Nat} (D0 : Df K mg "_law_longs" sLLongs ["program"]) (B : Bi mg) (co : Ok P w K mg base (n) "_law_count" ["longs", "term"] (spCount n)) : Ok P w K mg base (n+1) "_law_longs" ["program"] (spLongs n) := by
  refine D0.ok fun f fd F => F.ok sc_lLongs (fun vs H Q E h => ?_) (fun cdv A outer s H vs Q E hr h => ?_)
  · obtain ⟨_, _, rfl, _⟩ := h
    rfl
  · obtain ⟨v, p, rfl, hv, hp, hW, q⟩ := h
    have hr_co := hr.mono (show (n) ≤ (n+1) - 1 by omega)
    have hu : (cxOf CX0 P w K mg base n_lLongs "_law_longs" (defScope sLLongs) f cdv A outer s H E).A.units + 64 < cLine := hr.units
    have hu1 := hu_of hr
    refine ⟨_, pss_cons (ps_set (i := 1) sc_lLongs.nd rfl (.inl rfl) (pe_lst pa_nil))
      (pss_cons (ps_for PassesOwn.never rfl (pi_tup (pv 0)) (pg_name (i := 2) sc_lLongs.nd rfl (.inl rfl))
        (pss_one (ps_expr (pe_bm PySem.F.plainAttrs_list PySem.F.slot_list_append PySem.F.type_list_append mt_append (pv 1) (pa_cons (pe_fn co hr_co (by rfl) (pa_cons (pv 1) (pa_cons (pv 2) pa_nil))) pa_nil)))))
      (pss_one (ps_ret (pv 1)))), ?_⟩
    obtain ⟨pa, ys, rfl, hpa, qy⟩ := hv.tup_inv
    have hyl : ys.length = p.length := by rw [qy.len, List.length_map]
    have hpl := hp.len
    refine sq_asg ⟨by show 0 ≤ sizeLine; decide, fun R nR => ?_⟩
    have s0 := same_new (o := .lst []) nR
    have hR0 : upd H R (.lst []) R = some (.lst []) := upd_same
    generalize upd H R (.lst []) = H0 at s0 hR0
    refine ⟨.ref pa, rfl, pa, rfl, ⟨ys, SqT.of (s0 _ _ hpa)⟩, for_it (walk_tup (K := K) (a := pa) (xs := ys)) (fun i σ G => ∃ (v2 : Option V), σ = [some (.ref pa), some (.ref R), v2] ∧ Same H G ∧ G R = some (.lst ((wsAll cntM (p.take i) []).map fun a : Nat => V.int (a : Int)))) ⟨none, rfl, s0, hR0⟩ (fun _ _ _ _ ⟨_, _, sm, _⟩ => SqT.of (sm _ _ hpa)) ?_ ?_⟩
    · rintro i x σ _ G hi ⟨v2, rfl, sm, hR⟩ ⟨rfl, hx⟩
      obtain ⟨d0, hd0, qd⟩ := qy.get hx
      rw [List.getElem?_map] at hd0
      obtain ⟨t, ht, rfl⟩ := Option.map_eq_some_iff.mp hd0
      obtain ⟨o1, o2⟩ := hp.tm i t ht
      have hwl : (wsAll cntM (p.take i) []).length = i := by
        rw [wsAll_len, List.length_take]
        show 0 + _ = _
        omega
      have hb := ws_cnt hp i (by omega)
      have hW2 : 110 * n * i + 110 * n ≤ 900000 := by
        have : 110 * n * (i + 1) ≤ 110 * n * (p.length + 1) := Nat.mul_le_mul_left _ (by omega)
        rw [Nat.mul_succ] at this
        omega
      refine one_drop ?_
      refine ⟨.ref R, rfl, .inl ⟨rfl, _, SqL.of hR⟩, .ref R, rfl, x, rfl, R, x, t, _, 110 * n * i, rfl, hR, qd.up sm, o2, by rw [hwl]; exact o1, hb, hW2, fun G1 s1 => ?_⟩
      have hR1 := s1 _ _ hR
      refine ⟨R, _, _, rfl, rfl, hR1, szl (by rw [List.length_map, hwl]; omega), some x, rfl, fun c o hc => ?_, ?_⟩
      · rw [upd_ne (ne_of_none hc nR)]
        exact s1 _ _ (sm _ _ hc)
      · rw [upd_same, wsAll_take _ ht, List.map_append]
        rfl
    · rintro σ G ⟨v2, rfl, sm, hR⟩
      rw [hyl, List.take_length] at hR
      exact ⟨.ref R, rfl, q G R sm nR hR⟩
end
end Kr
namespace Kr
open PySem PySem.Spec PyProof.Rows L2
/-- the deeds keep what lies there -/
theorem doM_perm {n : Nat} {ss : List Int} (hs : ss.length = n) {m : Mv} (d : Deed n m) : (doM ss m).Perm ss := by
  have h1 := d.ab
  have h2 := d.bn
  unfold doM exch
  split
  · exact .refl _
  · unfold gz
    simp only [Int.toNat_natCast]
    have ha : m.2.1 < ss.length := by omega
    have hb : m.2.2 < ss.length := by omega
    rw [List.getD_eq_getElem?_getD, List.getD_eq_getElem?_getD, List.getElem?_eq_getElem ha, List.getElem?_eq_getElem hb]
    exact List.set_set_perm ha hb
theorem runM_perm {n : Nat} : ∀ {ms : List Mv} {ss : List Int}, ss.length = n → (∀ m ∈ ms, Deed n m) → (runM ms ss).Perm ss
  | [], _, _, _ => .refl _
  | m :: ms, ss, hs, h => (runM_perm (ms := ms) (ss := doM ss m) ((exch_len _ _ _ _).trans hs) fun x hx => h x (List.mem_cons_of_mem _ hx)).trans (doM_perm hs (h m List.mem_cons_self))
def wayM (b : Bool) (ms : List Mv) : List Mv := if b = true then ms.reverse else ms
/-- terms one behind another, maybe none -/
structure PrT (D : Mv → Prop) (r n : Nat) (p : List Tm) : Prop where
  len : p.length ≤ 400
  tm : ∀ (i : Nat) t, p[i]? = some t → okTm D r i t ∧ dep t ≤ n
theorem PrOk.prT {D : Mv → Prop} {r n : Nat} {p : List Tm} (h : PrOk D r n p) : PrT D r n p := ⟨h.len, h.tm⟩
theorem PrT.mono {D D' : Mv → Prop} {r r' n n' : Nat} {p : List Tm} (h : PrT D r n p) (hD : ∀ d, D d → D' d) (hr : r ≤ r') (hn : n ≤ n') : PrT D' r' n' p :=
  ⟨h.len, fun i t ht => ⟨okTm_mono hD hr (Nat.le_refl _) t (h.tm i t ht).1, Nat.le_trans (h.tm i t ht).2 hn⟩⟩
theorem PrT.cases {D : Mv → Prop} {r n : Nat} {p : List Tm} (h : PrT D r n p) : p = [] ∨ PrOk D r n p := by
  cases p with
  | nil => exact .inl rfl
  | cons t ts => exact .inr ⟨Nat.succ_pos _, h.len, h.tm⟩
theorem PrT.of_ws {α β : Type} {R : α → β → Prop} {M : Mea α} {N : Mea β} {D : Mv → Prop} {r n : Nat} (h : RelM R D M N) {p : List Tm} (hp : PrT D r n p) : RelL R (wsAll M p []) (wsAll N p []) := by
  rcases hp.cases with rfl | h2
  · trivial
  · exact RelL.of_ws h h2
theorem PrT.cnt {D : Mv → Prop} {n : Nat} {p : List Tm} (hp : PrT D 400 n p) (i : Nat) (hi : i ≤ p.length) : ∀ a ∈ wsAll cntM (p.take i) [], a < 2 ^ (110 * n * i) := by
  rcases hp.cases with rfl | h2
  · intro a ha
    simp [wsAll] at ha
  · exact ws_cnt h2 i hi
theorem way_flat (b : Bool) (ls : List (List Mv)) : wayM b ls.flatten = ((if b = true then ls.reverse else ls).map (wayM b)).flatten := by
  cases b with
  | true =>
    simp only [wayM, if_true]
    rw [List.reverse_flatten, List.map_reverse]
    rfl
  | false =>
    have : (wayM false : List Mv → List Mv) = id := by funext x; rfl
    rw [this]
    simp
theorem way_rep (b : Bool) (k : Nat) (a : List Mv) : wayM b (List.replicate k a).flatten = (List.replicate k (wayM b a)).flatten := by
  rw [way_flat]
  cases b <;> simp
theorem way_not (b : Bool) (a : List Mv) : wayM (!b) a = wayM b a.reverse := by
  cases b <;> simp [wayM]
theorem way_nil (b : Bool) : wayM b [] = [] := by cases b <;> rfl
theorem way_deeds {n : Nat} {b : Bool} {a : List Mv} (h : ∀ m ∈ a, Deed n m) : ∀ m ∈ wayM b a, Deed n m := fun m hm => by
  cases b with
  | true => exact h m (List.mem_reverse.mp hm)
  | false => exact h m hm
theorem le_sum : ∀ {as : List Nat} {a : Nat}, a ∈ as → a ≤ as.sum
  | b :: as, a, h => by
    rw [List.sum_cons]
    rcases List.mem_cons.mp h with rfl | h
    · omega
    · have := le_sum h; omega
theorem deed_inv' {H : Hp} {v : V} {d : Mv} (h : Dq H v (deedD d)) : ∃ a q, v = .ref a ∧ H a = some (.tup [.ref q, .int (d.2.1 : Nat), .int (d.2.2 : Nat)]) ∧ H q = some (.tup (lv d.1)) := by
  obtain ⟨a, xs, rfl, ha, qx⟩ := Dq.tup_inv h
  cases qx with
  | cons q1 qx =>
  cases qx with
  | cons q2 qx =>
  cases qx with
  | cons q3 qx =>
  cases qx
  cases q2
  cases q3
  obtain ⟨q, ys, rfl, hq, qy⟩ := Dq.tup_inv q1
  refine ⟨a, q, rfl, ha, ?_⟩
  have e : d.1.map (fun (x : Nat) => PyData.int (x : Int)) = (d.1.map fun (x : Nat) => (x : Int)).map PyData.int := by rw [List.map_map]; rfl
  rw [e] at qy
  rw [hq, dqa_int qy, List.map_map]
  rfl
section
variable {K : PySem.W.Frag} {σ : L2.St} {H : Hp} {i : Nat} {w x : Str} {t u : L2.TS} {D : Ends}
theorem sq_sno (hv : σ[i]? = some (some (.str w))) (hne : decide (V.str w = V.str x) = false) (h : u D σ H) : tSeq (tIfS (tTest (tOp rEq (tVar i) (tC (.str x)))) t tNext) u D σ H := ⟨_, hv, rfl, _, rfl, by rw [hne]; exact iteF h⟩
theorem sq_syes (hv : σ[i]? = some (some (.str w))) (h : t (nxD D u) σ H) : tSeq (tIfS (tTest (tOp rEq (tVar i) (tC (.str w)))) t tNext) u D σ H := ⟨_, hv, rfl, _, rfl, by rw [decide_eq_true rfl]; exact iteT h⟩
end
theorem gz_nn {ss : List Int} (h : ∀ z ∈ ss, 0 ≤ z) (j : Int) : 0 ≤ gz ss j := by
  unfold gz
  rw [List.getD_eq_getElem?_getD]
  cases e : ss[j.toNat]? with
  | none => exact Int.le_refl _
  | some z => exact h z (List.mem_of_getElem? e)
section
variable {P : Program} {w : World} {K : PySem.W.Frag} {mg : Str → Option Value} {base : Heap}
def spLed (dd n : Nat) : Sp := fun vs H Q _ => ∃ (pv v sv : V) (L : Addr) (t : Tm) (ps : List Tm) (ss : List Int) (k : Nat) (b : Bool), vs = [pv, .ref L, v, sv, .bl b] ∧ Dq H pv (.tuple (ps.map tmD)) ∧ H L = some (.lst ((wsAll cntM ps []).map fun a : Nat => V.int (a : Int))) ∧ Dq H v (tmD t) ∧ Dq H sv (stD ss) ∧
  PrT (Deed ss.length) 400 dd ps ∧ 110 * dd * ps.length + 110 * n ≤ 900000 ∧ k ≤ ps.length ∧ okTm (Deed ss.length) 400 k t ∧ dep t + dd * k ≤ n ∧ ss.length ≤ 24 ∧ (∀ z ∈ ss, 0 ≤ z) ∧ worth cntM (wsAll cntM ps []) t ≤ 5000 ∧ ∀ H' r, Same H H' → Dq H' r (stD (runM (wayM b (worth movM (wsAll movM ps []) t)) ss)) → Q r H'
abbrev nLl : List Str := ["program", "longs", "term", "standing", "is_back", "word", "lot", "a", "b", "found", "place", "item", "turn"]
theorem scLl : FnScope nLl ["program", "longs", "term", "standing", "is_back"] (defScope sLLed) := ⟨rfl, rfl, rfl, by decide +kernel, rfl, by decide +kernel, by decide +kernel⟩
theorem o_lLed (D0 : Df K mg "_law_led" sLLed ["program", "longs", "term", "standing", "is_back"]) (B : Bi mg) (dd : Nat) (co : ∀ n, Ok P w K mg base n "_law_count" ["longs", "term"] (spCount n)) : ∀ n, Ok P w K mg base (n + 1) "_law_led" ["program", "longs", "term", "standing", "is_back"] (spLed dd n)
  | 0 => D0.ok fun f fd F => by
    have no : ∀ vs H Q E, ¬ spLed dd 0 vs H Q E := fun vs H Q E h => by
      obtain ⟨_, _, _, _, t, _, _, _, _, _, _, _, _, _, _, _, _, _, hd, _⟩ := h
      have := dep_pos t
      omega
    exact ⟨fun vs H Q E h => absurd h (no vs H Q E), fun A outer s H args us vs Q E _ _ _ _ h => absurd h (no vs H Q E)⟩
  | n + 1 => by
    have ih := o_lLed D0 B dd co n
    refine D0.ok fun f fd F => F.ok scLl (fun vs H Q E h => ?_) (fun cdv A outer s H vs Q E hr h => ?_)
    · obtain ⟨_, _, _, _, _, _, _, _, _, rfl, _⟩ := h
      rfl
    · obtain ⟨pgv, v, sv, L, t, ps, ss, k, b, rfl, hpv, hL, hv, hsv, hps, hW, hk, hok, hdp, hn, hss, hct, q⟩ := h
      have hr1 := hr.mono (show n + 1 ≤ n + 1 by omega)
      have hu : (cxOf CX0 P w K mg base nLl "_law_led" (defScope sLLed) f cdv A outer s H E).A.units + 64 < cLine := hr.units
      refine ⟨_, pss_cons (ps_set (i := 5) scLl.nd rfl (.inl rfl) (pe_ix ix_tup (pv 2) pe_int (fun _ _ => rfl)))
      (pss_cons (ps_if (pt_cmpR op_eq (pe_fn (co (n + 1)) hr1 (by rfl) (pa_cons (pv 1) (pa_cons (pv 2) pa_nil))) pe_int (nomark _)) (pss_one (ps_ret (pv 3))) pss_nil)
      (pss_cons (ps_if (pt_cmpR op_eq (pv 5) pe_str (nomark _)) (pss_cons (ps_asg (pe_ix ix_tup (pv 2) pe_int (fun _ _ => rfl)) (pg_tup rfl (pgs_cons (pg_name (i := 6) scLl.nd rfl (.inl rfl)) (pgs_cons (pg_name (i := 7) scLl.nd rfl (.inl rfl)) (pgs_cons (pg_name (i := 8) scLl.nd rfl (.inl rfl)) pgs_nil)))))
        (pss_cons (ps_set (i := 9) scLl.nd rfl (.inl rfl) (pe_callTy call_list_of (by rfl) B.list (by decide +kernel) (pa_cons (pv 3) pa_nil)))
        (pss_cons (ps_if (pt_cmpR (op_eqN hu) (pe_lc (own := [("place", 10)]) (g := gName 10) rfl scLl.nd (pi_tup (pv 6)) (blkOk_by (own := [("place", 10)]) (N := nLl) (sc := defScope sLLed) (by decide +kernel)) (fun _ _ _ _ _ => pg_name (i := 10) scLl.nd rfl (.inl rfl)) (fun _ _ _ _ _ => pts_one (pt_cmpR op_gt (pe_ix (r := rIxT K) ix_tup (pv 3) (pv 10) (fun _ _ => rfl)) pe_int (nomark _))) (fun _ _ _ _ _ => pe_int)) (pe_lst pa_nil) (nomark _)) (pss_one (ps_asg (pe_tup (pa_cons (pe_ix ix_tup (pv 3) (pv 8) (fun _ _ => rfl)) (pa_cons (pe_ix ix_tup (pv 3) (pv 7) (fun _ _ => rfl)) pa_nil))) (pg_tup rfl (pgs_cons (pg_sub (pv 9) (pv 7) set_list) (pgs_cons (pg_sub (pv 9) (pv 8) set_list) pgs_nil))))) pss_nil)
        (pss_one (ps_ret (pe_callTy call_tuple_of (by rfl) B.tuple (by decide +kernel) (pa_cons (pv 9) pa_nil))))))) pss_nil)
      (pss_cons (ps_if (pt_cmpR op_eq (pv 5) pe_str (nomark _)) (pss_cons (ps_for PassesOwn.never rfl (pi_tup (pe_ifExp (pt_val (pv 4)) (pe_revT (pe_ix ix_tup (pv 2) pe_int (fun _ _ => rfl))) (pe_ix ix_tup (pv 2) pe_int (fun _ _ => rfl)))) (pg_name (i := 11) scLl.nd rfl (.inl rfl))
          (pss_one (ps_set (i := 3) scLl.nd rfl (.inr rfl) (pe_fn ih hr (by rfl) (pa_cons (pv 0) (pa_cons (pv 1) (pa_cons (pv 11) (pa_cons (pv 3) (pa_cons (pv 4) pa_nil)))))))))
        (pss_one (ps_ret (pv 3)))) pss_nil)
      (pss_cons (ps_if (pt_cmpR op_eq (pv 5) pe_str (nomark _)) (pss_cons (ps_for PassesOwn.never rfl (pi_range1 (by rfl) B.range (pa_cons (pe_ix ix_tup (pv 2) pe_int (fun _ _ => rfl)) pa_nil)) (pg_name (i := 12) scLl.nd rfl (.inl rfl))
          (pss_one (ps_set (i := 3) scLl.nd rfl (.inr rfl) (pe_fn ih hr (by rfl) (pa_cons (pv 0) (pa_cons (pv 1) (pa_cons (pe_ix ix_tup (pv 2) pe_int (fun _ _ => rfl)) (pa_cons (pv 3) (pa_cons (pv 4) pa_nil)))))))))
        (pss_one (ps_ret (pv 3)))) pss_nil)
      (pss_cons (ps_if (pt_cmpR op_eq (pv 5) pe_str (nomark _)) (pss_one (ps_ret (pe_fn ih hr (by rfl) (pa_cons (pv 0) (pa_cons (pv 1) (pa_cons (pe_ix ix_tup (pv 2) pe_int (fun _ _ => rfl)) (pa_cons (pv 3) (pa_cons (pe_not (pv 4)) pa_nil)))))))) pss_nil)
      (pss_one (ps_ret (pe_fn ih hr (by rfl) (pa_cons (pv 0) (pa_cons (pv 1) (pa_cons (pe_ix ix_tup (pv 0) (pe_ix ix_tup (pv 2) pe_int (fun _ _ => rfl)) (fun _ _ => rfl)) (pa_cons (pv 3) (pa_cons (pv 4) pa_nil))))))))))))), ?_⟩
      have hps' : PrT (fun _ => True) 400 dd ps := hps.mono (fun _ _ => trivial) (Nat.le_refl _) (Nat.le_refl _)
      have hcl : (wsAll cntM ps []).length = ps.length := by rw [wsAll_len]; show 0 + _ = _; omega
      have hml : (wsAll movM ps []).length = ps.length := by rw [wsAll_len]; show 0 + _ = _; omega
      have hcw : ∀ a ∈ wsAll cntM ps [], a < 2 ^ (110 * dd * ps.length) := fun a ha => by
        have := PrT.cnt hps' ps.length (Nat.le_refl _)
        rw [List.take_length] at this
        exact this a ha
      have rl := PrT.of_ws rel_cnt hps'
      have hcm : ∀ (t : Tm), okTm (Deed ss.length) 400 k t → worth cntM (wsAll cntM ps []) t = (worth movM (wsAll movM ps []) t).length := fun t o => rel_cnt.worth rl t (okTm_mono (fun _ _ => trivial) (Nat.le_refl _) (Nat.le_refl _) t o)
      have hmd : ∀ (t : Tm), okTm (Deed ss.length) 400 k t → ∀ m ∈ worth movM (wsAll movM ps []) t, Deed ss.length m := fun t o => rel_deeds.worth (PrT.of_ws rel_deeds hps) t o
      have call : ∀ (te2 te4 : TE) (σ : L2.St) (t : Tm) (k' : Nat) (x : V) (G : Hp) (ss' : List Int) (sx : V) (b' : Bool) (Q' : VK), σ[0]? = some (some pgv) → σ[1]? = some (some (.ref L)) → σ[3]? = some (some sx) → (∀ Q2 : VK, Q2 x G → te2 σ G Q2) → (∀ Q2 : VK, Q2 (.bl b') G → te4 σ G Q2) → Same H G → Dq G x (tmD t) → Dq G sx (stD ss') → ss'.Perm ss → k' ≤ ps.length → okTm (Deed ss.length) 400 k' t → dep t + dd * k' ≤ n → worth cntM (wsAll cntM ps []) t ≤ 5000 → (∀ H' r, Same G H' → Dq H' r (stD (runM (wayM b' (worth movM (wsAll movM ps []) t)) ss')) → Q' r H') → tCall (spLed dd n) [] E0 (tCons (tVar 0) (tCons (tVar 1) (tCons te2 (tCons (tVar 3) (tCons te4 tNil))))) σ G Q' := fun te2 te4 σ t k' x G ss' sx b' Q' e0 e1 e3 e2 e4 sm qx qs hp hk' o1 d1 c1 h =>
        ⟨_, e0, _, e1, e2 _ ⟨_, e3, e4 _ ⟨pgv, x, sx, L, t, ps, ss', k', b', rfl, hpv.up sm, sm _ _ hL, qx, qs, by rw [hp.length_eq]; exact hps, by omega, hk', by rw [hp.length_eq]; exact o1, d1, by rw [hp.length_eq]; exact hn, fun z hz => hss z (hp.subset hz), c1, h⟩⟩⟩
      have cnt0 : ∀ (a : Addr) (wd : Str) (xs : List V) (D : Ends) (u : L2.TS) (σ : L2.St), v = .ref a → H a = some (.tup (.str wd :: xs)) → σ[1]? = some (some (.ref L)) → σ[2]? = some (some v) → σ[3]? = some (some sv) → D.rt = Q → (∀ G, Same H G → worth cntM (wsAll cntM ps []) t ≠ 0 → u D σ G) → tSeq (tIfS (tTest (tOp rEq (tCall (spCount (n + 1)) [] E0 (tCons (tVar 1) (tCons (tVar 2) tNil))) (tC (.int 0)))) (tRet (tVar 3)) tNext) u D σ H := fun a wd xs D u σ ev ha e1 e2 e3 eD hu => by
        have e3' := e3
        refine sq_if ?_
        refine ⟨_, e1, _, e2, L, v, t, _, 110 * dd * ps.length, rfl, hL, hv, by have := Nat.zero_le (dd * k); omega, by rw [hcl]; exact okTm_mono (fun _ _ => trivial) (Nat.le_refl _) hk t hok, hcw, by omega, fun G s1 => ⟨rfl, _, rfl, ite2 (fun c => ?_) (fun c => ?_)⟩⟩
        · have c0 : worth cntM (wsAll cntM ps []) t = 0 := by
            have := V.int.inj (of_decide_eq_true c)
            omega
          have em : worth movM (wsAll movM ps []) t = [] := List.eq_nil_of_length_eq_zero (by rw [← hcm t hok]; exact c0)
          rw [em, way_nil] at q
          refine ⟨_, e3, ?_⟩
          show D.rt sv G
          rw [eD]
          exact q G sv s1 (hsv.up s1)
        · exact hu G s1 fun z => c (decide_eq_true (by rw [z]; rfl))
      obtain ⟨sa, sxs, rfl, hsa, qsa⟩ := hsv.tup_inv
      have hsxs := dqa_int qsa
      subst hsxs
      have rest : ∀ (a : Addr) (wd : Str) (xs : List V) (D : Ends) (u : L2.TS), v = .ref a → H a = some (.tup (.str wd :: xs)) → D.rt = Q → (∀ G, Same H G → worth cntM (wsAll cntM ps []) t ≠ 0 → u D [some pgv, some (.ref L), some (.ref a), some (.ref sa), some (.bl b), some (.str wd), none, none, none, none, none, none, none] G) → tSeq (tAsg (tOp (rIxT K) (tVar 2) (tC (.int 0))) (gName 5)) (tSeq (tIfS (tTest (tOp rEq (tCall (spCount (n + 1)) [] E0 (tCons (tVar 1) (tCons (tVar 2) tNil))) (tC (.int 0)))) (tRet (tVar 3)) tNext) u) D [some pgv, some (.ref L), some v, some (.ref sa), some (.bl b), none, none, none, none, none, none, none, none] H := fun a wd xs D u ev ha eD h => by
        subst ev
        refine sq_asg (rix rfl ha rfl (j := 0) rfl ?_)
        exact cnt0 a wd xs _ _ _ rfl ha rfl rfl rfl eD h
      cases t with
      | doo d =>
        simp only [okTm] at hok
        obtain ⟨a, x, rfl, ha, qd⟩ := tm_doo hv
        refine rest a "do" [x] _ _ rfl ha rfl fun G s1 hne => ?_
        refine sq_syes rfl ?_
        obtain ⟨da, qa, rfl, hda0, hqa0⟩ := deed_inv' qd
        have hda := s1 _ _ hda0
        have hqa := s1 _ _ hqa0
        refine rix rfl (s1 _ _ ha) rfl (j := 1) rfl ⟨da, _, rfl, SqT.of hda, rfl, _, _, rfl, _, _, rfl, _, [], rfl, rfl, ?_⟩
        have hsa1 := s1 _ _ hsa
        dsimp only
        refine sq_asg ?_
        refine ⟨.ref sa, rfl, sa, _, rfl, .inr (SqT.of hsa1), fun fo nfo => ?_⟩
        have hR := hok.inR (show ss.length ≤ 1000 by omega)
        have hll := hok.asc.len
        have hfo := upd_same (H := G) (a := fo) (o := .lst (ss.map V.int))
        have snf := same_new (o := .lst (ss.map V.int)) nfo
        have hqa2 := snf _ _ hqa
        have s2 := s1.trans snf
        generalize upd G fo (.lst (ss.map V.int)) = G2 at hfo s2 hqa2
        have nfo0 : H fo = none := s1.free nfo
        have hsa2 := s2 _ _ hsa
        refine sq_if ?_
        have elv : lv d.1 = (d.1.map fun (x : Nat) => (x : Int)).map V.int := by unfold lv; rw [List.map_map]; rfl
        rw [elv] at hqa2
        have eq0 : runM (wayM b (worth movM (wsAll movM ps []) (.doo d))) ss = exch ss (d.1.map fun (x : Nat) => (x : Int)) (d.2.1 : Nat) (d.2.2 : Nat) := by
          simp only [worth]
          cases b <;> rfl
        rw [eq0] at q
        have lotl : (d.1.map fun (x : Nat) => (x : Int)).length ≤ 24 := by rw [List.length_map]; omega
        generalize d.1.map (fun (x : Nat) => (x : Int)) = lot at hR hqa2 q lotl
        clear eq0 elv
        refine ⟨.ref qa, rfl, qa, rfl, ⟨_, SqT.of hqa2⟩, fun D nD => ?_⟩
        refine lc_it (walk_tup (K := K) (a := qa) (xs := lot.map V.int)) (fun i G3 => ∃ m : Nat, G3 D = some (.lst (List.replicate m (.int 1))) ∧ Same G2 G3 ∧ m ≤ i ∧ (decide (m = 0) = !(lot.take i).any fun j => !decide (gz ss j = 0))) ⟨0, upd_same, same_new nD, Nat.le_refl _, rfl⟩ (fun i G3 _ ⟨_, _, sm, _⟩ => SqT.of (sm _ _ hqa2)) ?_ ?_
        · rintro i x _ G3 hi ⟨m, hD, sm, hmi, hm⟩ ⟨rfl, hx⟩
          obtain ⟨z, hz, hzm, rfl⟩ := mem_map_int hx
          obtain ⟨z0, z1⟩ := hR.rng z hzm
          rw [List.length_map] at hi
          have hnn := gz_nn hss z
          have eany : (lot.take (i + 1)).any (fun j => !decide (gz ss j = 0)) = ((lot.take i).any (fun j => !decide (gz ss j = 0)) || !decide (gz ss z = 0)) := by
            rw [List.take_add_one, hz, List.any_append]
            simp
          refine ⟨rfl, .ref sa, rfl, .int z, rfl, sa, _, z, _, rfl, rfl, SqT.of (sm _ _ hsa2), at_gz z0 z1, _, _, rfl, rfl, _, rfl, ite2 (fun c => ?_) (fun c => ?_)⟩
          · have c1 : (0 : Int) < gz ss z := of_decide_eq_true c
            refine ⟨_, hD, szl (by rw [List.length_replicate]; omega), m + 1, ?_, fun b o hb => ?_, by omega, ?_⟩
            · rw [upd_same, List.replicate_succ']
            · rw [upd_ne (ne_of_none hb nD)]
              exact sm _ _ hb
            · rw [eany, decide_eq_false (show ¬ m + 1 = 0 by omega), decide_eq_false (show ¬ gz ss z = 0 by omega)]
              simp
          · have c1 : gz ss z = 0 := by
              have : ¬ (0 : Int) < gz ss z := fun z => c (decide_eq_true z)
              omega
            refine ⟨m, hD, sm, by omega, ?_⟩
            rw [eany, decide_eq_true c1, hm]
            simp
        · rintro G3 ⟨m, hD, sm, hmi, hm⟩
          rw [List.length_map, List.take_length] at hm
          refine ⟨by show 0 ≤ sizeLine; decide, fun e ne => ⟨D, e, _, rfl, rfl, (same_new ne) _ _ hD, upd_same, _, rfl, ?_⟩⟩
          have sE := sm.trans (same_new (o := .lst []) ne)
          generalize upd G3 e (.lst []) = G4 at sE
          have eE : (List.replicate m (V.int 1)).isEmpty = decide (m = 0) := by cases m <;> rfl
          rw [eE, hm]
          unfold exch at q
          have hfo4 := sE _ _ hfo
          have hsa4 := sE _ _ hsa2
          cases hany : lot.any fun j => !decide (gz ss j = 0) with
          | true =>
            rw [hany, if_pos rfl] at q
            refine iteF ?_
            dsimp only [tNext]
            refine ⟨.ref fo, rfl, fo, _, rfl, .inl ⟨SqL.of hfo4, fun t nt => q _ _ (s2.trans (sE.trans (same_new nt))) ?_⟩⟩
            exact .tup upd_same (DqA.ints ss)
          | false =>
            rw [hany, if_neg (by decide)] at q
            refine iteT ?_
            obtain ⟨a0, a1⟩ : 0 ≤ (((d.2.1 : Nat) : Int)) ∧ (((d.2.1 : Nat) : Int)) < ss.length := ⟨by omega, by have := hok.ab; have := hok.bn; omega⟩
            obtain ⟨b0, b1⟩ : 0 ≤ (((d.2.2 : Nat) : Int)) ∧ (((d.2.2 : Nat) : Int)) < ss.length := ⟨by omega, by have := hok.bn; omega⟩
            refine ⟨.ref sa, rfl, .int ((d.2.2 : Nat) : Int), rfl, sa, _, _, _, rfl, rfl, SqT.of hsa4, at_gz b0 b1, .ref sa, rfl, .int ((d.2.1 : Nat) : Int), rfl, sa, _, _, _, rfl, rfl, SqT.of hsa4, at_gz a0 a1, by show 2 ≤ sizeLine; decide, fun t nt => ?_⟩
            have st := same_new (o := .tup [.int (gz ss ((d.2.2 : Nat) : Int)), .int (gz ss ((d.2.1 : Nat) : Int))]) nt
            have nft : fo ≠ t := ne_of_none hfo4 nt
            refine ⟨t, _, rfl, SqT.of upd_same, rfl, _, _, rfl, .ref fo, rfl, .int ((d.2.1 : Nat) : Int), rfl, fo, _, _, _, rfl, rfl, st _ _ hfo4, ixn a0 (by rw [List.length_map]; exact a1), _, [], rfl, .ref fo, rfl, .int ((d.2.2 : Nat) : Int), rfl, fo, _, _, _, rfl, rfl, upd_same, ixn b0 (by rw [List.length_set, List.length_map]; exact b1), rfl, ?_⟩
            dsimp only
            refine ⟨.ref fo, rfl, fo, _, rfl, .inl ⟨SqL.of upd_same, fun t2 nt2 => q _ _ (fun c o hc => ?_) (.tup upd_same ?_)⟩⟩
            · have n1 : c ≠ fo := ne_of_none hc nfo0
              refine same_new nt2 _ _ ?_
              rw [upd_ne n1, upd_ne n1]
              exact st _ _ (sE _ _ (s2 _ _ hc))
            · rw [← List.map_set, ← List.map_set]
              exact DqA.ints _
      | part j =>
        simp only [okTm] at hok
        obtain ⟨a, rfl, ha⟩ := tm_prt hv
        refine rest a "part" _ _ _ rfl ha rfl fun G s1 hne => ?_
        refine sq_sno rfl (by decide) (sq_sno rfl (by decide) (sq_sno rfl (by decide) (sq_sno rfl (by decide) ?_)))
        obtain ⟨u, hu2⟩ : ∃ u, ps[j]? = some u := ⟨_, List.getElem?_eq_getElem (by omega)⟩
        obtain ⟨o1, o2⟩ := hps.tm j u hu2
        obtain ⟨pa, ys, rfl, hpa, qy⟩ := (hpv.up s1).tup_inv
        obtain ⟨y, hy, qu⟩ : ∃ y, ys[j]? = some y ∧ Dq G y (tmD u) := by
          have hl := qy.len
          rw [List.length_map] at hl
          obtain ⟨y, hy⟩ : ∃ y, ys[j]? = some y := ⟨_, List.getElem?_eq_getElem (by omega)⟩
          obtain ⟨d, hd, qd⟩ := qy.get hy
          rw [List.getElem?_map, hu2] at hd
          cases Option.some.inj hd
          exact ⟨y, hy, qd⟩
        have hmj : worth movM (wsAll movM ps []) (.part j) = worth movM (wsAll movM ps []) u := by
          simp only [worth]
          rw [List.getD_eq_getElem?_getD, ws_at movM hu2 o1]
          rfl
        have hcj : worth cntM (wsAll cntM ps []) (.part j) = worth cntM (wsAll cntM ps []) u := by
          simp only [worth]
          rw [List.getD_eq_getElem?_getD, ws_at cntM hu2 o1]
          rfl
        rw [hmj] at q
        rw [hcj] at hct
        have hrk : dep u + dd * j ≤ n := by
          have h1 : dd * (j + 1) ≤ dd * k := Nat.mul_le_mul_left _ hok
          rw [Nat.mul_succ] at h1
          simp only [dep] at hdp
          omega
        refine one_ret (call _ _ _ u j y G ss (.ref sa) b Q rfl rfl rfl (fun Q2 kk => ⟨_, rfl, rix rfl (s1 _ _ ha) rfl (j := 1) rfl ⟨pa, ys, j, y, rfl, rfl, SqT.of hpa, atI_nat hy, kk⟩⟩) (fun Q2 kk => ⟨_, rfl, kk⟩) s1 qu (hsv.up s1) (.refl _) (by omega) o1 hrk hct fun H' r s2 h => q H' r (s1.trans s2) h)
      | back t =>
        have hct' : worth cntM (wsAll cntM ps []) t ≤ 5000 := by
          simp only [worth] at hct
          exact hct
        simp only [okTm] at hok
        simp only [dep] at hdp
        obtain ⟨a, x, rfl, ha, qx⟩ := tm_bk hv
        refine rest a "back" _ _ _ rfl ha rfl fun G s1 hne => ?_
        refine sq_sno rfl (by decide) (sq_sno rfl (by decide) (sq_sno rfl (by decide) (sq_syes rfl ?_)))
        have hmj : worth movM (wsAll movM ps []) (.back t) = (worth movM (wsAll movM ps []) t).reverse := by simp only [worth]; rfl
        rw [hmj, ← way_not] at q
        refine one_ret (call _ _ _ t k x G ss (.ref sa) (!b) Q rfl rfl rfl (fun Q2 kk => rix rfl (s1 _ _ ha) rfl (j := 1) rfl kk) (fun Q2 kk => ⟨_, rfl, b, rfl, kk⟩) s1 (qx.up s1) (hsv.up s1) (.refl _) hk hok (by omega) hct' fun H' r s2 h => q H' r (s1.trans s2) h)
      | times t m =>
        simp only [okTm] at hok
        simp only [dep] at hdp
        obtain ⟨a, x, rfl, ha, qx⟩ := tm_tms hv
        refine rest a "times" _ _ _ rfl ha rfl fun G s1 hne => ?_
        have ect : worth cntM (wsAll cntM ps []) (.times t m) = worth cntM (wsAll cntM ps []) t * m := by simp only [worth]; rfl
        rw [ect] at hne hct
        have hc0 : worth cntM (wsAll cntM ps []) t ≠ 0 := fun z => hne (by rw [z, Nat.zero_mul])
        have hm0 : m ≠ 0 := fun z => hne (by rw [z, Nat.mul_zero])
        have hm1 : m ≤ 5000 := Nat.le_trans (Nat.le_mul_of_pos_left m (by omega)) hct
        have hc1 : worth cntM (wsAll cntM ps []) t ≤ 5000 := Nat.le_trans (Nat.le_mul_of_pos_right _ (by omega)) hct
        refine sq_sno rfl (by decide) (sq_sno rfl (by decide) (sq_syes rfl ?_))
        have hde := way_deeds (b := b) (hmd t hok.2)
        have emv : wayM b (worth movM (wsAll movM ps []) (.times t m)) = (List.replicate m (wayM b (worth movM (wsAll movM ps []) t))).flatten := by
          rw [← way_rep]
          simp only [worth]
          rfl
        rw [emv] at q
        refine rix rfl (s1 _ _ ha) rfl (j := 2) rfl ⟨(m : Int), rfl, by omega, by omega, for_it (walk_rg (n := (m : Int).toNat)) (fun i σ G => ∃ (sx : V) (v12 : Option V), σ = [some pgv, some (.ref L), some (.ref a), some sx, some (.bl b), some (.str "times"), none, none, none, none, none, none, v12] ∧ Same H G ∧ Dq G sx (stD (runM (List.replicate i (wayM b (worth movM (wsAll movM ps []) t))).flatten ss))) ⟨.ref sa, none, rfl, s1, hsv.up s1⟩ (fun _ _ _ _ _ => trivial) ?_ ?_⟩
        · rintro i y σ _ G2 hi ⟨sx, v12, rfl, sm, hsx⟩ ⟨rfl, rfl⟩
          refine one_asg ?_
          refine call _ _ _ t k x G2 _ sx b _ rfl rfl rfl (fun Q2 kk => rix rfl (sm _ _ ha) rfl (j := 1) rfl kk) (fun Q2 kk => ⟨_, rfl, kk⟩) sm (qx.up sm) hsx (runM_perm rfl fun m hm => ?_) hk hok.2 (by omega) hc1 fun H' r s2 h => ⟨r, _, rfl, sm.trans s2, ?_⟩
          · obtain ⟨l, hl, h2⟩ := List.mem_flatten.mp hm
            rw [List.eq_of_mem_replicate hl] at h2
            exact hde m h2
          · rw [List.replicate_succ', List.flatten_append, runM_app]
            simpa using h
        · rintro σ G2 ⟨sx, v12, rfl, sm, hsx⟩
          rw [Int.toNat_natCast] at hsx
          dsimp only
          exact ⟨sx, rfl, q G2 sx sm hsx⟩
      | row ts =>
        simp only [okTm] at hok
        simp only [dep] at hdp
        obtain ⟨a, bq, ys, rfl, ha, hb, qy, hyl⟩ := tm_rw hv
        refine rest a "row" _ _ _ rfl ha rfl fun G s1 hne => ?_
        refine sq_sno rfl (by decide) (sq_syes rfl ?_)
        have hcs : ∀ t ∈ ts, worth cntM (wsAll cntM ps []) t ≤ 5000 := fun t ht => by
          refine Nat.le_trans (le_sum (List.mem_map.mpr ⟨t, ht, rfl⟩)) (Nat.le_trans (Nat.le_of_eq ?_) hct)
          simp only [worth]
          rw [worthL_map]
          rfl
        have emv : wayM b (worth movM (wsAll movM ps []) (.row ts)) = ((if b = true then ts.reverse else ts).map fun t => wayM b (worth movM (wsAll movM ps []) t)).flatten := by
          simp only [worth]
          rw [worthL_map]
          show wayM b (List.flatten _) = _
          rw [way_flat]
          cases b
          · simp only [Bool.false_eq_true, if_false, List.map_map]
            rfl
          · simp only [if_true, ← List.map_reverse, List.map_map]
            rfl
        rw [emv] at q
        refine ⟨.bl b, rfl, b, rfl, ifE_join (R := fun v G' => ∃ (c : Addr) (zs : List V), v = .ref c ∧ G' c = some (.tup zs) ∧ Same H G' ∧ DqA G' zs ((if b = true then ts.reverse else ts).map tmD)) ?_ (fun cb Q' kQ => ?_) (fun cb Q' kQ => ?_)⟩
        rotate_left
        · refine rix rfl (s1 _ _ ha) rfl (j := 1) rfl ⟨bq, ys, rfl, SqT.of (s1 _ _ hb), fun p np => kQ _ _ ⟨p, ys.reverse, rfl, upd_same, s1.trans (same_new np), ?_⟩⟩
          rw [if_pos cb, List.map_reverse]
          exact (DqA.rev qy).up (s1.trans (same_new np))
        · refine rix rfl (s1 _ _ ha) rfl (j := 1) rfl (kQ _ _ ⟨bq, ys, rfl, s1 _ _ hb, s1, ?_⟩)
          rw [if_neg cb]
          exact qy.up s1
        have hmem : ∀ t ∈ (if b = true then ts.reverse else ts), t ∈ ts := fun t ht => by
          cases b with
          | true => exact List.mem_reverse.mp ht
          | false => exact ht
        generalize (if b = true then ts.reverse else ts) = us at q hmem
        rintro _ G2 ⟨c, zs, rfl, hc, s2, qz⟩
        have hzl : zs.length = us.length := by rw [qz.len, List.length_map]
        refine ⟨c, rfl, ⟨zs, SqT.of hc⟩, for_it (walk_tup (K := K) (a := c) (xs := zs)) (fun i σ G => ∃ (sx : V) (v11 : Option V), σ = [some pgv, some (.ref L), some (.ref a), some sx, some (.bl b), some (.str "row"), none, none, none, none, none, v11, none] ∧ Same G2 G ∧ Dq G sx (stD (runM ((us.take i).map fun t => wayM b (worth movM (wsAll movM ps []) t)).flatten ss))) ⟨.ref sa, none, rfl, Same.refl _, hsv.up s2⟩ (fun _ _ _ _ ⟨_, _, _, sm, _⟩ => SqT.of (sm _ _ hc)) ?_ ?_⟩
        · rintro i y σ _ G3 hi ⟨sx, v11, rfl, sm, hsx⟩ ⟨rfl, hy⟩
          obtain ⟨d0, hd0, qd⟩ := qz.get hy
          rw [List.getElem?_map] at hd0
          obtain ⟨t, ht, rfl⟩ := Option.map_eq_some_iff.mp hd0
          have htm := hmem t (List.mem_of_getElem? ht)
          have sm2 := s2.trans sm
          refine one_asg ?_
          refine call _ _ _ t k y G3 _ sx b _ rfl rfl rfl (fun Q2 kk => ⟨y, rfl, kk⟩) (fun Q2 kk => ⟨_, rfl, kk⟩) sm2 (qd.up sm) hsx (runM_perm rfl fun m hm => ?_) hk (okTms_mem hok.2 t htm) (by have := depL_le htm; omega) (hcs t htm) fun H' r s3 h => ⟨r, _, rfl, sm.trans s3, ?_⟩
          · obtain ⟨l, hl, h2⟩ := List.mem_flatten.mp hm
            obtain ⟨t', ht', rfl⟩ := List.mem_map.mp hl
            exact way_deeds (hmd t' (okTms_mem hok.2 t' (hmem t' (List.mem_of_mem_take ht')))) m h2
          · rw [List.take_add_one, ht, List.map_append, List.flatten_append, runM_app]
            simpa using h
        · rintro σ G3 ⟨sx, v11, rfl, sm, hsx⟩
          rw [hzl, List.take_length] at hsx
          dsimp only
          exact ⟨sx, rfl, q G3 sx (s2.trans sm) hsx⟩
end
end Kr
namespace Kr
open PySem PySem.Spec PyProof.Rows L2
local macro_rules | `(tactic| walk_at "bq") => `(tactic| repeat' (first | with_reducible refine bqa_nil ?_ | with_reducible refine bqa_cons ?_ | with_reducible refine bq_tup1 ?_ | with_reducible refine bq_tup2 ?_ | with_reducible refine bq_tup3 ?_ | with_reducible refine bq_str ?_ | with_reducible refine bq_c ?_ | with_reducible refine bn_c ?_ | with_reducible refine bn_op ?_))
theorem arg_c {v : V} {ta : TA} {σ : L2.St} {H : Hp} {R : List V → Hp → Prop} (h : ta σ H fun vs H2 => R (v :: vs) H2) : tCons (tC v) ta σ H R := h
theorem arg_fst {te : TE} {ta : TA} {σ : L2.St} {H : Hp} {R : List V → Hp → Prop} (h : te σ H fun v H1 => ta σ H1 fun vs H2 => R (v :: vs) H2) : tCons te ta σ H R := h
theorem one_if {c : TT} {t e : L2.TS} {D : Ends} {σ : L2.St} {H : Hp} (h : c σ H fun b H1 => if b = true then t D σ H1 else e D σ H1) : tIfS c t e D σ H := h
theorem tms_flatM (ts : List Tm) : flatTA (ts.map tmD) = true := by
  have := tms_flat ts
  rwa [tmDs_map] at this
theorem prog_flat (ts : List Tm) : flatT (.tuple (ts.map tmD)) = true := by simpa [flatT] using tms_flatM ts
theorem wsAll_last {α : Type} (M : Mea α) {p : List Tm} (h : 0 < p.length) : wsAll M p [] = (wsAll M p []).take (p.length - 1) ++ [progW M p] := by
  have hl : (wsAll M p []).length = p.length := by rw [wsAll_len]; show 0 + _ = _; omega
  have h2 : p.length - 1 < (wsAll M p []).length := by omega
  have h1 := List.take_append_drop (p.length - 1) (wsAll M p [])
  rw [List.drop_eq_getElem_cons h2, List.drop_eq_nil_of_le (by omega)] at h1
  have e : progW M p = (wsAll M p [])[p.length - 1] := by
    unfold progW
    rw [List.getLastD_eq_getLast?, List.getLast?_eq_getElem?, hl, List.getElem?_eq_getElem h2]
    rfl
  rw [e]
  exact h1.symm
def spFew : Sp := fun vs H Q _ => ∃ (p l : Addr) (many : Nat), vs = [.ref p, .int (many : Int)] ∧ Deck H p l ∧ 3 ≤ many ∧ many ≤ 24 ∧ ∀ H' v ts, Deck H' p l → Ext p l H H' → Dq H' v (.tuple (ts.map tmD)) → PrOk (Deed many) 3 5 ts → itm (.tuple (ts.map tmD)) ≤ 3600 → ts.length ≤ 7 → progW cntM ts < 120 → Q v H'
section
variable {P : Program} {w : World} {K : PySem.W.Frag} {mg : Str → Option Value} {base : Heap}
abbrev n_lFew : List Str := ["deck", "many", "turn", "program"]
theorem sc_lFew : FnScope n_lFew ["deck", "many"] (defScope sLFew) := ⟨rfl, rfl, rfl, by decide +kernel, rfl, by decide +kernel, by decide +kernel⟩
theorem o_lFew (D0 : Df K mg "_law_few" sLFew ["deck", "many"]) (B : Bi mg) (dr : Ok P w K mg base 1 "_law_draw" ["deck", "many"] spDraw) (dd : Ok P w K mg base 3 "_law_deed" ["deck", "many"] spDeed7) (pr : Ok P w K mg base 13 "_law_program" ["deck", "many", "most", "deep", "times"] spProg7) (lo : Ok P w K mg base 6 "_law_longs" ["program"] (spLongs 5)) : Ok P w K mg base 14 "_law_few" ["deck", "many"] spFew := by
  refine D0.ok fun f fd F => F.ok sc_lFew (fun vs H Q E h => ?_) (fun cdv A outer s H vs Q E hr h => ?_)
  · obtain ⟨_, _, _, rfl, _⟩ := h
    rfl
  · obtain ⟨p, l, many, rfl, Dk, m0, m1, q⟩ := h
    have hr_dr := hr.mono (show 1 ≤ 13 by omega)
    have hr_dd := hr.mono (show 3 ≤ 13 by omega)
    have hr_pr := hr.mono (show 13 ≤ 13 by omega)
    have hr_lo := hr.mono (show 6 ≤ 13 by omega)
    have hu : (cxOf CX0 P w K mg base n_lFew "_law_few" (defScope sLFew) f cdv A outer s H E).A.units + 64 < cLine := hr.units
    have hu1 := hu_of hr
    refine ⟨_, pss_cons (ps_for PassesOwn.never rfl (pi_range1 (by rfl) B.range (pa_cons pe_int pa_nil)) (pg_name (i := 2) sc_lFew.nd rfl (.inl rfl))
        (pss_cons (ps_set (i := 3) sc_lFew.nd rfl (.inl rfl) (pe_fn pr hr_pr (by rfl) (pa_cons (pv 0) (pa_cons (pv 1) (pa_cons pe_int (pa_cons pe_int (pa_cons (pe_lst (pa_cons pe_int (pa_cons pe_int (pa_cons pe_int (pa_cons pe_int (pa_cons (pe_fn dr hr_dr (by rfl) (pa_cons (pv 0) (pa_cons pe_int pa_nil))) pa_nil)))))) pa_nil)))))))
        (pss_one (ps_if (pt_cmpR op_lt (pe_ix ix_list (pe_fn lo hr_lo (by rfl) (pa_cons (pv 3) pa_nil)) (pe_un un_neg pe_int) (fun _ _ => rfl)) pe_int (nomark _)) (pss_one (ps_ret (pv 3))) pss_nil))))
      (pss_one (ps_ret (pe_tup (pa_cons (pe_tup (pa_cons pe_str (pa_cons (pe_fn dd hr_dd (by rfl) (pa_cons (pv 0) (pa_cons (pv 1) pa_nil))) pa_nil))) pa_nil)))), ?_⟩
    refine ⟨9, rfl, by decide, by decide, for_it (walk_rg (n := 9)) (fun i σ G => ∃ v2 v3, σ = [some (.ref p), some (.int (many : Int)), v2, v3] ∧ Deck G p l ∧ Ext p l H G) ⟨_, _, rfl, Dk, Ext.rfl⟩ (fun _ _ _ _ _ => trivial) ?_ ?_⟩
    · rintro i x σ _ G hi ⟨v2, v3, rfl, DG, EG⟩ ⟨rfl, rfl⟩
      refine sq_asg ⟨.ref p, rfl, .int (many : Int), rfl, arg_c (arg_c (arg_fst (bq_lst (F := frD p l) (S := fun ds => ∃ x : Nat, ds = [(0 : Int), 1, 2, 3, (x : Int)].map PyData.int ∧ x ≤ 7) (n := 5) ?_ DG Ext.rfl (by decide) fun G1 T vs ds D1 E1 q1 l1 f1 hS nT => ?_)))⟩
      · walk_at "bq"
        refine bq_int (N := fun x => ∃ k : Nat, x = (k : Int) ∧ k ≤ 7) (bn_draw rfl (bn_c ⟨by decide, fun r h0 h1 => ⟨r.toNat, by omega, by omega⟩⟩)) fun x hx => ?_
        obtain ⟨k, rfl, hk⟩ := hx
        walk_at "bq"
        exact ⟨k, rfl, hk⟩
      have D1 : Deck G1 p l := D1
      have E1 : Ext p l G G1 := E1
      obtain ⟨x, rfl, hx⟩ := hS
      have hvs := dqa_int q1
      subst hvs
      obtain ⟨nTp, nTl⟩ := D1.new nT
      have sT := same_new (o := .lst ([(0 : Int), 1, 2, 3, (x : Int)].map V.int)) nT
      have hks : ∀ k ∈ ([0, 1, 2, 3, x] : List Nat), k ≤ 10 ^ 30 := fun k hk => by
        simp only [List.mem_cons, List.not_mem_nil, or_false] at hk
        exact Nat.le_trans (show k ≤ 7 by omega) (by decide +kernel)
      refine ⟨p, l, T, many, 7, 5, [0, 1, 2, 3, x], rfl, D1.up sT, m0, m1, by decide, by decide, by decide, by decide, by rw [hid_ne nTp nTl]; exact upd_same, by simp, by simp, hks, fun G2 v ts D2 E2 hv hp hit hl7 => ?_⟩
      have E02 : Ext p l H G2 := Same.trans EG (Same.trans E1 (Same.trans (Ext.of sT) E2))
      refine one_if ?_
      have hW : 110 * 5 * (ts.length + 1) ≤ 900000 := by omega
      refine ⟨v, rfl, v, ts, rfl, hv, hp.mono (fun _ _ => trivial) (by decide) (Nat.le_refl _), hW, fun G3 L s3 nL hL => ?_⟩
      rw [wsAll_last cntM hp.ne, List.map_append] at hL
      refine ⟨_, rfl, L, _, -1, _, rfl, rfl, SqL.of hL, atI_last _ _, _, _, rfl, rfl, _, rfl, ite2 (fun c => ?_) (fun c => ⟨_, _, rfl, D2.up s3, Same.trans E02 (Ext.of s3)⟩)⟩
      have hc : progW cntM ts < 120 := by
        have : ((progW cntM ts : Nat) : Int) < 120 := of_decide_eq_true c
        omega
      exact one_ret ⟨v, rfl, q G3 v ts (D2.up s3) (Same.trans E02 (Ext.of s3)) (hv.up s3) hp hit hl7 hc⟩
    · rintro σ G ⟨v2, v3, rfl, DG, EG⟩
      dsimp only
      refine one_ret ?_
      refine bq_at (F := frD p l) (H := G) (R := fun d => ∃ md, d = .tuple [tmD (.doo md)] ∧ Deed many md) ?_ DG fun G1 v d D1 E1 q1 f1 hd => ?_
      · walk_at "bq"
        refine (bq_deed rfl rfl m0 m1).mono fun d ⟨md, e, hd⟩ => ?_
        walk_at "bq"
        exact ⟨md, by rw [e]; simp only [tmD], hd⟩
      · obtain ⟨md, rfl, hmd⟩ := hd
        have D1 : Deck G1 p l := D1
        have E1 : Ext p l G G1 := E1
        have hde := deed_itm m1 hmd
        refine q G1 v [.doo md] D1 (Same.trans EG E1) q1 ⟨Nat.one_pos, by simp, fun i t h => ?_⟩ ?_ (by simp) (by show 1 < 120; decide)
        · match i, h with
          | 0, h => cases Option.some.inj h; exact ⟨by simp only [okTm]; exact hmd, by simp only [dep]; omega⟩
          | _ + 1, h => simp at h
        · simp only [List.map_cons, List.map_nil, tmD, itm, itmA, List.length_cons, List.length_nil]
          omega
end
end Kr
namespace Kr
open PySem PySem.Spec PyProof.Rows L2
/-! ### run, table_of, led -/
theorem same_insM {H : Hp} {x dx : Addr} {C : Addr} {fs : List (Str × V)} (hx : H x = none) (hd : H dx = none) : Same H (upd (upd H dx (.own x)) x (.ins C dx fs)) := fun b o e => by
  rw [upd_ne (ne_of_none e hx), upd_ne (ne_of_none e hd)]
  exact e
theorem deed_inv {H : Hp} {v : V} {d : Mv} (h : Dq H v (deedD d)) : ∃ a q, v = .ref a ∧ H a = some (.tup [.ref q, .int (d.2.1 : Nat), .int (d.2.2 : Nat)]) ∧ H q = some (.tup (lv d.1)) := by
  obtain ⟨a, xs, rfl, ha, qx⟩ := Dq.tup_inv h
  cases qx with
  | cons q1 qx =>
  cases qx with
  | cons q2 qx =>
  cases qx with
  | cons q3 qx =>
  cases qx
  cases q2
  cases q3
  obtain ⟨q, ys, rfl, hq, qy⟩ := Dq.tup_inv q1
  refine ⟨a, q, rfl, ha, ?_⟩
  have e : d.1.map (fun (x : Nat) => PyData.int (x : Int)) = (d.1.map fun (x : Nat) => (x : Int)).map PyData.int := by rw [List.map_map]; rfl
  rw [e] at qy
  rw [hq, dqa_int qy, List.map_map]
  rfl
def spRun (CT : Addr) (n : Nat) : Sp := fun vs H Q E => ∃ (v sv : V) (p : List Tm) (ss : List Int) (N : Int), vs = [.int N, v, sv] ∧ Dq H v (.tuple (p.map tmD)) ∧ Dq H sv (stD ss) ∧ ss.length ≤ 1000 ∧ PrOk (Deed ss.length) 400 n p ∧ (∀ ms, progW stepM p = some ms → ∀ H' r, Same H H' → Dq H' r (stD (runM ms ss)) → Q r H') ∧ (progW stepM p = none → ∀ H' d, Same H H' → H' d = none → E (.ref CT) (some d) (upd H' d (.xd [(("limit" : Str), V.int 5000)])))
section
variable {P : Program} {w : World} {K : PySem.W.Frag} {mg : Str → Option Value} {base : Heap}
variable {C CT fI : Addr}
theorem f_run {f : Addr} {fd : FuncData} {n : Nat} (F : Fun K "run" "run" sRun f fd) (B : Bi mg) (M : MkP K C) (mC : mg "StepsMeasure" = some (.ref C)) (T : PySem.TooX.TooTxt K mg CT fI) (hM : ∃ t, mg "MAX_STEPS" = some (.int 5000 t)) (dn : Ok P w K mg base 1 "done" ["standing", "deed"] spDone)
    (pw : ∀ m, Ok P w K mg base (n + 2) "program_worth" ["program", "measure"] (spPW (stepR m) C n)) : FnOk P w K mg base (L2.CX P w) (n + 3) f fd ["n", "program", "standing"] (spRun CT n) := by
  obtain ⟨tM, gM⟩ := hM
  have sc : FnScope ["n", "program", "standing", "deeds", "behind", "deed"] ["n", "program", "standing"] (defScope sRun) := ⟨rfl, rfl, rfl, by decide +kernel, rfl, by decide +kernel, by decide +kernel⟩
  refine F.okX sc (fun vs H Q E h => ?_) (fun cdv A outer s H vs Q E hr h => ?_)
  · obtain ⟨_, _, _, _, _, rfl, _⟩ := h
    rfl
  · obtain ⟨v, sv, p, ss, N, rfl, hv, hsv, hsl, hp, q, qx⟩ := h
    have hr1 := hr.mono (show 1 ≤ n + 2 by omega)
    refine ⟨_, pss_cons (ps_set (i := 3) sc.nd rfl (.inl rfl) (pe_fn (pw ss.length) hr (by rfl) (pa_cons (pv 1) (pa_cons (pe_makeP M (by rfl) mC) pa_nil))))
      (pss_cons (ps_if (pt_cmpR op_isN (pv 3) pe_non (nomark _)) (pss_one (ps_raiseToo rfl T hr1 (takes_of rfl rfl rfl rfl) (pa_cons (pe_glob (v := .int 5000) (by rfl) gM ⟨_, rfl⟩) pa_nil))) pss_nil)
      (pss_cons (ps_set (i := 4) sc.nd rfl (.inl rfl) (pv 2))
      (pss_cons (ps_for (passes_of rfl) rfl (pi_tup (pv 3)) (pg_name (i := 5) sc.nd rfl (.inl rfl))
        (pss_one (ps_set (i := 4) sc.nd rfl (.inl rfl) (pe_fn dn hr1 (by rfl) (pa_cons (pv 4) (pa_cons (pv 5) pa_nil))))))
      (pss_one (ps_ret (pv 4)))))), ?_⟩
    refine ⟨v, rfl, fun x dx hx hd hne => ?_⟩
    have s1 := same_insM (C := C) (fs := []) hx hd
    refine ⟨v, .ref x, p, rfl, ⟨x, dx, [], rfl, upd_same, rfl⟩, hv.up s1, Nat.le_refl _, hp, fun H' r s2 h => ?_⟩
    have h2 : Dq H' r (stepD (progW stepM p)) := h
    have s12 := s1.trans s2
    dsimp only [tNext]
    refine ⟨r, rfl, rfl, _, rfl, ?_⟩
    cases hw : progW stepM p with
    | none =>
      rw [hw] at h2
      cases h2
      exact iteT ⟨_, rfl, fun d hd => qx hw H' d s12 hd⟩
    | some ms =>
      rw [hw] at h2
      obtain ⟨a, xs, rfl, ha, qa⟩ := Dq.tup_inv h2
      refine iteF ?_
      dsimp only [tNext]
      have okm : ∀ m ∈ ms, Deed ss.length m := by
        have h3 := wsAll_ok (stepR ss.length) hp p.length (Nat.le_refl _)
        rw [List.take_length] at h3
        have h4 : progW stepM p ∈ wsAll stepM p [] := by
          unfold progW
          have hl : (wsAll stepM p []).length = p.length := by rw [wsAll_len]; show 0 + _ = _; omega
          have hne := hp.ne
          rw [List.getLastD_eq_getLast?, List.getLast?_eq_getElem?, List.getElem?_eq_getElem (by omega)]
          exact List.getElem_mem _
        exact (h3 _ h4 ms hw).2
      refine ⟨sv, rfl, ?_⟩
      dsimp only [tNext]
      refine ⟨.ref a, rfl, a, rfl, ⟨xs, SqT.of ha⟩, for_it (walk_tup (K := K) (a := a) (xs := xs)) (fun i σ G => ∃ (v4 : V) (v5 : Option V), σ = [some (.int N), some v, some sv, some (.ref a), some v4, v5] ∧ Same H' G ∧ Dq G v4 (stD (runM (ms.take i) ss))) ⟨sv, none, rfl, Same.refl _, hsv.up s12⟩ (fun _ _ _ _ ⟨_, _, _, sm, _⟩ => SqT.of (sm _ _ ha)) ?_ ?_⟩
      · rintro i x σ _ G hi ⟨v4, v5, rfl, sm, h4⟩ ⟨rfl, hx⟩
        obtain ⟨d0, hd0, qd⟩ := qa.get hx
        rw [List.getElem?_map] at hd0
        obtain ⟨m, hm, rfl⟩ := Option.map_eq_some_iff.mp hd0
        obtain ⟨da, la, rfl, e1, e2⟩ := deed_inv (qd.up sm)
        obtain ⟨st, us, rfl, e3, q3⟩ := Dq.tup_inv h4
        have e4 : us = (runM (ms.take i) ss).map V.int := dqa_int q3
        subst e4
        have hdd := okm m (List.mem_of_getElem? hm)
        refine ⟨.ref st, rfl, .ref da, rfl, st, da, la, runM (ms.take i) ss, m.1.map (fun (x : Nat) => (x : Int)), (m.2.1 : Nat), (m.2.2 : Nat), rfl, e3, e1, by rw [e2, List.map_map]; rfl, by rw [runM_len]; exact hdd.inR hsl, by rw [runM_len]; exact hsl, fun G2 t s3 ht => ?_⟩
        refine ⟨.ref t, _, rfl, sm.trans s3, ?_⟩
        have e5 : runM (ms.take (i + 1)) ss = doM (runM (ms.take i) ss) m := by
          unfold runM
          rw [List.take_add_one, hm, List.foldl_append]
          rfl
        rw [e5]
        exact .tup ht (DqA.ints _)
      · rintro σ G ⟨v4, v5, rfl, sm, h4⟩
        have hxl : xs.length = ms.length := by rw [qa.len, List.length_map]
        rw [hxl, List.take_length] at h4
        exact ⟨v4, rfl, q ms hw G v4 (s12.trans sm) h4⟩
end
end Kr
/-! isinstance of a caught error that has a dict of its own -/
namespace PySem.W
open PySem PySem.Spec PySem.Calls PyProof.Rows
section
variable {prog : Program} {w : World} {A : Around} {E : Value → Shared → Prop} {s : Shared} {K : Frag} {x D : Addr} {ox : Obj} {od : Option Obj}
theorem dfind {C : Addr} {nm : Str} {a g : Value} (c1 : (clsIn K C).isSome = true) (c2 : findIn K (.ref C) nm = some (some a)) (c3 : specialIn K a "__get__" = some (some g)) (c4 : takesIn K a = some true) : findObj K C od nm = some (.bind g a) := by
  obtain ⟨cd, e⟩ := Option.isSome_iff_exists.mp c1
  unfold findObj; rw [e, Option.bind_some, c2, Option.bind_some]; simp [c3, c4]
structure DCls (K : Frag) (D : Addr) : Prop where
  ga : findIn K (.ref D) "__getattribute__" = some (some (.builtin "BaseException.__getattribute__"))
  gt : findIn K (.ref D) "__getattr__" = some none
  sb : subIn K (.ref D) (.type "BaseException") = some true
  hd : hasDictIn K D = true
  cl : findIn K (.ref D) "__class__" = some (some (.builtin "object.__class__"))
  sp : specialIn K (.builtin "object.__class__") "__get__" = some (some (.builtin "getset_descriptor.__get__"))
  tk : takesIn K (.builtin "object.__class__") = some true
  mr : mroIn K D (.type "object") = some true
theorem dclass {Q : Option Value → Shared → Prop} (C : DCls K D) (X : K.In s.heap) (I : InstAt s.heap x ox D od) (h : Q (some (.ref D)) { s with toks := s.toks + 1 }) : wpAny (model prog w) A (getAttr? (.ref x) "__class__") Q E s := by
  have hf : findObj K D od "__class__" = some (.bind (.builtin "getset_descriptor.__get__") (.builtin "object.__class__")) := dfind (by obtain ⟨cd, hc, _⟩ := any_some C.hd; rw [hc]; rfl) C.cl C.sp C.tk
  obtain ⟨hp, g, d, t, os⟩ := s
  have La := I.type (M := model prog w)
  have Lb := looks_findIn (M := model prog w) X C.ga
  have Lc := looks_findIn (M := model prog w) X C.gt
  have Ld := looks_find (M := model prog w) X I hf
  have Le : Looks (model prog w) hp (isInstance (.ref x) (.type "BaseException")) true := La.andThen (looks_subIn X C.sb)
  have n0 : (false && onTheHeap (Value.builtin "BaseException.__getattribute__")) = false := rfl
  have n2 : (Value.builtin "BaseException.__getattribute__" == Value.builtin "object.__getattribute__") = false := by decide +kernel
  have n1 : (onTheHeap (Value.ref D) && Value.builtin "BaseException.__getattribute__" == Value.builtin "object.__getattribute__") = false := by rw [n2]; rfl
  unfold getAttr? getAttrBy? getAttrBy
  refine wpAny_bind (wpAny_mkText (wpAny_bind (wpAny_attempt (wpAny_holding (wpAny_bind (La.at (wpAny_bind (Lb.at ?_))))))))
  show wpAny _ _ (if (onTheHeap (Value.ref D) && Value.builtin "BaseException.__getattribute__" == Value.builtin "object.__getattribute__") = true then _ else _) _ _ _; rw [n1, if_neg Bool.false_ne_true]; unfold getAttrByItsOwn hookBefore
  refine wpAny_bind ?_; rw [if_pos (show onTheHeap (Value.ref D) = true from rfl)]
  refine Lc.at (wpAny_bind (wpAny_attempt (wpAny_holding ?_))); unfold callGetattribute
  rw [n0, if_neg Bool.false_ne_true]; unfold boundAndCalled
  rw [PySem.F.excAttr_ValueError.ga.bind (.ref x)]; refine wpAny_bind (wpAny_pure ?_)
  show wpAny _ _ (call (.builtin "BaseException.__getattribute__") [.ref x, .str "__class__" t]) _ _ _; refine wpAny_call (codeAny_call_builtin PySem.F.excAttr_ValueError.ga.plain PySem.F.entry_bexc_ga ?_)
  refine @check_slot (model prog w) _ _ ⟨hp, g, d, t + 1, os⟩ "BaseException.__getattribute__" "BaseException" "__getattribute__" (.ref x) [.str "__class__" t] [] _ (by decide +kernel) (by decide +kernel) Le (PySem.F.args_bexc_ga (.ref x) (.str "__class__" t)) ?_
  unfold Builtin.«object.__getattribute__»; refine wpAny_bind (wpAny_of_eq (a := ((Value.ref x : Value), [Value.str "__class__" t])) (by first | rfl | (simp only [slotArgs]; rfl)) ?_)
  refine wpAny_bind (wpAny_pure (wpAny_bind (La.at (wpAny_bind (Ld.at ?_)))))
  show wpAny _ _ (holding [Value.builtin "object.__class__"] (call (.builtin "getset_descriptor.__get__") [.builtin "object.__class__", .ref x, .ref D]) >>= ret) _ _ _
  refine wpAny_bind (wpAny_holding (wpAny_call (class_get (s := ⟨hp, g, d, t + 1, os⟩) (ox := ox) (od := od) X I C.mr (wpAny_pure ?_))))
  show wpAny _ _ (handedOut (.ref D)) _ _ _; rw [handedOut_of (v := .ref D) rfl]
  first | exact wpAny_pure (wpAny_pure h) | exact wpAny_pure h | exact wpAny_pure (wpAny_bind (wpAny_pure (wpAny_pure h)))
theorem dkit (C : DCls K D) : KitX K (.ref x) (.ref D) (fun h => InstAt h x ox D od) where
  ty := fun _ _ _ I => I.type
  it := fun _ _ X _ => by
    obtain ⟨cdD, hcD, _⟩ := any_some C.hd
    unfold clsIn at hcD
    split at hcD
    · rename_i c' d' cd' sl' ho
      exact fun {A' Q' E' s'} k q => by unfold isType loadHead; exact wpAny_bind (wpAny_loadPart (k _ _ (X _ _ ho)) (wpAny_pure q))
    · cases hcD
  ne := fun h tp dd its n sl X htp => by
    obtain ⟨cdD, hcD, _⟩ := any_some C.hd
    refine Bool.eq_false_iff.mpr fun q => ?_
    obtain rfl : D = tp := Value.ref.inj (beq_iff_eq.mp q)
    unfold clsIn at hcD
    split at hcD
    · rename_i c' d' cd' sl' ho
      cases (X _ _ ho).symm.trans htp
    · cases hcD
  ca := fun X I k => dclass C X I k
end
end PySem.W
namespace L2
open PySem PySem.Spec PyProof.Rows
def rIsD (K : PySem.W.Frag) (D a : Addr) : List V → Hp → VK → Prop := fun xs H Q => ∃ (c : V) (cv : Value) (b : Bool) (dd : Addr) (fs : List (Str × V)), xs = [.ref a, c] ∧ (∀ u, RelV c u → u = cv) ∧ PySem.W.kitOne K (.ref D) cv = some b ∧ Q (.bl b) H
theorem call_isD {X : Cx} {a D dd : Addr} {oe : Obj} {pn : List (Addr × Obj)} {fs : List (Str × V)} (C : PySem.W.DCls X.K D) (hz : Zc (.ref D) (some dd) oe) (hf : ∃ vs, oe.data = .fields vs) :
    CallR (X.suite a ((a, oe) :: pn)) (.builtin "isinstance") (fun xs H Q => ∃ (c : V) (cv : Value) (b : Bool), xs = [.ref a, c] ∧ (∀ u, RelV c u → u = cv) ∧ PySem.W.kitOne X.K (.ref D) cv = some b ∧ H dd = some (.xd fs) ∧ Q (.bl b) H) := by
  intro pn1 sh st hp xs us Q Iv r hh
  obtain ⟨c, cv, b, rfl, hcv, e, hx, q⟩ := hh
  cases r with
  | cons rx rr =>
    cases rr with
    | cons rt rr =>
      cases rr
      cases rx
      have ec := hcv _ rt
      subst ec
      obtain ⟨hget, _⟩ := Iv.pin (a, oe) (List.mem_append.mpr (.inl List.mem_cons_self))
      obtain ⟨vs, hv⟩ := hf
      obtain ⟨mA, hns, _⟩ : ObjOk X.prog X.w hp sh.heap dd (.xd fs) := Iv.hok dd _ hx
      obtain ⟨od, ho, _⟩ := lookIn_ns hns
      have J : PySem.W.InstAt sh.heap a oe D (some od) := ⟨hget, hz.1, by unfold PySem.W.notCls; rw [hv] <;> rfl, by rw [hz.2]; exact ho⟩
      exact PySem.W.kia_one (PySem.W.dkit C) Iv.kIn J e (fun z => nomatch z) fun tk => ⟨.bl b, hp, Iv.kept (t' := tk) fun _ _ z => z, rfl, q⟩
end L2
namespace Kr
open PySem PySem.Spec PyProof.Rows L2
section
variable {X : Cx} {CX : CXT} {k : Nat} {f : Addr} {fd : FuncData} {ps ks : List Str} {sp : Sp} {E : L2.St → XK} {x : Str} {p pos : Pos} {kws : List Keyword} {tk : TA} {g : List Value → List Value → List Value} {gV : List V → List V → List V}
/-- f(k = v, ..), names alone, of a def that may raise -/
def tCallNS (m : Nat) (sp : Sp) (gV : List V → List V → List V) (E : L2.St → XK) (tk : TA) : TE := fun σ H Q => tk σ H fun zs H1 => zs.length = m ∧ sp (gV [] zs) H1 Q (E σ)
theorem pe_callNS (F : FnOk X.prog X.w X.K X.mg X.base CX k f fd ps sp) (hr : Room k X.A) (hg : Gl X x) (hm : X.mg x = some (.ref f)) (hk : PySem.W.keepIn X.K (.ref f) = true) (hb : KBn X.K fd ps 0 ks g gV) (hx : ∀ σ, PassesAt CX X σ (E σ)) (hkw : PK X kws tk)
    (hall : (backToKw pos (keywordEach kws X.env)).all (·.1.isSome) = true := by rfl) (hks : (backToKw pos (keywordEach kws X.env)).filterMap (·.1) = ks := by rfl) (hdb : (x == ("__debug__" : Str)) = false := by decide)
    (hpl : ((backTo pos (starEach [] X.env)).any (·.1) || (backToKw pos (keywordEach kws X.env)).any (·.1.isNone)) = false := by rfl) :
    PE X (.Call (.Name x p) [] kws pos) (tCallNS ks.length sp gV E tk) := by
  refine ⟨fun pins s σ H Q I h => wpAny_Call_Name_kw (ld_glob I hg hm ?_ hdb)⟩
  refine PySem.W.callWith_KW0 (h₀ := X.base) I.ok.mod.kin hk hall ?_ hpl
  refine thn (hkw.run pos pins s σ H _ I h) fun ws s2 ⟨zs, H2, I2, rz, l2, q2⟩ => ⟨I2.kIn, ?_⟩
  rw [hks]
  refine wpAny_call (codeAny_mono (F.run X.A X.stack s2 H2 ⟨[], ks.zip ws⟩ (g [] ws) (gV [] zs) _ (E σ) hr I2.env0 (hb.to s2 [] ws I2.kIn rfl (rz.length.symm.trans l2)) (hb.rel .nil rz) q2) fun r s' hq => ?_)
  cases r with
  | error e => exact hx σ pins _ _ e s' I2 hq
  | ok fl =>
    cases fl with
    | ret u => exact I2.after hq
    | next => exact hq.elim
    | brk => exact hq.elim
    | cont => exact hq.elim
end
/-- a block that wants to be told something first -/
theorem pss_told {X : Cx} {b : List Stmt} {t : L2.TS} {A : Prop} (h : A → PSs X b t) : PSs X b (fun D σ H => A ∧ t D σ H) := ⟨fun pins s σ H D I ⟨a, q⟩ => (h a).run pins s σ H D I q⟩

/-- isinstance(slip, c), slip what the suite holds, with a dict of its own -/
def rIsDD (K : PySem.W.Frag) (C a : Addr) (d : Option Addr) : List V → Hp → VK → Prop := fun xs H Q => ∃ (c : V) (cv : Value) (b : Bool) (dd : Addr) (fs : List (Str × V)), d = some dd ∧ xs = [.ref a, c] ∧ (∀ u, RelV c u → u = cv) ∧ PySem.W.kitOne K (.ref C) cv = some b ∧ H dd = some (.xd fs) ∧ Q (.bl b) H
theorem call_isDD {X : Cx} {a D : Addr} {d : Option Addr} {oe : Obj} {pn : List (Addr × Obj)} (C : PySem.W.DCls X.K D) (hz : Zc (.ref D) d oe) (hf : ∃ vs, oe.data = .fields vs) : CallR (X.suite a ((a, oe) :: pn)) (.builtin "isinstance") (rIsDD X.K D a d) := by
  intro pn1 sh st hp xs us Q Iv r hh
  obtain ⟨c, cv, b, dd, fs, rfl, h1, h2, h3, h4, h5⟩ := hh
  exact call_isD (fs := fs) C hz hf pn1 sh st hp xs us Q Iv r ⟨c, cv, b, h1, h2, h3, h4, h5⟩
end Kr
namespace Kr
open PySem PySem.Spec PyProof.Rows L2
/-! ### what run tells, or how it refuses -/
def toldD (p : List Tm) (ss : List Int) : PyData := match progW stepM p with
  | some ms => .list [.str "told", stD (runM ms ss)]
  | none => .list [.str "refused", .int 5000, .bool true]
def spTold (n : Nat) : Sp := fun vs H Q _ => ∃ (v sv : V) (p : List Tm) (ss : List Int) (N : Int) (k : Bool), vs = [.int N, v, sv, .bl k] ∧ Dq H v (.tuple (p.map tmD)) ∧ Dq H sv (stD ss) ∧ ss.length ≤ 1000 ∧ PrOk (Deed ss.length) 400 n p ∧ ∀ H' r, Same H H' → Dq H' r (toldD p ss) → Q r H'
/-- run as the law calls it -/
def RunOk (P : Program) (w : World) (K : PySem.W.Frag) (mg : Str → Option Value) (base : Heap) (C : Addr) (n : Nat) : Prop := ∃ f fd, FnOk P w K mg base (L2.CX P w) (n + 3) f fd ["n", "program", "standing"] (spRun C n) ∧ PySem.W.keepIn K (.ref f) = true ∧ mg "run" = some (.ref f) ∧ Binds K fd ["n", "program", "standing"] [] ∧ KBn K fd ["n", "program", "standing"] 0 ["standing", "program", "n"] (fun _ ws => ws.reverse) (fun _ zs => zs.reverse)
section
variable {P : Program} {w : World} {K : PySem.W.Frag} {mg : Str → Option Value} {base : Heap} {C R fI : Addr}
theorem scTold : FnScope ["many", "program", "standing", "is_named", "slip"] ["many", "program", "standing", "is_named"] (defScope sLTold) := ⟨rfl, rfl, rfl, by decide +kernel, rfl, by decide +kernel, by decide +kernel⟩
theorem o_lTold {n : Nat} (D : Df K mg "_law_told" sLTold ["many", "program", "standing", "is_named"]) (B : Bi mg) (T : PySem.TooX.TooTxt K mg C fI) (dC : PySem.W.DCls K C) (gR : mg "RidersError" = some (.ref R)) (kR : PySem.W.kitOne K (.ref C) (.ref R) = some true)
    (al : RunOk P w K mg base C n) : Ok P w K mg base (n + 4) "_law_told" ["many", "program", "standing", "is_named"] (spTold n) := by
  obtain ⟨fR, dR, GR, kf, gf, bf, nf⟩ := al
  refine D.ok fun f fd F => F.ok scTold (fun vs H Q E h => ?_) (fun cdv A outer s H vs Q E hr h => ?_)
  · obtain ⟨_, _, _, _, _, _, rfl, _⟩ := h
    rfl
  · obtain ⟨v, sv, p, ss, N, k, rfl, hv, hsv, hsl, hp, q⟩ := h
    refine ⟨_, pss_one (ps_try_as (i := 4) (tb := fun W => tSeq (tIfS (tTest (tVar 3)) (tRet (tLst (tCons (tC (.str "told")) (tCons (tCallNS 3 (spRun C n) (fun _ zs => zs.reverse) (WE W) (tCons (tVar 2) (tCons (tVar 1) (tCons (tVar 0) tNil)))) tNil)))) tNext) (tRet (tLst (tCons (tC (.str "told")) (tCons (tCallS (spRun C n) (WE W) (tCons (tVar 0) (tCons (tVar 1) (tCons (tVar 2) tNil)))) tNil)))))
      (ts := fun a cls d D σ H => (cls = .ref C) ∧ tRet (tLst (tCons (tC (.str "refused")) (tCons (tByToo C a cls d (tVar 4)) (tCons (tCB (rIsDD K C a d) (tCons (tVar 4) (tCons (tC (.ref R)) tNil))) tNil)))) D σ H) (Wout := fun _ _ _ _ => False) rfl rfl scTold.nd rfl rfl ⟨rfl, by decide, Or.inl T.gC⟩ takes0
      (fun W pn xe tk _ => pss_cons (ps_if (pt_val (pv 3)) (pss_one (ps_ret (by exact (pe_lst (pa_cons pe_str (pa_cons (pe_callNS GR hr (by rfl) gf kf nf (fun σ => passAt tk σ) (pk_cons (pv 2) (pk_cons (pv 1) (pk_cons (pv 0) pk_nil)))) pa_nil)))))) pss_nil)
        (pss_one (ps_ret (by exact (pe_lst (pa_cons pe_str (pa_cons (pe_callS GR hr (by rfl) gf kf bf (fun σ => passAt tk σ) (pa_cons (pv 0) (pa_cons (pv 1) (pa_cons (pv 2) pa_nil)))) pa_nil)))))))
      (fun a oe cls d pn hz hf => pss_told fun hc => pss_one (ps_ret (by
        subst hc
        exact (pe_lst (pa_cons pe_str (pa_cons (pe_byToo T hz hf (pv 4)) (pa_cons (pe_callB (call_isDD dC hz hf) (by rfl) B.isinstance (by decide +kernel) (pa_cons (pv 4) (pa_cons (pe_glob (v := .ref R) (by rfl) gR rfl) pa_nil))) pa_nil)))))))), ?_⟩
    have good : ∀ ms, progW stepM p = some ms → ∀ (H' : Hp) (r : V), Same H H' → Dq H' r (stD (runM ms ss)) → (2 ≤ sizeLine ∧ ∀ l, H' l = none → Q (.ref l) (upd H' l (.lst [.str "told", r]))) := fun ms h6 H' r sm hr =>
      ⟨by show 2 ≤ sizeLine; decide, fun l nl => by
        refine q _ _ (sm.trans (same_new nl)) ?_
        unfold toldD
        rw [h6]
        exact .lst upd_same (.cons (.str _) (.cons (hr.up (same_new nl)) .nil))⟩
    have bad : progW stepM p = none → ∀ (H' : Hp), Same H H' → (3 ≤ sizeLine ∧ ∀ l, H' l = none → Q (.ref l) (upd H' l (.lst [.str "refused", .int 5000, .bl true]))) := fun h6 H' sm =>
      ⟨by show 3 ≤ sizeLine; decide, fun l nl => by
        refine q _ _ (sm.trans (same_new nl)) ?_
        unfold toldD
        rw [h6]
        exact .lst upd_same (.cons (.str _) (.cons (.int _) (.cons (.bl _) .nil)))⟩
    refine ⟨.bl k, rfl, k, rfl, ?_⟩
    cases k with
    | true =>
      refine iteT ⟨sv, rfl, v, rfl, .int N, rfl, rfl, v, sv, p, ss, N, rfl, hv, hsv, hsl, hp, fun ms h6 H' r sm h => good ms h6 H' r sm h, fun h6 H' d sm hd => ?_⟩
      exact ⟨true, T.te, fun _ a ha => ⟨rfl, .ref a, rfl, rfl, rfl, d, .int 5000, rfl, upd_same, .ref a, rfl, .ref R, .ref R, true, d, _, rfl, rfl, fun u h => h, kR, upd_same, bad h6 _ (sm.trans (same_new hd))⟩, fun z => Bool.noConfusion z⟩
    | false =>
      refine iteF ?_
      dsimp only [tNext]
      refine ⟨.int N, rfl, v, rfl, sv, rfl, v, sv, p, ss, N, rfl, hv, hsv, hsl, hp, fun ms h6 H' r sm h => good ms h6 H' r sm h, fun h6 H' d sm hd => ?_⟩
      exact ⟨true, T.te, fun _ a ha => ⟨rfl, .ref a, rfl, rfl, rfl, d, .int 5000, rfl, upd_same, .ref a, rfl, .ref R, .ref R, true, d, _, rfl, rfl, fun u h => h, kR, upd_same, bad h6 _ (sm.trans (same_new hd))⟩, fun z => Bool.noConfusion z⟩
end
end Kr
namespace Kr
open PySem PySem.Spec PyProof.Rows L2
theorem free_of : ∀ (n : Nat) (L : List Int), L.length < n → ∃ v : Int, 1 ≤ v ∧ v ≤ n ∧ v ∉ L
  | 0, L, h => absurd h (Nat.not_lt_zero _)
  | n + 1, L, h => by
    by_cases hm : ((n + 1 : Nat) : Int) ∈ L
    · have hl : (L.erase ((n + 1 : Nat) : Int)).length < n := by
        rw [List.length_erase_of_mem hm]
        have := List.length_pos_of_mem hm
        omega
      obtain ⟨v, h1, h2, h3⟩ := free_of n _ hl
      refine ⟨v, h1, by omega, fun hv => h3 ?_⟩
      exact (List.mem_erase_of_ne (by omega)).mpr hv
    · exact ⟨_, by omega, Int.le_refl _, hm⟩
theorem inV_ints (r : Int) (ns : List Int) : inV (.int r) (ns.map V.int) = decide (r ∈ ns) := by
  unfold inV
  rw [Bool.eq_iff_iff]
  simp [eqV]
theorem flat_ints (ns : List Int) : (ns.map V.int).all flatV = true := by
  simp [flatV]
/-- a standing: whole numbers from 0 to 99 -/
def spStanding : Sp := fun vs H Q _ => ∃ (p l : Addr) (m : Int), vs = [.ref p, .int m] ∧ Deck H p l ∧ 0 ≤ m ∧ m ≤ 90 ∧
  ∀ (H' : Hp) (t : Addr) (ns : List Int), Deck H' p l → Ext p l H H' → hid p l H' t = some (.tup (ns.map V.int)) → ns.length = m.toNat → (∀ n ∈ ns, 0 ≤ n ∧ n ≤ 99) → Q (.ref t) H'
section
variable {P : Program} {w : World} {K : PySem.W.Frag} {mg : Str → Option Value} {base : Heap}
theorem scStanding : FnScope ["deck", "many", "share", "found", "place", "rider"] ["deck", "many"] (defScope sLStanding) := ⟨rfl, rfl, rfl, by decide +kernel, rfl, by decide +kernel, by decide +kernel⟩
theorem o_standing (D : Df K mg "_law_standing" sLStanding ["deck", "many"]) (B : Bi mg) (d : Ok P w K mg base 1 "_law_draw" ["deck", "many"] spDraw) (dp : Ok P w K mg base 2 "_law_pick" ["deck", "items"] spPick) :
    Ok P w K mg base 3 "_law_standing" ["deck", "many"] spStanding := by
  refine D.ok fun f fd F => F.ok scStanding (fun vs H Q E h => ?_) (fun cdv A outer s H vs Q E hr h => ?_)
  · obtain ⟨p, l, m, rfl, _⟩ := h
    rfl
  · obtain ⟨p, l, m, rfl, Dk, hm0, hm1, q⟩ := h
    have hr1 := hr.mono (show 1 ≤ 2 by decide)
    refine ⟨_, pss_cons (ps_par (i := 2) (j := 3) rfl scStanding.nd rfl rfl (by decide) rfl rfl (pa_cons (pe_fn dp hr (by rfl) (pa_cons (pv 0) (pa_cons (pe_lst (pa_cons pe_int (pa_cons pe_int (pa_cons pe_int (pa_cons pe_int (pa_cons pe_int (pa_cons pe_int pa_nil))))))) pa_nil))) (pa_cons (pe_lst pa_nil) pa_nil)) (by rfl))
      (pss_cons (ps_for PassesOwn.never rfl (pi_range1 (by rfl) B.range (pa_cons (pv 1) pa_nil)) (pg_name (i := 4) scStanding.nd rfl (.inl rfl))
        (pss_one (ps_if (pt_cmpR op_lt (pe_fn d hr1 (by rfl) (pa_cons (pv 0) (pa_cons pe_int pa_nil))) (pv 2) (nomark _))
          (pss_one (ps_expr (pe_bm PySem.F.plainAttrs_list PySem.F.slot_list_append PySem.F.type_list_append mt_append (pv 3) (pa_cons pe_int pa_nil))))
          (pss_cons (ps_set (i := 5) scStanding.nd rfl (.inl rfl) (pe_op op_add pe_int (pe_fn d hr1 (by rfl) (pa_cons (pv 0) (pa_cons pe_int pa_nil)))))
          (pss_cons (ps_while PassesOwn.never (pt_cmpR op_in_seq (pv 5) (pv 3) rfl) (pss_one (ps_set (i := 5) scStanding.nd rfl (.inl rfl) (pe_op op_add (pe_op op_mod (pe_callTy call_int1 (by rfl) B.int (by decide +kernel) (pa_cons (pv 5) pa_nil)) pe_int) pe_int))))
          (pss_one (ps_expr (pe_bm PySem.F.plainAttrs_list PySem.F.slot_list_append PySem.F.type_list_append mt_append (pv 3) (pa_cons (pv 5) pa_nil)))))))))
      (pss_one (ps_ret (pe_callTy call_tuple_of (by rfl) B.tuple (by decide +kernel) (pa_cons (pv 3) pa_nil))))), ?_⟩
    refine ⟨.ref p, rfl, by show 6 ≤ sizeLine; decide, fun a na => ?_⟩
    have Dk1 := Dk.up (same_new (o := .lst [.int 1, .int 2, .int 3, .int 4, .int 0, .int 5]) na)
    obtain ⟨nap, nal⟩ := Dk.new na
    refine ⟨p, l, a, _, rfl, Dk1, hid_upd nap nal, by simp, by show 6 < 1000000; decide, fun H1 v Dk2 E1 hv => ?_⟩
    obtain ⟨sh, rfl⟩ : ∃ sh : Int, v = .int sh := by
      simp only [List.mem_cons, List.not_mem_nil, or_false] at hv
      rcases hv with rfl | rfl | rfl | rfl | rfl | rfl <;> exact ⟨_, rfl⟩
    refine ⟨by show 0 ≤ sizeLine; decide, fun f nf => ?_⟩
    obtain ⟨nfp, nfl⟩ := Dk2.new nf
    refine ⟨_, _, rfl, ?_⟩
    have E1' : Ext p l H H1 := (Ext.of (same_new na)).trans E1
    have nf0 : H f = none := E1'.free nf nfp nfl
    refine ⟨.int m, rfl, m, rfl, by omega, by omega, for_range (n := m.toNat) (fun i σ H2 => ∃ (v4 v5 : Option V) (ns : List Int), σ = [some (.ref p), some (.int m), some (.int sh), some (.ref f), v4, v5] ∧ Deck H2 p l ∧ Ext p l H H2 ∧ H2 f = some (.lst (ns.map V.int)) ∧ ns.length = i ∧ ∀ n ∈ ns, 0 ≤ n ∧ n ≤ 99)
      ⟨none, none, [], rfl, Dk2.mut nfp nfl, E1'.mut nf0, upd_same, rfl, fun n h => nomatch h⟩ ?_ ?_⟩
    · rintro i σ H2 hi ⟨v4, v5, ns, rfl, Dk3, E3, hf, hn, hb⟩
      refine ⟨.ref p, rfl, p, l, 5, rfl, Dk3, by decide, fun H3 r Dk4 E4 r0 r1 => ?_⟩
      have hf4 : H3 f = some (.lst (ns.map V.int)) := (hid_some (E4 f _ (by rw [hid_ne nfp nfl]; exact hf))).2.2
      have E4' : Ext p l H H3 := E3.trans E4
      refine ⟨.int sh, rfl, _, _, rfl, rfl, _, rfl, ite2 (fun _ => ?_) (fun _ => ?_)⟩
      · refine ⟨.ref f, rfl, .inl ⟨rfl, _, SqL.of hf4⟩, f, _, .int 0, rfl, rfl, hf4, szl (by rw [List.length_map]; omega), ?_⟩
        refine ⟨_, _, ns ++ [0], rfl, Dk4.mut nfp nfl, E4'.mut nf0, by rw [upd_same, List.map_append]; rfl, by rw [List.length_append, hn]; rfl, fun n h => ?_⟩
        rcases List.mem_append.mp h with h | h
        · exact hb n h
        · rw [List.mem_singleton.mp h]; omega
      · refine ⟨.ref p, rfl, p, l, 99, rfl, Dk4, by decide, fun H5 r' Dk5 E5 r0' r1' => ⟨_, _, rfl, rfl, ?_⟩⟩
        have hf5 : H5 f = some (.lst (ns.map V.int)) := (hid_some (E5 f _ (by rw [hid_ne nfp nfl]; exact hf4))).2.2
        have E5' : Ext p l H H5 := E4'.trans E5
        obtain ⟨v, w1, w2, w3⟩ := free_of 99 ns (by omega)
        refine while_by (fun σ H6 => ∃ (v4 : Option V) (rd : Int), σ = [some (.ref p), some (.int m), some (.int sh), some (.ref f), v4, some (.int rd)] ∧ H6 = H5 ∧ 1 ≤ rd ∧ rd ≤ 99)
          (fun σ H6 => match σ with | [_, _, _, _, _, some (.int rd)] => ((v - rd) % 99).toNat | _ => 0) ⟨_, _, rfl, rfl, by omega, by omega⟩ ?_ ?_
        · rintro σ H6 ⟨v4, rd, rfl, rfl, d0, d1⟩
          refine ⟨.int rd, rfl, .ref f, rfl, f, _, rfl, .inl (SqL.of hf5), rfl, flat_ints ns, _, rfl, ?_⟩
          rw [show (if false = true then !inV (V.int rd) (ns.map V.int) else inV (V.int rd) (ns.map V.int)) = decide (rd ∈ ns) from inV_ints rd ns]
          refine ite2 (fun hin => ?_) (fun hnin => ?_)
          · refine ⟨.int rd, rfl, .inl ⟨_, rfl, _, _, rfl, rfl, (by show (0 : Int) < 99; decide), _, _, rfl, rfl, ?_⟩⟩
            have hne : rd ≠ v := fun z => w3 (z ▸ of_decide_eq_true hin)
            refine ⟨⟨_, _, rfl, rfl, by omega, by omega⟩, ?_⟩
            show ((v - (rd % 99 + 1)) % 99).toNat < ((v - rd) % 99).toNat
            omega
          · refine ⟨.ref f, rfl, .inl ⟨rfl, _, SqL.of hf5⟩, .int rd, rfl, f, _, .int rd, rfl, rfl, hf5, szl (by rw [List.length_map]; omega), ?_⟩
            refine ⟨_, _, ns ++ [rd], rfl, Dk5.mut nfp nfl, E5'.mut nf0, by rw [upd_same, List.map_append]; rfl, by rw [List.length_append, hn]; rfl, fun n h => ?_⟩
            rcases List.mem_append.mp h with h | h
            · exact hb n h
            · rw [List.mem_singleton.mp h]; omega
        · rintro σ H6 Q1 Q2 hq ⟨x, hx, y, hy, pp, xs, e1, e2, e3, e4, kk, e5, e6⟩
          exact ⟨x, hx, y, hy, pp, xs, e1, e2, e3, e4, kk, e5, hq _ _ e6⟩
    · rintro σ H2 ⟨v4, v5, ns, rfl, Dk3, E3, hf, hn, hb⟩
      refine ⟨.ref f, rfl, f, _, rfl, .inl ⟨SqL.of hf, fun t nt => ?_⟩⟩
      obtain ⟨ntp, ntl⟩ := Dk3.new nt
      exact q _ t ns (Dk3.mut ntp ntl) (E3.new nt) (hid_upd ntp ntl) hn hb
end
end Kr
namespace Kr
open PySem PySem.Spec PyProof.Rows L2
section
variable {prog : Program} {w : World} {A : Around} {E : Value → Shared → Prop} {s : Shared}
/-- the heap behind a collecting -/
def gathered (h : Heap) (vs : List Value) : Heap := (h.push (seqObj "list" #[] 0)).update h.objs.size (Obj.mapSeq (· ++ vs.toArray))
theorem collect_tup {t : Addr} {vs : List Value} {Q : List Value → Shared → Prop} (hl : IsTup s.heap t vs.toArray) (h : Q vs { s with heap := gathered s.heap vs }) (hsz : vs.length ≤ sizeLine) : wpAny (model prog w) A (collect (.ref t)) Q E s := by
  obtain ⟨ot, gt, ct, nt, dt⟩ := id hl
  unfold collect
  refine wpAny_bind (wpAny_runValue (codeAny_builtin entry_proto_collect' ?_))
  show wpAny (model prog w) _ (do again (.builtin "list.__iadd__" ⟨[← newList [], .ref t], []⟩)) _ _ s
  refine wpAny_bind (wpAny_newList (wpAny_pure ⟨Code.quiet_builtin _ (by decide +kernel), codeAny_builtin entry_list_iadd' (?_ : wpAny (model prog w) _ (Builtin.List.listExtendWith (.ref s.heap.objs.size) (.ref t) (.ref s.heap.objs.size)) _ _ { s with heap := s.heap.push (seqObj "list" #[] 0) })⟩))
  unfold Builtin.List.listExtendWith
  have gt' : (s.heap.push (seqObj "list" #[] 0)).get? t = some ot := Heap.get?_push_of_some _ gt
  refine wpAny_bind (wpAny_typeOf (T := "tuple") ⟨ot, gt', ct⟩ ?_)
  have tt : (Value.type "tuple" == Value.type "tuple") = true := by rfl
  rw [if_pos (by rw [tt]; simp)]
  refine wpAny_bind (listItems_at gt' dt (wpAny_bind (listItems_at (xs := #[]) (n := 0) (Heap.get?_push_size _ rfl) rfl ?_)))
  rw [if_neg (by simp)]
  refine wpAny_bind (listUpdate_at (xs := #[]) (n := 0) (Heap.get?_push_size _ rfl) rfl (wpAny_pure ?_) (Nat.zero_le _) (by show (#[] ++ vs.toArray).size ≤ sizeLine + 1; simp only [Array.size_append, List.size_toArray, List.length_nil]; omega))
  show wpAny (model prog w) A (do let ob ← load s.heap.objs.size; match ob.data with | .seq xs _ => pure xs.toList | _ => unsupported "internal:collect") Q E { s with heap := gathered s.heap vs }
  refine wpAny_bind (wpAny_load (get?_update_seq (Heap.get?_push_size _ rfl) _) ?_)
  show wpAny (model prog w) A (pure ((#[] : Array Value) ++ vs.toArray).toList) Q E _
  have e0 : ((#[] : Array Value) ++ vs.toArray).toList = vs := by simp
  rw [e0]
  exact wpAny_pure h
theorem sorted_tup {t : Addr} {vs : List Value} {ltv : Value → Value → Bool} {Q : Value → Shared → Prop} (O : SrtO.Swo ltv) (hl : IsTup s.heap t vs.toArray) (hz : vs.length ≤ sizeLine)
    (hS : 2 ≤ vs.length → ∀ (h₁ : Heap) (a : Addr), h₁.get? a = some (seqObj "list" vs.toArray 0) → (∀ b o, s.heap.get? b = some o → b ≠ a ∧ h₁.get? b = some o) → SrtO.SortableO prog w A.in1.in1 { s with heap := h₁ } a vs ltv)
    (h : ∀ out : List Value, SrtO.Srtd ltv out → SrtO.Stb ltv out vs → Q (.ref (s.heap.objs.size + 1)) { s with heap := sortedAll s.heap vs out.toArray }) : wpAny (model prog w) A (call (.builtin "sorted") [.ref t]) Q E s := by
  refine Calls.call_function_entry kind_sorted plain_sorted entry_sorted (args_sorted1 _) ?_
  unfold Builtin.«sorted»
  refine wpAny_bind (m := checkCount "sorted" 1 1 _) (wpAny_pure (wpAny_bind (collect_tup hl (wpAny_bind (wpAny_newList ?_ hz)) hz)))
  have z1 : (gathered s.heap vs).objs.size = s.heap.objs.size + 1 := (Heap.size_update _ _ _).trans (size_push' _ _)
  have lst : ((gathered s.heap vs).push (seqObj "list" vs.toArray 0)).get? (s.heap.objs.size + 1) = some (seqObj "list" vs.toArray 0) := by
    rw [← z1]; exact Heap.get?_push_size _ rfl
  have stays : ∀ b o, s.heap.get? b = some o → b ≠ s.heap.objs.size + 1 ∧ ((gathered s.heap vs).push (seqObj "list" vs.toArray 0)).get? b = some o := fun b o q => by
    have lt := Heap.lt_size q
    refine ⟨Nat.ne_of_lt (Nat.lt_succ_of_lt lt), Heap.get?_push_of_some _ ?_⟩
    unfold gathered
    rw [Heap.get?_update_ne _ _ _ _ (Nat.ne_of_lt lt)]
    exact Heap.get?_push_of_some _ q
  show wpAny (model prog w) _ _ _ _ { s with heap := (gathered s.heap vs).push (seqObj "list" vs.toArray 0) }
  rw [z1]
  exact wpAny_bind (wpAny_holding (wpAny_call_entry slot_list_sort ⟨_, lst, rfl⟩ entry_list_sort (SrtO.list_sort_ord O lst hz (fun h2 => hS h2 _ _ lst stays) fun out hs hb => ⟨_, rfl, wpAny_pure ⟨_, rfl, h out hs hb⟩⟩) (args_list_sort _)))
end
section
variable {X : Cx}
/-- sorted(t), t a tuple of whole numbers -/
def rSortT (K : PySem.W.Frag) : List V → Hp → VK → Prop := fun vs H Q => ∃ (a : Addr) (ns : List Int), vs = [V.ref a] ∧ SqT K H a (ns.map V.int) ∧ ∀ (ns' : List Int) (p : Addr), ns'.Perm ns → ns'.Pairwise (· ≤ ·) → H p = none → Q (.ref p) (upd H p (.lst (ns'.map V.int)))
theorem cr_sortT5 : CallR X (.builtin "sorted") (rSortT X.K) := by
  intro pins s σ H vs us Q I r h
  obtain ⟨a, ns, rfl, hs, q⟩ := h
  obtain ⟨its, rv, ht, hz⟩ := I.tuple hs
  rw [Vals.ref1 r]
  have hi := rv.ints
  refine sorted_tup SrtO.swo_int ht (by rw [← rv.length]; exact hz) (fun h2 _ _ _ _ => SrtO.ints_sortable hi h2) fun out h1 h2 => ?_
  obtain ⟨k1, k2, k3⟩ := SrtO.ints_out hi h1 h2
  obtain ⟨ep, he⟩ := PyProof.Rows.sortedAll_at s.heap its out.toArray
  have hl : ((out.map SrtO.iv).map V.int).length ≤ sizeLine := by
    rw [List.length_map] at hz
    rw [List.length_map, k2.length_eq]
    exact hz
  exact ⟨.ref _, upd H (s.heap.objs.size + 1) (.lst ((out.map SrtO.iv).map V.int)), I.laid (t' := s.toks) (fun _ _ => PyProof.Rows.sortedAll_old) (Nat.le_succ _) ⟨hl, out, ep, vals_of_ints k1, he⟩, rfl, q _ _ k2 k3 (I.hok.fresh (Nat.le_succ _))⟩
end
end Kr
namespace Kr
open PySem PySem.Spec PyProof.Rows L2
theorem two_sm {k w : Nat} {a b : PyData} (ha : Sm k w a) (hb : Sm k w b) : Sm (k + 1) ((w + 1) * 2) (.list [a, b]) := Sm.lst (fun d hd => by
  simp only [List.mem_cons, List.not_mem_nil, or_false] at hd
  rcases hd with rfl | rfl
  · exact ha
  · exact hb) (Nat.le_refl _)
theorem sm_st24 {ss : List Int} (h : ∀ z ∈ ss, 0 ≤ z ∧ z < 100) (hl : ss.length ≤ 24) : Sm 2 ((140 + 1) * 24) (stD ss) := Sm.tup (fun d hd => by
  obtain ⟨x, hx, rfl⟩ := List.mem_map.mp hd
  have := h x hx
  exact Sm.int (Nat.lt_of_le_of_lt (show x.natAbs ≤ 100 by omega) (by decide))) (by rw [List.length_map]; exact hl)
theorem lints_dp {K : PySem.W.Frag} {H : Hp} {a : Addr} {ss : List Int} (h : H a = some (.lst (ss.map V.int))) : Dp K H (.ref a) (.list (ss.map .int)) := .lst (SqL.of h) (DqA.dp (flatTA_of fun d hd => by
  obtain ⟨x, _, rfl⟩ := List.mem_map.mp hd
  rfl) (DqA.ints ss))
theorem lints_shaped (ss : List Int) : SeqAt.shaped (.list (ss.map .int)) = true := by
  have h3 := dep_ints1 ss
  unfold SeqAt.shaped
  simp only [PyData.canLay0, PyData.depth, lay_ints1 ss, Bool.true_and, decide_eq_true_eq]
  exact decide_eq_true (by omega)
theorem lints_eqv (a b : List Int) : PyData.eqv (.list (a.map .int)) (.list (b.map .int)) = decide (a = b) := by
  simp only [PyData.eqv]
  exact ints_eqv a b
theorem sm_tol {ss : List Int} (h : ∀ z ∈ ss, 0 ≤ z ∧ z < 100) (hl : ss.length ≤ 24) : Sm 3 ((((140 + 1) * 24) + 1) * 2) (.list [.str "told", stD ss]) := Sm.lst (fun d hd => by
  have sw : Sm 1 10 (.str "told") := ⟨by decide, by decide, by decide, by decide⟩
  simp only [List.mem_cons, List.not_mem_nil, or_false] at hd
  rcases hd with rfl | rfl
  · exact sw.mono (by decide) (by decide)
  · exact sm_st24 h hl) (Nat.le_refl _)
theorem ws_pre {α : Type} (M : Mea α) {D : Mv → Prop} {r : Nat} {ps : List Tm} {j : Nat} {t : Tm} (h : ps[j]? = some t) (o : okTm D r j t) : worth M (wsAll M (ps.take j) []) t = worth M (wsAll M ps []) t := by
  have hj := (List.getElem?_eq_some_iff.mp h).1
  have e : wsAll M ps [] = wsAll M (ps.drop j) (wsAll M (ps.take j) []) := by
    rw [← wsAll_app, List.take_append_drop]
  have hl : (wsAll M (ps.take j) []).length = j := by
    rw [wsAll_len, List.length_take]
    show 0 + _ = _
    omega
  refine worth_cong M (fun i hi => ?_) t o
  have e2 := wsAll_pre M (ps.drop j) (wsAll M (ps.take j) []) i (by omega)
  rw [List.getD_eq_getElem?_getD, List.getD_eq_getElem?_getD, e, e2]
theorem progW_take {α : Type} (M : Mea α) {D : Mv → Prop} {r : Nat} {ps : List Tm} {j : Nat} {t : Tm} (h : ps[j]? = some t) (o : okTm D r j t) : progW M (ps.take (j + 1)) = worth M (wsAll M ps []) t := by
  rw [List.take_add_one, h]
  show progW M (ps.take j ++ [t]) = _
  rw [progW_snoc, ws_pre M h o]
theorem progW_last {α : Type} (M : Mea α) {D : Mv → Prop} {r : Nat} {ps : List Tm} {t : Tm} (h : ps[ps.length - 1]? = some t) (o : okTm D r (ps.length - 1) t) : progW M ps = worth M (wsAll M ps []) t := by
  have := progW_take M h o
  have hj := (List.getElem?_eq_some_iff.mp h).1
  rwa [show ps.length - 1 + 1 = ps.length by omega, List.take_length] at this
theorem atI_m1 {xs : List V} {y : V} (h : xs[xs.length - 1]? = some y) : atI xs (-1) = some y := by
  have hj := (List.getElem?_eq_some_iff.mp h).1
  have h1 := List.take_append_drop (xs.length - 1) xs
  rw [List.drop_eq_getElem_cons hj, List.drop_eq_nil_of_le (by omega)] at h1
  rw [List.getElem?_eq_getElem hj] at h
  rw [Option.some.inj h] at h1
  rw [← h1]
  exact atI_last _ _
theorem toldD_few {n : Nat} {p : List Tm} (h : PrOk (fun _ => True) 400 n p) (ss : List Int) (hc : (progW movM p).length ≤ 5000) : toldD p ss = .list [.str "told", stD (runM (progW movM p) ss)] := by
  unfold toldD
  rw [rel_step.progW h]
  unfold cutS
  rw [if_pos hc]
theorem toldD_many {n : Nat} {p : List Tm} (h : PrOk (fun _ => True) 400 n p) (ss : List Int) (hc : 5000 < (progW movM p).length) : toldD p ss = .list [.str "refused", .int 5000, .bool true] := by
  unfold toldD
  rw [rel_step.progW h]
  unfold cutS
  rw [if_neg (by omega)]
theorem progs_at {H : Hp} {v : V} {ts : List Tm} (h : Dq H v (.tuple (ts.map tmD))) : ∃ (a : Addr) (ys : List V), v = .ref a ∧ H a = some (.tup ys) ∧ ys.length = ts.length ∧ DqA H ys (ts.map tmD) ∧ ∀ (j : Nat) t, ts[j]? = some t → ∃ y, ys[j]? = some y ∧ Dq H y (tmD t) := by
  obtain ⟨a, ys, rfl, ha, qy⟩ := h.tup_inv
  have hl := qy.len
  rw [List.length_map] at hl
  refine ⟨a, ys, rfl, ha, hl, qy, fun j t ht => ?_⟩
  have hj := (List.getElem?_eq_some_iff.mp ht).1
  obtain ⟨y, hy⟩ : ∃ y, ys[j]? = some y := ⟨_, List.getElem?_eq_getElem (by omega)⟩
  obtain ⟨d, hd, qd⟩ := qy.get hy
  rw [List.getElem?_map, ht] at hd
  cases Option.some.inj hd
  exact ⟨y, hy, qd⟩
theorem prog_sm {n r m : Nat} (hn : n ≤ 24) {p : List Tm} (h : PrOk (Deed n) r m p) (hm : m ≤ 5) (hi : itm (.tuple (p.map tmD)) ≤ 3600) : Sm 20 (101 * 3600) (.tuple (p.map tmD)) := by
  refine sm_low (tms_lowm hn h.len fun i t ht => (h.tm i t ht).1) rfl ?_ hi
  have : ∀ ts : List Tm, (∀ t ∈ ts, dep t ≤ 5) → PyData.depthAll (ts.map tmD) ≤ 11 := by
    intro ts
    induction ts with
    | nil => intro _; simp [PyData.depthAll]
    | cons t ts ih =>
      intro h
      have h1 := tm_depth t
      have h2 := h t List.mem_cons_self
      have h3 := ih fun x hx => h x (List.mem_cons_of_mem _ hx)
      simp only [List.map_cons, PyData.depthAll]
      omega
  have := this p fun t ht => by
    obtain ⟨i, hi⟩ := List.getElem?_of_mem ht
    have := (h.tm i t hi).2
    omega
  simp only [PyData.depth]
  omega
theorem st_flat (ss : List Int) : flatT (stD ss) = true := by
  have : flatTA (ss.map PyData.int) = true := flatTA_of fun d hd => by
    obtain ⟨x, _, rfl⟩ := List.mem_map.mp hd
    rfl
  simpa [stD, flatT] using this
theorem sq_par3 {te te2 te3 : TE} {u : L2.TS} {D : Ends} {σ : L2.St} {H : Hp} {i j k : Nat} (h : te σ H fun v H1 => te2 σ H1 fun v2 H2 => te3 σ H2 fun v3 H3 => ∃ a b c, [v, v2, v3] = [a, b, c] ∧ u D (((σ.set i (some a)).set j (some b)).set k (some c)) H3) : tSeq (tPar3 i j k (tCons te (tCons te2 (tCons te3 tNil)))) u D σ H := h
def spIsRun : Sp := fun vs H Q _ => ∃ (p l : Addr) (m : Nat) (v : V) (ts : List Tm) (k : Bool), vs = [.ref p, .int (m : Int), v, .bl k] ∧ Deck H p l ∧ 3 ≤ m ∧ m ≤ 24 ∧ Dq H v (.tuple (ts.map tmD)) ∧ PrOk (Deed m) 3 5 ts ∧ itm (.tuple (ts.map tmD)) ≤ 3600 ∧ ts.length ≤ 7 ∧ progW cntM ts < 120 ∧ ∀ H', Deck H' p l → Ext p l H H' → Q (.bl true) H'
section
variable {P : Program} {w : World} {K : PySem.W.Frag} {mg : Str → Option Value} {base : Heap}
abbrev n_lIsRun : List Str := ["deck", "many", "program", "is_named", "kept", "longs", "standing", "turn", "due", "told", "spot"]
theorem sc_lIsRun : FnScope n_lIsRun ["deck", "many", "program", "is_named"] (defScope sLIsRun) := ⟨rfl, rfl, rfl, by decide +kernel, rfl, by decide +kernel, by decide +kernel⟩
theorem o_lIsRun (D0 : Df K mg "_law_is_run" sLIsRun ["deck", "many", "program", "is_named"]) (B : Bi mg) (dr : Ok P w K mg base 1 "_law_draw" ["deck", "many"] spDraw) (lo : Ok P w K mg base 6 "_law_longs" ["program"] (spLongs 5)) (sd : Ok P w K mg base 3 "_law_standing" ["deck", "many"] spStanding) (le : Ok P w K mg base 41 "_law_led" ["program", "longs", "term", "standing", "is_back"] (spLed 5 40)) (to : Ok P w K mg base 20 "_law_told" ["many", "program", "standing", "is_named"] (spTold 16)) : OkG P w K mg base 60 "_law_is_run" ["deck", "many", "program", "is_named"] spIsRun := by
  refine D0.okG fun f fd F => okG F sc_lIsRun (fun vs H Q E h => ?_) (fun cdv A outer s H vs Q E hg hr h => ?_)
  · obtain ⟨_, _, _, _, _, _, rfl, _⟩ := h
    rfl
  · obtain ⟨p, l, m, v, ts, kb, rfl, Dk, m0, m1, hv, hp, hit, hl7, hc, q⟩ := h
    have hr_dr := hr.mono (show 1 ≤ 59 by omega)
    have hr_lo := hr.mono (show 6 ≤ 59 by omega)
    have hr_sd := hr.mono (show 3 ≤ 59 by omega)
    have hr_le := hr.mono (show 41 ≤ 59 by omega)
    have hr_to := hr.mono (show 20 ≤ 59 by omega)
    have hu : (cxOf CX0 P w K mg base n_lIsRun "_law_is_run" (defScope sLIsRun) f cdv A outer s H E).A.units + 64 < cLine := hr.units
    have hu1 := hu_of hr
    have cr := call_repr (X := (cxOf CX0 P w K mg base n_lIsRun "_law_is_run" (defScope sLIsRun) f cdv A outer s H E).nox) hg hr.units
    refine ⟨_, pss_cons (ps_par3 (i := 4) (j := 5) (l := 6) rfl sc_lIsRun.nd rfl rfl rfl (by decide) (by decide) (by decide) rfl rfl rfl (pa_cons (pe_callB cr (by rfl) B.repr (by decide +kernel) (pa_cons (pv 2) pa_nil)) (pa_cons (pe_fn lo hr_lo (by rfl) (pa_cons (pv 2) pa_nil)) (pa_cons (pe_tup pa_nil) pa_nil))) (by rfl))
      (pss_cons (ps_for PassesOwn.never rfl (pi_range1 (by rfl) B.range (pa_cons pe_int pa_nil)) (pg_name (i := 7) sc_lIsRun.nd rfl (.inl rfl))
        (pss_cons (ps_set (i := 6) sc_lIsRun.nd rfl (.inl rfl) (pe_fn sd hr_sd (by rfl) (pa_cons (pv 0) (pa_cons (pv 1) pa_nil))))
        (pss_cons (ps_set (i := 8) sc_lIsRun.nd rfl (.inl rfl) (pe_fn le hr_le (by rfl) (pa_cons (pv 2) (pa_cons (pv 5) (pa_cons (pe_ix ix_tup (pv 2) (pe_un un_neg pe_int) (fun _ _ => rfl)) (pa_cons (pv 6) (pa_cons pe_bl pa_nil)))))))
        (pss_cons (ps_set (i := 9) sc_lIsRun.nd rfl (.inl rfl) (pe_fn to hr_to (by rfl) (pa_cons (pv 1) (pa_cons (pv 2) (pa_cons (pv 6) (pa_cons (pv 3) pa_nil))))))
        (pss_cons (ps_if (pt_cmpR op_ne (pe_callB cr (by rfl) B.repr (by decide +kernel) (pa_cons (pe_lst (pa_cons (pv 9) (pa_cons (pe_fn to hr_to (by rfl) (pa_cons (pv 1) (pa_cons (pv 2) (pa_cons (pv 6) (pa_cons pe_bl pa_nil))))) pa_nil))) pa_nil)) (pe_callB cr (by rfl) B.repr (by decide +kernel) (pa_cons (pe_op op_rep (pe_lst (pa_cons (pe_lst (pa_cons pe_str (pa_cons (pv 8) pa_nil))) pa_nil)) pe_int) pa_nil)) (nomark _)) (pss_one (ps_ret pe_bl)) pss_nil)
        (pss_one (ps_if (pt_cmpR (op_neD hu) (pe_callB cr_sortT5 (by rfl) B.sorted (by decide +kernel) (pa_cons (pe_ix ix_list (pv 9) pe_int (fun _ _ => rfl)) pa_nil)) (pe_callB cr_sortT5 (by rfl) B.sorted (by decide +kernel) (pa_cons (pv 6) pa_nil)) (nomark _)) (pss_one (ps_ret pe_bl)) pss_nil)))))))
      (pss_cons (ps_set (i := 10) sc_lIsRun.nd rfl (.inl rfl) (pe_fn dr hr_dr (by rfl) (pa_cons (pv 0) (pa_cons (pe_callB call_len_seq (by rfl) B.len boot_len (pa_cons (pv 2) pa_nil)) pa_nil))))
      (pss_cons (ps_if (pt_cmpR op_lt (pe_ix ix_list (pv 5) (pv 10) (fun _ _ => rfl)) pe_int (nomark _)) (pss_cons (ps_set (i := 8) sc_lIsRun.nd rfl (.inl rfl) (pe_fn le hr_le (by rfl) (pa_cons (pv 2) (pa_cons (pv 5) (pa_cons (pe_ix ix_tup (pv 2) (pv 10) (fun _ _ => rfl)) (pa_cons (pv 6) (pa_cons pe_bl pa_nil)))))))
        (pss_one (ps_if (pt_cmpR op_ne (pe_callB cr (by rfl) B.repr (by decide +kernel) (pa_cons (pe_fn to hr_to (by rfl) (pa_cons (pv 1) (pa_cons (pe_slice sl_tupA (pv 2) po_none (po_some (pe_op op_add (pv 10) pe_int))) (pa_cons (pv 6) (pa_cons pe_bl pa_nil))))) pa_nil)) (pe_callB cr (by rfl) B.repr (by decide +kernel) (pa_cons (pe_lst (pa_cons pe_str (pa_cons (pv 8) pa_nil))) pa_nil)) (nomark _)) (pss_one (ps_ret pe_bl)) pss_nil))) pss_nil)
      (pss_one (ps_ret (pe_cmpR op_eq (pe_callB cr (by rfl) B.repr (by decide +kernel) (pa_cons (pv 2) pa_nil)) (pv 4) (nomark _))))))), ?_⟩
    have hpT : PrOk (fun _ => True) 400 5 ts := hp.mono (fun _ _ => trivial) (by decide) (Nat.le_refl _)
    have hne := hp.ne
    have smP := prog_sm m1 hp (by decide) hit
    have hcl : (wsAll cntM ts []).length = ts.length := by rw [wsAll_len]; show 0 + _ = _; omega
    obtain ⟨tl, htl⟩ : ∃ tl, ts[ts.length - 1]? = some tl := ⟨_, List.getElem?_eq_getElem (by omega)⟩
    have hcm : ∀ (j : Nat) t, ts[j]? = some t → worth cntM (wsAll cntM ts []) t = (worth movM (wsAll movM ts []) t).length := fun j t ht => rel_cnt.worth (RelL.of_ws rel_cnt hpT) t (hpT.tm j t ht).1
    have hmd : ∀ (j : Nat) t, ts[j]? = some t → ∀ m' ∈ worth movM (wsAll movM ts []) t, Deed m m' := fun j t ht => rel_deeds.worth (RelL.of_ws rel_deeds hp) t (hp.tm j t ht).1
    refine sq_par3 ⟨v, rfl, ?_⟩
    dsimp only [tNil]
    refine repr_x hv smP (by decide) (by decide) fun kx hkx => ⟨v, rfl, v, ts, rfl, hv, hpT, by omega, fun G1 L s1 nL hL => ⟨by show 0 ≤ sizeLine; decide, fun e0 ne0 => ⟨_, _, _, rfl, ?_⟩⟩⟩
    obtain ⟨nLp, nLl⟩ := (Dk.up (Same.refl _)).new nL
    have hL0 : hid p l G1 L = some (.lst ((wsAll cntM ts []).map fun a : Nat => V.int (a : Int))) := by rw [hid_ne nLp nLl]; exact hL
    have se := same_new (o := .tup []) ne0
    have D2 : Deck (upd G1 e0 (.tup [])) p l := (Dk.up s1).up se
    have E2 : Ext p l H (upd G1 e0 (.tup [])) := Ext.of (s1.trans se)
    have hv2 := hv.up (s1.trans se)
    have hL2 := Ext.of (p := p) (l := l) se _ _ hL0
    generalize upd G1 e0 (.tup []) = G2 at D2 E2 hv2 hL2
    clear hL0 hL nL ne0 se s1
    have dv : ∀ {G G' : Hp}, Deck G p l → Ext p l G G' → Dq G v (.tuple (ts.map tmD)) → Dq G' v (.tuple (ts.map tmD)) := fun D E h => Dq.upT (TS.deck D E) (prog_flat ts) h
    have ledAt : ∀ (te : TE) (σ : L2.St) (G : Hp) (j : Nat) (t : Tm) (y : V) (ss : List Int) (sx : V) (Q' : VK), σ[2]? = some (some v) → σ[5]? = some (some (.ref L)) → σ[6]? = some (some sx) → ts[j]? = some t → Dq G v (.tuple (ts.map tmD)) → hid p l G L = some (.lst ((wsAll cntM ts []).map fun a : Nat => V.int (a : Int))) → Dq G y (tmD t) → Dq G sx (stD ss) → ss.length = m → (∀ z ∈ ss, 0 ≤ z ∧ z < 100) → worth cntM (wsAll cntM ts []) t ≤ 5000 → (∀ Q2 : VK, Q2 y G → te σ G Q2) → (∀ H' r, Same G H' → Dq H' r (stD (runM (worth movM (wsAll movM ts []) t) ss)) → Q' r H') → tCall (spLed 5 40) [] E0 (tCons (tVar 2) (tCons (tVar 5) (tCons te (tCons (tVar 6) (tCons (tC (.bl false)) tNil))))) σ G Q' := fun te σ G j t y ss sx Q' e2 e5 e6 ht qv hLG qy qs hsl hss hct et k => by
      subst hsl
      have hj := (List.getElem?_eq_some_iff.mp ht).1
      obtain ⟨o1, o2⟩ := hp.tm j t ht
      exact ⟨_, e2, _, e5, et _ ⟨_, e6, v, y, sx, L, t, ts, ss, j, false, rfl, qv, hid_same p l G _ _ hLG, qy, qs, (hp.mono (fun _ h => h) (by decide) (Nat.le_refl _)).prT, by omega, by omega, okTm_mono (fun _ h => h) (by decide) (Nat.le_refl _) t o1, by omega, m1, fun z hz => (hss z hz).1, hct, k⟩⟩
    have toldAt : ∀ (tb : TE) (σ : L2.St) (G : Hp) (bb : Bool) (ss : List Int) (sx : V) (Q' : VK), σ[1]? = some (some (.int (m : Int))) → σ[2]? = some (some v) → σ[6]? = some (some sx) → (∀ Q2 : VK, Q2 (.bl bb) G → tb σ G Q2) → Dq G v (.tuple (ts.map tmD)) → Dq G sx (stD ss) → ss.length = m → (∀ H' r, Same G H' → Dq H' r (.list [.str "told", stD (runM (progW movM ts) ss)]) → Q' r H') → tCall (spTold 16) [] E0 (tCons (tVar 1) (tCons (tVar 2) (tCons (tVar 6) (tCons tb tNil)))) σ G Q' := fun tb σ G bb ss sx Q' e1 e2 e6 et qv qs hsl k => by
      subst hsl
      refine ⟨_, e1, _, e2, _, e6, et _ ⟨v, sx, ts, ss, _, bb, rfl, qv, qs, by omega, hp.mono (fun _ h => h) (by decide) (by decide), fun H' r s h => ?_⟩⟩
      rw [toldD_few hpT ss ?_] at h
      · exact k H' r s h
      · rw [← rel_cnt.progW hpT]
        omega
    have elast := progW_last movM htl (hp.tm _ _ htl).1
    have clast := progW_last cntM htl (hp.tm _ _ htl).1
    refine ⟨2, rfl, by decide, by decide, for_it (walk_rg (n := 2)) (fun i σ G => ∃ (sx : V) (v7 v8 v9 : Option V), σ = [some (.ref p), some (.int (m : Int)), some v, some (.bl kb), some (.str kx), some (.ref L), some sx, v7, v8, v9, none] ∧ Deck G p l ∧ Ext p l H G ∧ Dq G v (.tuple (ts.map tmD)) ∧ hid p l G L = some (.lst ((wsAll cntM ts []).map fun a : Nat => V.int (a : Int))) ∧ (0 < i → ∃ ss, Dq G sx (stD ss) ∧ ss.length = m ∧ ∀ z ∈ ss, 0 ≤ z ∧ z < 100)) ⟨_, _, _, _, rfl, D2, E2, hv2, hL2, fun z => absurd z (Nat.lt_irrefl 0)⟩ (fun _ _ _ _ _ => trivial) ?_ ?_⟩
    · rintro i x σ _ G hi ⟨sx0, v7, v8, v9, rfl, DG, EG, hvG, hLG, _⟩ ⟨rfl, rfl⟩
      refine sq_asg ⟨.ref p, rfl, .int (m : Int), rfl, p, l, (m : Int), rfl, DG, by omega, by omega, fun G3 st ss D3 E3 hst hsl hss => ?_⟩
      have hsl : ss.length = m := by rw [hsl, Int.toNat_natCast]
      have hss : ∀ z ∈ ss, 0 ≤ z ∧ z < 100 := fun z hz => by have := hss z hz; omega
      have hst3 : Dq G3 (.ref st) (stD ss) := .tup (hid_same p l G3 _ _ hst) (DqA.ints ss)
      have hst3t : G3 st = some (.tup (ss.map V.int)) := hid_same p l G3 _ _ hst
      have hv3 := dv DG E3 hvG
      have hL3 := E3 _ _ hLG
      obtain ⟨pa, ys, rfl, hpa, hyl, _, hys⟩ := progs_at hv3
      obtain ⟨y, hy, qy⟩ := hys _ _ htl
      refine sq_asg (ledAt _ _ G3 _ tl y ss (.ref st) _ rfl rfl rfl htl hv3 hL3 qy hst3 hsl hss (by rw [← clast]; omega) (fun Q2 k => ⟨.ref pa, rfl, _, rfl, pa, ys, -1, y, rfl, rfl, SqT.of hpa, atI_m1 (by rw [hyl]; exact hy), k⟩) fun G4 r4 s4 h4 => ?_)
      rw [← elast] at h4
      refine sq_asg (toldAt _ _ G4 kb ss (.ref st) _ rfl rfl rfl (fun Q2 k => ⟨_, rfl, k⟩) (hv3.up s4) (hst3.up s4) hsl fun G5 r5 s5 h5 => ?_)
      have hrp : (runM (progW movM ts) ss).Perm ss := runM_perm rfl (by rw [elast, hsl]; exact hmd _ _ htl)
      have smD := sm_tol (ss := runM (progW movM ts) ss) (fun z hz => hss z (hrp.subset hz)) (by rw [hrp.length_eq, hsl]; exact m1)
      have s45 := s4.trans s5
      refine sq_if ?_
      refine ne_repr ⟨r5, rfl, toldAt _ _ G5 false ss (.ref st) _ rfl rfl rfl (fun Q2 k => k) (hv3.up s45) (hst3.up s45) hsl fun G6 r6 s6 h6 => ⟨by show 2 ≤ sizeLine; decide, fun T nT => ?_⟩⟩
      have sT := same_new (o := .lst [r5, r6]) nT
      refine repr_x (d := .list [.list [.str "told", stD (runM (progW movM ts) ss)], .list [.str "told", stD (runM (progW movM ts) ss)]]) (.lst upd_same (.cons (h5.up (s6.trans sT)) (.cons (h6.up sT) .nil))) (two_sm smD smD) (by decide) (by decide) fun ky hky => ?_
      have s46 := s45.trans (s6.trans sT)
      have h4' := h4.up (s5.trans (s6.trans sT))
      have h5' := h5.up (s6.trans sT)
      generalize upd G6 T (.lst [r5, r6]) = G7 at s46 h4' h5'
      refine ⟨r4, rfl, by show 2 ≤ sizeLine; decide, fun a1 n1 => ⟨by show 1 ≤ sizeLine; decide, fun a2 n2 => ⟨a2, 2, [.ref a1], rfl, rfl, upd_same, by decide, by decide, by show 1 * _ ≤ sizeLine; decide, fun a3 n3 => ?_⟩⟩⟩
      have t1 := same_new (o := .lst [.str "told", r4]) n1
      have t2 := same_new (o := .lst [.ref a1]) n2
      have t3 := same_new (o := .lst (List.replicate (2 : Int).toNat [V.ref a1]).flatten) n3
      have hx : Dq (upd (upd (upd G7 a1 (.lst [.str "told", r4])) a2 (.lst [.ref a1])) a3 (.lst (List.replicate (2 : Int).toNat [V.ref a1]).flatten)) (.ref a1) (.list [.str "told", stD (runM (progW movM ts) ss)]) := .lst ((t2.trans t3) _ _ upd_same) (.cons (.str _) (.cons (h4'.up (t1.trans (t2.trans t3))) .nil))
      refine repr_ne hky (.lst upd_same (.cons hx (.cons hx .nil))) (two_sm smD smD) (by decide) (by decide) (iteF ?_)
      have s47 := s46.trans (t1.trans (t2.trans t3))
      have h5a := h5'.up (t1.trans (t2.trans t3))
      generalize upd (upd (upd G7 a1 (.lst [.str "told", r4])) a2 (.lst [.ref a1])) a3 (.lst (List.replicate (2 : Int).toNat [V.ref a1]).flatten) = G8 at s47 h5a
      clear hx hky h4' h5' h4 h5 h6 t1 t2 t3 sT s46 s45 s4 s5 s6 n1 n2 n3 nT
      have hst8 := hst3.up s47
      have hst8t := s47 _ _ hst3t
      obtain ⟨Tt, rr, rs, rfl, hTt, hrr, hrs⟩ : ∃ (Tt : Addr) (rr : V) (rs : Addr), r5 = .ref Tt ∧ G8 Tt = some (.lst [.str "told", rr]) ∧ rr = .ref rs ∧ G8 rs = some (.tup ((runM (progW movM ts) ss).map V.int)) := by
        cases h5a with
        | @lst a us _ e qe =>
        cases qe with
        | cons qa qe =>
        cases qe with
        | @cons rr _ _ _ qb qe =>
        cases qe
        cases qa
        obtain ⟨rs, xs, rfl, hrs, qx⟩ := qb.tup_inv
        exact ⟨a, _, rs, rfl, e, rfl, by rw [hrs, dqa_int qx]⟩
      subst hrr
      dsimp only [tNext]
      refine one_if ?_
      refine ⟨.ref Tt, rfl, Tt, _, 1, _, rfl, rfl, SqL.of hTt, rfl, rs, _, rfl, SqT.of hrs, fun z1 p1 e1 e2 m1' => ⟨.ref st, rfl, st, ss, rfl, SqT.of (same_new m1' _ _ hst8t), fun z2 p2 e3 e4 m2' => ?_⟩⟩
      have e : z1 = z2 := List.Perm.eq_of_pairwise (le := (· ≤ ·)) (fun a b _ _ => Int.le_antisymm) e2 e4 (e1.trans (hrp.trans e3.symm))
      subst e
      have x1 := same_new (o := .lst (z1.map V.int)) m1'
      have x2 := same_new (o := .lst (z1.map V.int)) m2'
      refine ⟨_, _, lints_dp (x2 _ _ upd_same), lints_dp upd_same, lints_shaped _, lints_shaped _, _, rfl, ?_⟩
      rw [lints_eqv, decide_eq_true rfl]
      have s48 := s47.trans (x1.trans x2)
      exact iteF ⟨.ref st, _, _, _, rfl, D3.up s48, Same.trans EG (Same.trans E3 (Ext.of s48)), hv3.up s48, Ext.of s48 _ _ hL3, fun _ => ⟨ss, hst3.up s48, hsl, hss⟩⟩
    · rintro σ G ⟨sx, v7, v8, v9, rfl, DG, EG, hvG, hLG, hss⟩
      obtain ⟨ss, hsx, hsl, hss⟩ := hss (by decide)
      dsimp only
      obtain ⟨pa, ys, rfl, hpa, hyl, qys, hys⟩ := progs_at hvG
      refine sq_asg ⟨.ref p, rfl, .ref pa, rfl, pa, ys, rfl, .inr (SqT.of hpa), p, l, (ys.length : Int), rfl, DG, by omega, fun G1 r D1 E1 r0 r1 => ?_⟩
      obtain ⟨sp, rfl⟩ : ∃ k : Nat, r = (k : Int) := ⟨r.toNat, by omega⟩
      have hsp : sp < ts.length := by omega
      obtain ⟨t, ht⟩ : ∃ t, ts[sp]? = some t := ⟨_, List.getElem?_eq_getElem hsp⟩
      obtain ⟨o1, o2⟩ := hp.tm sp t ht
      obtain ⟨y, hy, qy⟩ := hys _ _ ht
      have hv1 := dv DG E1 hvG
      have hL1 := E1 _ _ hLG
      have hsx1 := Dq.upT (TS.deck DG E1) (st_flat ss) hsx
      have qy1 := Dq.upT (TS.deck DG E1) (tm_flat t) qy
      have hpa1 := TS.deck DG E1 _ _ hpa
      have E01 : Ext p l H G1 := Same.trans EG E1
      clear DG hvG hLG hsx qy hpa E1 hys qys
      have hwt : (wsAll cntM ts [])[sp]? = some (worth cntM (wsAll cntM ts []) t) := ws_at cntM ht o1
      have fin : ∀ (D' : Ends) (σ : L2.St) (G2 : Hp), Same G1 G2 → D'.rt = Q → σ[2]? = some (some (.ref pa)) → σ[4]? = some (some (.str kx)) → tRet (tOp rEq (tCB rRepr (tCons (tVar 2) tNil)) (tVar 4)) D' σ G2 := fun D' σ G2 s2 eD e2 e4 => by
        refine ret_eq_reprV ⟨_, e2, ?_⟩
        dsimp only [tNil]
        refine repr_x (hv1.up s2) smP (by decide) (by decide) fun kz hkz => ⟨_, e4, ?_⟩
        rw [eD]
        exact txt_eq hkz hkx (q G2 ((D1.up s2)) (Same.trans E01 (Ext.of s2)))
      refine sq_if ?_
      refine ⟨.ref L, rfl, .int (sp : Int), rfl, L, _, sp, _, rfl, rfl, SqL.of (hid_same p l G1 _ _ hL1), atI_nat (by rw [List.getElem?_map, hwt]; rfl), _, _, rfl, rfl, _, rfl, ite2 (fun c => ?_) (fun c => fin _ _ G1 (Same.refl _) rfl rfl rfl)⟩
      have hct : worth cntM (wsAll cntM ts []) t < 120 := by
        have : ((worth cntM (wsAll cntM ts []) t : Nat) : Int) < 120 := of_decide_eq_true c
        omega
      refine sq_asg (ledAt _ _ G1 sp t y ss sx _ rfl rfl rfl ht hv1 hL1 qy1 hsx1 hsl hss (by omega) (fun Q2 k => ⟨.ref pa, rfl, .int (sp : Int), rfl, pa, ys, sp, y, rfl, rfl, SqT.of hpa1, atI_nat hy, k⟩) fun G2 r2 s2 h2 => ?_)
      refine one_if ?_
      have hmt : (worth movM (wsAll movM ts []) t).length < 120 := by rw [← hcm sp t ht]; exact hct
      have hrp : (runM (worth movM (wsAll movM ts []) t) ss).Perm ss := runM_perm rfl (by rw [hsl]; exact hmd _ _ ht)
      have smD := sm_tol (ss := runM (worth movM (wsAll movM ts []) t) ss) (fun z hz => hss z (hrp.subset hz)) (by rw [hrp.length_eq, hsl]; exact m1)
      have hpk : PrOk (Deed m) 3 5 (ts.take (sp + 1)) := ⟨by rw [List.length_take]; omega, by rw [List.length_take]; omega, fun i u hu => by
        have hi := (List.getElem?_eq_some_iff.mp hu).1
        rw [List.length_take] at hi
        rw [List.getElem?_take, if_pos (by omega)] at hu
        exact hp.tm i u hu⟩
      have ept := progW_take movM ht o1
      refine ne_repr ⟨.int (m : Int), rfl, .ref pa, rfl, ?_⟩
      dsimp only [tNoPart]
      refine ⟨.int (sp : Int), rfl, _, _, rfl, rfl, (sp : Int) + 1, rfl, sliceA_k (s2 _ _ hpa1) fun z G3 s3 hz => ?_⟩
      rw [show ((sp : Int) + 1) = ((sp + 1 : Nat) : Int) by omega, cut_to (by omega)] at hz
      have hzq : Dq G3 (.ref z) (.tuple ((ts.take (sp + 1)).map tmD)) := by
        refine .tup hz ?_
        rw [List.map_take]
        obtain ⟨pa', ys', e1, hpa', _, qys', _⟩ := progs_at (hv1.up (s2.trans s3))
        cases e1
        have := (s2.trans s3) _ _ hpa1
        rw [hpa'] at this
        cases this
        exact DqA.take _ qys'
      refine ⟨_, rfl, .ref z, sx, ts.take (sp + 1), ss, _, false, rfl, hzq, hsx1.up (s2.trans s3), by omega, by rw [hsl]; exact hpk.mono (fun _ h => h) (by decide) (by decide), fun G4 r4 s4 h4 => ?_⟩
      rw [toldD_few (hpk.mono (D' := fun _ => True) (fun _ _ => trivial) (show 3 ≤ 400 by decide) (Nat.le_refl _)) ss (by rw [ept]; omega), ept] at h4
      refine repr_x h4 smD (by decide) (by decide) fun ky hky => ⟨r2, rfl, by show 2 ≤ sizeLine; decide, fun a1 n1 => ?_⟩
      have t1 := same_new (o := .lst [.str "told", r2]) n1
      refine repr_ne hky (.lst upd_same (.cons (.str _) (.cons (h2.up (s3.trans (s4.trans t1))) .nil))) smD (by decide) (by decide) (iteF ?_)
      dsimp only [tNext]
      exact fin _ _ _ (s2.trans (s3.trans (s4.trans t1))) rfl rfl rfl
end
end Kr
namespace Kr
open PySem PySem.Spec PyProof.Rows L2
def spDrawW : Sp := fun vs H Q _ => ∃ (p l : Addr) (m : Int), vs = [.ref p, .int m] ∧ Deck H p l ∧ m < 2 ^ 200 ∧ ∀ H' r, Deck H' p l → Ext p l H H' → 0 ≤ r → (r < m ∨ r = 0) → Q (.int r) H'
section
variable {P : Program} {w : World} {K : PySem.W.Frag} {mg : Str → Option Value} {base : Heap}
theorem ok_drawW {f : Addr} {fd : FuncData} {k : Nat} (F : Fun K "_law_draw" "_law_draw" sDraw f fd) (B : Bi mg) : FnOk P w K mg base CX0 (k + 1) f fd ["deck", "many"] spDrawW := by
  refine F.ok scDraw (fun vs H Q E h => ?_) (fun cdv A outer s H vs Q E hr h => ?_)
  · obtain ⟨p, l, m, rfl, _⟩ := h
    rfl
  · obtain ⟨p, l, m, rfl, D, hm, q⟩ := h
    have hu := hu_of hr
    refine ⟨_, pss_cons (ps_if (pt_cmpR op_lt (pv 1) pe_int (nomark _)) (pss_one (ps_ret pe_int)) pss_nil)
      (pss_cons (ps_if (pt_cmpR (op_neD hr.units) (pe_dget hu (pv 0) pe_str (fun _ _ => rfl)) (pe_lst pa_nil) (nomark _))
        (pss_cons (ps_set (i := 2) scDraw.nd rfl (.inl rfl) (pe_bm0 PySem.F.plainAttrs_list PySem.F.slot_list_pop PySem.F.type_list_pop mt_pop (pe_dget hu (pv 0) pe_str (fun _ _ => rfl))))
        (pss_cons (ps_if (pt_cmpR op_ge (pv 2) (pv 1) (nomark _)) (pss_one (ps_expr (pe_bm PySem.F.plainAttrs_list PySem.F.slot_list_append PySem.F.type_list_append mt_append (pe_dget hu (pv 0) pe_str (fun _ _ => rfl)) (pa_cons (pe_op op_fdivW (pv 2) (pv 1)) pa_nil)))) pss_nil)
        (pss_one (ps_ret (pe_op op_mod (pe_callTy call_int1 (by rfl) B.int (by decide +kernel) (pa_cons (pv 2) pa_nil)) (pv 1)))))) pss_nil)
      (pss_cons (ps_set (i := 3) scDraw.nd rfl (.inl rfl) (pe_op op_mod (pe_callTy call_int1 (by rfl) B.int (by decide +kernel) (pa_cons (pe_op op_add (pe_op op_mul (pe_dget hu (pv 0) pe_str (fun _ _ => rfl)) pe_int) pe_int) pa_nil)) pe_int))
      (pss_cons (ps_dput hu (pv 0) pe_str (pv 3) rfl)
      (pss_cons (ps_set (i := 4) scDraw.nd rfl (.inl rfl) (pe_op op_mod (pe_callTy call_int1 (by rfl) B.int (by decide +kernel) (pa_cons (pe_op op_add (pe_op op_add (pe_op op_mul (pv 3) (pv 3)) (pe_op op_mul pe_int (pv 3))) pe_int) pa_nil)) pe_int))
      (pss_one (ps_ret (pe_op op_mod (pe_callTy call_int1 (by rfl) B.int (by decide +kernel) (pa_cons (pe_op op_fdiv (pv 4) pe_int) pa_nil)) (pv 1)))))))), ?_⟩
    refine ⟨.int m, rfl, m, 2, rfl, rfl, _, rfl, ite2 (fun _ => ?_) (fun hm2 => ?_)⟩
    · exact q H 0 D Ext.rfl (Int.le_refl _) (.inr rfl)
    have hm1 : ¬ m < 2 := fun z => hm2 (decide_eq_true z)
    obtain ⟨ds, st, hp, hl, hd⟩ := id D.ex
    have hgd : DGet H p (V.str "deep") (some (.ref l)) := by rw [← dkv_d (.ref l) (.int st)]; exact DGet.k (k := kD) hp
    refine ⟨.ref p, rfl, p, .ref l, rfl, hgd, by show 0 ≤ sizeLine; decide, fun e ne => ?_⟩
    have nep : e ≠ p := (ne_of_none hp ne).symm
    have nel : e ≠ l := (ne_of_none hl ne).symm
    have nlp : l ≠ p := D.ne.symm
    refine ⟨.list (ds.map PyData.int), .list [], .lst (SqL.of (by rw [upd_ne nel.symm]; exact hl)) (dp_ints ds), .lst (SqL.of upd_same) .nil, shaped_ints ds, shaped_ints [], ?_⟩
    rw [eqv_ints_nil]
    have hp1 : upd H e (.lst []) p = some (.dK (dkv (.ref l) (.int st))) := by rw [upd_ne nep.symm]; exact hp
    have hl1 : upd H e (.lst []) l = some (.lst (ds.map V.int)) := by rw [upd_ne nel.symm]; exact hl
    have E1 : Ext p l H (upd H e (.lst [])) := Ext.rfl.new ne
    generalize upd H e (.lst []) = H1 at hp1 hl1 E1
    have hgd1 : DGet H1 p (V.str "deep") (some (.ref l)) := by rw [← dkv_d (.ref l) (.int st)]; exact DGet.k (k := kD) hp1
    have hgs1 : DGet H1 p (V.str "state") (some (.int st)) := by rw [← dkv_s (.ref l) (.int st)]; exact DGet.k (k := kS) hp1
    refine ⟨_, rfl, ?_⟩
    by_cases hds : ds = []
    · -- mixed numbers
      rw [decide_eq_true hds]
      refine iteF ?_
      refine ⟨.ref p, rfl, p, .int st, rfl, hgs1, _, _, rfl, rfl, .inr ⟨by decide, by decide⟩, _, _, rfl, rfl, .inl ⟨_, rfl, _, _, rfl, rfl, (by show (0 : Int) < 2305843009213693951; decide), ?_⟩⟩
      dsimp only
      have o0 : 0 ≤ ((st * 1181783497276652981 + 88172645463325) % 2305843009213693951 : Int) := Int.emod_nonneg _ (by decide)
      have o1 : ((st * 1181783497276652981 + 88172645463325) % 2305843009213693951 : Int) < 2305843009213693951 := Int.emod_lt_of_pos _ (by decide)
      generalize ((st * 1181783497276652981 + 88172645463325) % 2305843009213693951 : Int) = one at o0 o1
      refine ⟨.int one, rfl, .ref p, rfl, p, _, rfl, DPut.k (k := kS) hp1 (by show 2 < sizeLine; decide), ?_⟩
      rw [dkv_ps]
      refine ⟨.int one, rfl, .int one, rfl, _, _, rfl, rfl, .inl ⟨by omega, by omega⟩, .int one, rfl, _, _, rfl, rfl, .inl ⟨by decide, by decide⟩, _, _, rfl, rfl, _, _, rfl, rfl, .inl ⟨_, rfl, _, _, rfl, rfl, (by show (0 : Int) < 2305843009213693921; decide), ?_⟩⟩
      dsimp only
      generalize ((one * one + 374761393 * one + 11) % 2305843009213693921 : Int) = two
      refine ⟨.int two, rfl, _, _, rfl, rfl, ⟨by decide, by decide⟩, .inl ⟨_, rfl, .int m, rfl, _, _, rfl, rfl, (by show 0 < m; omega), ?_⟩⟩
      refine q _ _ ⟨ds, one, upd_same, by rw [upd_ne nlp]; exact hl1, hd⟩ (E1.at (.inl rfl)) (Int.emod_nonneg _ (by omega)) (.inl (Int.emod_lt_of_pos _ (by omega)))
    · -- a digit of a great cell
      rw [decide_eq_false hds]
      refine iteT ?_
      obtain ⟨last, hlast⟩ : ∃ y, ds[ds.length - 1]? = some y := ⟨_, List.getElem?_eq_getElem (by
        have := List.length_pos_iff.mpr hds
        omega)⟩
      refine ⟨.ref p, rfl, p, .ref l, rfl, hgd1, .inl ⟨rfl, _, SqL.of hl1⟩, l, _, .int last, rfl, rfl, hl1, by rw [List.length_map, List.getElem?_map, hlast]; rfl, ?_⟩
      rw [← List.map_dropLast]
      have hdl : ds.dropLast.length ≤ 62 := by rw [List.length_dropLast]; omega
      have hp2 : upd H1 l (.lst (ds.dropLast.map V.int)) p = some (.dK (dkv (.ref l) (.int st))) := by rw [upd_ne nlp.symm]; exact hp1
      have hl2 : upd H1 l (.lst (ds.dropLast.map V.int)) l = some (.lst (ds.dropLast.map V.int)) := upd_same
      have E2 : Ext p l H (upd H1 l (.lst (ds.dropLast.map V.int))) := E1.at (.inr rfl)
      generalize ds.dropLast = ds2 at hdl hp2 hl2 E2
      generalize upd H1 l (.lst (ds2.map V.int)) = H2 at hp2 hl2 E2
      have hgd2 : DGet H2 p (V.str "deep") (some (.ref l)) := by rw [← dkv_d (.ref l) (.int st)]; exact DGet.k (k := kD) hp2
      refine ⟨.int last, rfl, .int m, rfl, _, _, rfl, rfl, _, rfl, ?_⟩
      refine join2 (H2 := H2) (R := fun H3 => ∃ ds3 : List Int, H3 p = some (.dK (dkv (.ref l) (.int st))) ∧ H3 l = some (.lst (ds3.map V.int)) ∧ ds3.length ≤ 63 ∧ Ext p l H H3)
        (fun H3 hR => ?_) (fun _ => ⟨ds2, hp2, hl2, by omega, E2⟩) (fun _ tail => ?_)
      · obtain ⟨ds3, hp3, hl3, hd3, E3⟩ := hR
        refine ⟨.int last, rfl, .inl ⟨_, rfl, .int m, rfl, _, _, rfl, rfl, (by show 0 < m; omega), ?_⟩⟩
        exact q _ _ ⟨ds3, st, hp3, hl3, hd3⟩ E3 (Int.emod_nonneg _ (by omega)) (.inl (Int.emod_lt_of_pos _ (by omega)))
      · refine ⟨.ref p, rfl, p, .ref l, rfl, hgd2, .inl ⟨rfl, _, SqL.of hl2⟩, .int last, rfl, .int m, rfl, _, _, rfl, rfl, wide_div (b := 200) (by omega) (by have h2 : (2 : Int) ^ 200 = ((2 ^ 200 : Nat) : Int) := rfl; omega) (by decide) (by decide), l, _, _, rfl, rfl, hl2, szl (by rw [List.length_map]; omega), ?_⟩
        refine tail _ ⟨ds2 ++ [last / m], by rw [upd_ne nlp.symm]; exact hp2, ?_, by rw [List.length_append]; show _ + 1 ≤ 63; omega, E2.at (.inr rfl)⟩
        rw [upd_same, List.map_append]
        rfl
theorem o_drawW (D : Df K mg "_law_draw" sDraw ["deck", "many"]) (B : Bi mg) : Ok P w K mg base 1 "_law_draw" ["deck", "many"] spDrawW := D.ok fun _ _ F => ok_drawW F B
end
end Kr
namespace Kr
open PySem PySem.Spec PyProof.Rows L2
local macro_rules | `(tactic| walk_at "bq") => `(tactic| repeat' (first | with_reducible refine bqa_nil ?_ | with_reducible refine bqa_cons ?_ | with_reducible refine bq_tup1 ?_ | with_reducible refine bq_tup2 ?_ | with_reducible refine bq_tup3 ?_ | with_reducible refine bq_str ?_ | with_reducible refine bq_c ?_ | with_reducible refine bn_c ?_ | with_reducible refine bn_op ?_))
theorem rep_mul {α : Type} (A : List α) (a : Nat) : ∀ b : Nat, (List.replicate b (List.replicate a A).flatten).flatten = (List.replicate (a * b) A).flatten
  | 0 => rfl
  | b + 1 => by
    rw [List.replicate_succ, List.flatten_cons, rep_mul A a b, ← List.flatten_append, List.replicate_append_replicate, Nat.mul_succ, Nat.add_comm]
theorem rep_one {α : Type} (x : α) : ∀ k : Nat, (List.replicate k [x]).flatten = List.replicate k x
  | 0 => rfl
  | k + 1 => by rw [List.replicate_succ, List.flatten_cons, rep_one x k]; rfl
theorem rep_rep {α : Type} (x : α) (a : Nat) : ∀ b : Nat, (List.replicate b (List.replicate a x)).flatten = List.replicate (a * b) x
  | 0 => rfl
  | b + 1 => by
    rw [List.replicate_succ, List.flatten_cons, rep_rep x a b, List.replicate_append_replicate, Nat.mul_succ, Nat.add_comm]
theorem mv_row (ws : List (List Mv)) (ts : List Tm) : worth movM ws (.row ts) = (ts.map (worth movM ws)).flatten := by simp only [worth]; rw [worthL_map]; rfl
theorem mv_back (ws : List (List Mv)) (t : Tm) : worth movM ws (.back t) = (worth movM ws t).reverse := by simp only [worth]; rfl
theorem mv_times (ws : List (List Mv)) (t : Tm) (k : Nat) : worth movM ws (.times t k) = (List.replicate k (worth movM ws t)).flatten := by simp only [worth]; rfl
section
variable {F : Fr} {σ : L2.St} {H : Hp} {R : PyData → Prop} {N : Int → Prop} {t u : TE} {j : Nat}
theorem bq_eqc {w c : Int} (e : σ[j]? = some (some (.int w))) (ht : w = c → Bq F t σ H R) (hu : w ≠ c → Bq F u σ H R) : Bq F (tIf (tTest (tOp rEq (tVar j) (tC (.int c)))) t u) σ H R := fun G a b Q q => by
  refine ⟨_, e, rfl, _, rfl, ite2 (fun d => ht (V.int.inj (of_decide_eq_true d)) G a b Q q) (fun d => hu (fun z => d (decide_eq_true (by rw [z]))) G a b Q q)⟩
theorem bn_int1 (h : Bn F t σ H N) : Bn F (tCB (fun (xs : List V) (H : Hp) (Q : VK) => (∃ i, xs = [V.int i] ∧ Q (V.int i) H) ∨ ∃ k, xs = [V.bl k] ∧ Q (V.int (if k = true then 1 else 0)) H) (tCons t tNil)) σ H N := fun G a b Q q => h G a b _ fun G' i I r n => .inl ⟨i, rfl, q G' i I r n⟩
end
theorem sq_par {te te2 : TE} {u : L2.TS} {D : Ends} {σ : L2.St} {H : Hp} {i j : Nat} (h : te σ H fun v H1 => te2 σ H1 fun v2 H2 => ∃ a b, [v, v2] = [a, b] ∧ u D ((σ.set i (some a)).set j (some b)) H2) : tSeq (tPar i j (tCons te (tCons te2 tNil))) u D σ H := h
/-- a term behind a deed, that does the deed so often -/
def DoesK (m : Nat) (d : Mv) (n k : Nat) (x : PyData) : Prop := ∃ t, x = tmD t ∧ okTm (Deed m) 400 1 t ∧ dep t ≤ n ∧ worth movM [[d]] t = List.replicate k d
theorem dk_part {m : Nat} {d : Mv} : DoesK m d 1 1 (.tuple [.str "part", .int 0]) := ⟨.part 0, by simp only [tmD]; rfl, by simp only [okTm]; omega, by simp only [dep]; omega, by simp only [worth]; rfl⟩
theorem dk_do {m : Nat} {d : Mv} (h : Deed m d) : DoesK m d 1 1 (tmD (.doo d)) := ⟨_, rfl, by simp only [okTm]; exact h, by simp only [dep]; omega, by simp only [worth]; rfl⟩
theorem dk_times {m : Nat} {d : Mv} {n k c : Nat} {x : PyData} (h : DoesK m d n k x) (hc : c ≤ 10 ^ 30) : DoesK m d (n + 1) (k * c) (.tuple [.str "times", x, .int (c : Int)]) := by
  obtain ⟨t, rfl, o, p, e⟩ := h
  exact ⟨.times t c, by simp only [tmD], by simp only [okTm]; exact ⟨hc, o⟩, by simp only [dep]; omega, by rw [mv_times, e, rep_rep]⟩
theorem dk_back {m : Nat} {d : Mv} {n k : Nat} {x : PyData} (h : DoesK m d n k x) : DoesK m d (n + 1) k (.tuple [.str "back", x]) := by
  obtain ⟨t, rfl, o, p, e⟩ := h
  exact ⟨.back t, by simp only [tmD], by simp only [okTm]; exact o, by simp only [dep]; omega, by rw [mv_back, e, List.reverse_replicate]⟩
theorem dk_row2 {m : Nat} {d : Mv} {n k c : Nat} {x y : PyData} (h : DoesK m d n k x) (g : DoesK m d n c y) : DoesK m d (n + 1) (k + c) (.tuple [.str "row", .tuple [x, y]]) := by
  obtain ⟨t, rfl, o, p, e⟩ := h
  obtain ⟨u, rfl, o2, p2, e2⟩ := g
  exact ⟨.row [t, u], by simp only [tmD, tmDs], by simp only [okTm, okTms]; exact ⟨by simp, o, o2, trivial⟩, by simp only [dep, depL]; omega, by
    rw [mv_row]
    simp only [List.map_cons, List.map_nil, List.flatten_cons, List.flatten_nil, List.append_nil]
    rw [e, e2, List.replicate_append_replicate]⟩
theorem dk_row1 {m : Nat} {d : Mv} {n k : Nat} {x : PyData} (h : DoesK m d n k x) : DoesK m d (n + 1) k (.tuple [.str "row", .tuple [x]]) := by
  obtain ⟨t, rfl, o, p, e⟩ := h
  exact ⟨.row [t], by simp only [tmD, tmDs], by simp only [okTm, okTms]; exact ⟨by simp, o, trivial⟩, by simp only [dep, depL]; omega, by
    rw [mv_row]
    simp only [List.map_cons, List.map_nil, List.flatten_cons, List.flatten_nil, List.append_nil]
    exact e⟩
theorem dk_rep {m : Nat} {d : Mv} {n k c : Nat} {x : PyData} (h : DoesK m d n k x) (hc : c ≤ 400) : DoesK m d (n + 1) (k * c) (.tuple [.str "row", .tuple (List.replicate c x)]) := by
  obtain ⟨t, rfl, o, p, e⟩ := h
  refine ⟨.row (List.replicate c t), by simp only [tmD]; rw [tmDs_map, List.map_replicate], ?_, ?_, ?_⟩
  · simp only [okTm]
    exact ⟨by rw [List.length_replicate]; exact hc, okTms_of fun u hu => by rw [List.eq_of_mem_replicate hu]; exact o⟩
  · simp only [dep]
    have := depL_of (m := dep t) (ts := List.replicate c t) fun u hu => by rw [List.eq_of_mem_replicate hu]; exact Nat.le_refl _
    omega
  · rw [mv_row, List.map_replicate, e, rep_rep]
theorem DoesK.mono {m : Nat} {d : Mv} {n k n' k' : Nat} {x : PyData} (h : DoesK m d n k x) (hn : n ≤ n' := by omega) (hk : k = k' := by omega) : DoesK m d n' k' x := by
  obtain ⟨t, rfl, o, p, e⟩ := h
  subst hk
  exact ⟨t, rfl, o, Nat.le_trans p hn, e⟩
theorem bn_drawW {p l : Addr} {σ : L2.St} {H : Hp} {te : TE} {i : Nat} {N : Int → Prop} (hp : σ[i]? = some (some (.ref p))) (h : Bn (frD p l) te σ H fun m => m < 2 ^ 200 ∧ ∀ r, 0 ≤ r → (r < m ∨ r = 0) → N r) : Bn (frD p l) (tCall spDrawW [] E0 (tCons (tVar i) (tCons te tNil))) σ H N := fun G a b Q q =>
  ⟨_, hp, h G a b _ fun G1 m I1 r1 ⟨m1, k⟩ => ⟨p, l, m, rfl, I1, m1, fun G2 r D2 E2 h0 h1 => q G2 r D2 (Same.trans r1 E2) (k r h0 h1)⟩⟩
theorem dk_flat {m n k : Nat} {d : Mv} {x : PyData} (h : DoesK m d n k x) : flatT x = true := by
  obtain ⟨t, rfl, _⟩ := h
  exact tm_flat t
/-- what stands while a deed is told often -/
structure OS (p l : Addr) (H : Hp) (dv pv : V) (d : Mv) (G : Hp) : Prop where
  D : Deck G p l
  E : Ext p l H G
  qd : Dq G dv (tmD (.doo d))
  qp : Dq G pv (.tuple [.str "part", .int 0])
theorem OS.deck {p l : Addr} {H G G' : Hp} {dv pv : V} {d : Mv} (h : OS p l H dv pv d G) (D : Deck G' p l) (E : Ext p l G G') : OS p l H dv pv d G' := ⟨D, Same.trans h.E E, Dq.upT (TS.deck h.D E) (tm_flat _) h.qd, Dq.upT (TS.deck h.D E) rfl h.qp⟩
def spOften : Sp := fun vs H Q _ => ∃ (p l : Addr) (dv : V) (m k : Nat) (d : Mv), vs = [.ref p, dv, .int (k : Int)] ∧ Deck H p l ∧ Dq H dv (tmD (.doo d)) ∧ Deed m d ∧ k ≤ 10 ^ 30 ∧ ∀ H' v ts, Deck H' p l → Ext p l H H' → Dq H' v (.tuple (ts.map tmD)) → PrOk (Deed m) 400 6 ts → progW movM ts = List.replicate k d → Q v H'
section
variable {P : Program} {w : World} {K : PySem.W.Frag} {mg : Str → Option Value} {base : Heap}
abbrev n_lOften : List Str := ["deck", "deed", "times", "part", "way", "last", "first", "one", "other", "rest"]
theorem sc_lOften : FnScope n_lOften ["deck", "deed", "times"] (defScope sLOften) := ⟨rfl, rfl, rfl, by decide +kernel, rfl, by decide +kernel, by decide +kernel⟩
theorem o_lOften (D0 : Df K mg "_law_often" sLOften ["deck", "deed", "times"]) (B : Bi mg) (dr : Ok P w K mg base 1 "_law_draw" ["deck", "many"] spDraw) (dw : Ok P w K mg base 1 "_law_draw" ["deck", "many"] spDrawW) : Ok P w K mg base 2 "_law_often" ["deck", "deed", "times"] spOften := by
  refine D0.ok fun f fd F => F.ok sc_lOften (fun vs H Q E h => ?_) (fun cdv A outer s H vs Q E hr h => ?_)
  · obtain ⟨_, _, _, _, _, _, rfl, _⟩ := h
    rfl
  · obtain ⟨p, l, dv, m, k, d, rfl, Dk, hdv, hd, hk, q⟩ := h
    have hr_dr := hr.mono (show 1 ≤ 1 by omega)
    have hr_dw := hr.mono (show 1 ≤ 1 by omega)
    have hu : (cxOf CX0 P w K mg base n_lOften "_law_often" (defScope sLOften) f cdv A outer s H E).A.units + 64 < cLine := hr.units
    have hu1 := hu_of hr
    refine ⟨_, pss_cons (ps_par (i := 3) (j := 4) rfl sc_lOften.nd rfl rfl (by decide) rfl rfl (pa_cons (pe_tup (pa_cons pe_str (pa_cons pe_int pa_nil))) (pa_cons (pe_fn dw hr_dw (by rfl) (pa_cons (pv 0) (pa_cons pe_int pa_nil))) pa_nil)) (by rfl))
      (pss_cons (ps_set (i := 5) sc_lOften.nd rfl (.inl rfl) (pe_tup (pa_cons pe_str (pa_cons (pv 3) (pa_cons (pv 2) pa_nil)))))
      (pss_cons (ps_if (pt_cmpR op_gt (pv 4) pe_int (nomark _)) (pss_cons (ps_set (i := 6) sc_lOften.nd rfl (.inl rfl) (pe_fn dw hr_dw (by rfl) (pa_cons (pv 0) (pa_cons (pe_op op_add (pv 2) pe_int) pa_nil))))
        (pss_cons (ps_par (i := 7) (j := 8) rfl sc_lOften.nd rfl rfl (by decide) rfl rfl (pa_cons (pe_tup (pa_cons pe_str (pa_cons (pv 3) (pa_cons (pv 6) pa_nil)))) (pa_cons (pe_tup (pa_cons pe_str (pa_cons (pv 3) (pa_cons (pe_op op_sub (pv 2) (pv 6)) pa_nil)))) pa_nil)) (by rfl))
        (pss_one (ps_set (i := 5) sc_lOften.nd rfl (.inl rfl) (pe_tup (pa_cons pe_str (pa_cons (pe_tup (pa_cons (pe_ifExp (pt_cmpR op_eq (pv 4) pe_int (nomark _)) (pv 7) (pe_tup (pa_cons pe_str (pa_cons (pv 7) pa_nil)))) (pa_cons (pe_ifExp (pt_cmpR op_eq (pv 4) pe_int (nomark _)) (pv 8) (pe_tup (pa_cons pe_str (pa_cons (pv 8) pa_nil)))) pa_nil))) pa_nil))))))) pss_nil)
      (pss_cons (ps_if (pt_cmpR op_eq (pv 4) pe_int (nomark _)) (pss_one (ps_set (i := 5) sc_lOften.nd rfl (.inl rfl) (pe_tup (pa_cons pe_str (pa_cons (pv 1) (pa_cons (pv 2) pa_nil)))))) (pss_one (ps_if (pt_cmpR op_eq (pv 4) pe_int (nomark _)) (pss_one (ps_set (i := 5) sc_lOften.nd rfl (.inl rfl) (pe_tup (pa_cons pe_str (pa_cons (pe_tup (pa_cons pe_str (pa_cons (pv 3) (pa_cons (pv 2) pa_nil)))) pa_nil))))) (pss_one (ps_if (pt_cmpR op_eq (pv 4) pe_int (nomark _)) (pss_cons (ps_set (i := 9) sc_lOften.nd rfl (.inl rfl) (pe_tup (pa_cons pe_str (pa_cons (pv 3) (pa_cons (pe_op op_mod (pe_callTy call_int1 (by rfl) B.int (by decide +kernel) (pa_cons (pv 2) pa_nil)) pe_int) pa_nil)))))
            (pss_one (ps_set (i := 5) sc_lOften.nd rfl (.inl rfl) (pe_tup (pa_cons pe_str (pa_cons (pe_tup (pa_cons (pe_tup (pa_cons pe_str (pa_cons (pe_tup (pa_cons pe_str (pa_cons (pe_op op_repA (pe_tup (pa_cons (pv 3) pa_nil)) pe_int) pa_nil))) (pa_cons (pe_op op_fdiv (pv 2) pe_int) pa_nil)))) (pa_cons (pv 9) pa_nil))) pa_nil)))))) (pss_one (ps_if (pt_cmpR op_eq (pv 4) pe_int (nomark _)) (pss_cons (ps_set (i := 9) sc_lOften.nd rfl (.inl rfl) (pe_tup (pa_cons pe_str (pa_cons (pe_tup (pa_cons pe_str (pa_cons (pv 1) pa_nil))) (pa_cons (pe_op op_mod (pe_callTy call_int1 (by rfl) B.int (by decide +kernel) (pa_cons (pv 2) pa_nil)) pe_int) pa_nil)))))
              (pss_one (ps_set (i := 5) sc_lOften.nd rfl (.inl rfl) (pe_tup (pa_cons pe_str (pa_cons (pe_tup (pa_cons (pe_tup (pa_cons pe_str (pa_cons (pe_tup (pa_cons pe_str (pa_cons (pv 3) (pa_cons pe_int pa_nil)))) (pa_cons (pe_op op_fdiv (pv 2) pe_int) pa_nil)))) (pa_cons (pv 9) pa_nil))) pa_nil)))))) (pss_one (ps_if (pt_cmpR op_eq (pv 4) pe_int (nomark _)) (pss_one (ps_set (i := 5) sc_lOften.nd rfl (.inl rfl) (pe_tup (pa_cons pe_str (pa_cons (pe_tup (pa_cons pe_str (pa_cons (pe_tup (pa_cons pe_str (pa_cons (pe_tup (pa_cons (pv 1) pa_nil)) pa_nil))) (pa_cons (pv 2) pa_nil)))) pa_nil))))) pss_nil)))))))))
      (pss_one (ps_ret (pe_ifExp (pt_cmpR op_eq (pe_fn dw hr_dw (by rfl) (pa_cons (pv 0) (pa_cons pe_int pa_nil))) pe_int (nomark _)) (pe_tup (pa_cons (pv 1) (pa_cons (pv 5) pa_nil))) (pe_tup (pa_cons (pv 1) (pa_cons (pv 5) (pa_cons (pe_tup (pa_cons pe_str (pa_cons (pe_tup (pa_cons pe_str (pa_cons pe_int pa_nil))) pa_nil))) pa_nil)))))))))), ?_⟩
    refine sq_par (bq_at (F := frD p l) (H := H) (R := fun x => x = .tuple [.str "part", .int 0]) ?_ Dk fun G1 pv x D1 E1 q1 f1 e1 => ?_)
    · walk_at "bq"
      rfl
    subst e1
    have D1 : Deck G1 p l := D1
    have E1 : Ext p l H G1 := E1
    have O1 : OS p l H dv pv d G1 := ⟨D1, E1, Dq.upT (TS.deck Dk E1) (tm_flat _) hdv, q1⟩
    refine bn_at (F := frD p l) (H := G1) (N := fun _ => True) (bn_drawW rfl (bn_c ⟨by decide, fun r h0 h1 => trivial⟩)) D1 fun G2 wy D2 E2 _ => ⟨_, _, rfl, ?_⟩
    have O2 := O1.deck D2 E2
    clear O1 D1 E1 q1 D2 E2
    refine sq_asg (bq_at (F := frD p l) (H := G2) (R := DoesK m d 2 k) ?_ O2.D fun G3 lv x D3 E3 q3 f3 h3 => ?_)
    · walk_at "bq"
      refine bq_var O2.D rfl O2.qp rfl ?_
      walk_at "bq"
      refine bq_ivar rfl ?_
      walk_at "bq"
      exact (dk_times dk_part hk).mono
    have O3 := O2.deck D3 E3
    clear O2 D3 E3
    refine sq_if ?_
    refine ⟨_, rfl, _, _, rfl, rfl, _, rfl, ?_⟩
    refine ifS_join (R := fun σ G => ∃ (lv : V) (x : PyData) (v6 v7 v8 : Option V), σ = [some (.ref p), some dv, some (.int (k : Int)), some pv, some (.int wy), some lv, v6, v7, v8, none] ∧ OS p l H dv pv d G ∧ Dq G lv x ∧ DoesK m d 4 k x) ?_ (fun c D' kD => ?_) (fun c D' kD => kD _ _ ⟨lv, x, none, none, none, rfl, O3, q3, h3.mono⟩)
    rotate_left
    · refine sq_asg (bn_at (F := frD p l) (H := G3) (N := fun y => ∃ c : Nat, y = (c : Int) ∧ c ≤ k) (bn_drawW rfl (bn_op (bn_var rfl (bn_c ⟨?_, fun r h0 h1 => ⟨r.toNat, by omega, by omega⟩⟩)))) O3.D fun G4 fs D4 E4 hfs => ?_)
      · have : ((k : Int)) ≤ 10 ^ 30 := by omega
        have h2 : (10 : Int) ^ 30 + 1 < 2 ^ 200 := by decide +kernel
        omega
      obtain ⟨first, rfl, hfk⟩ := hfs
      have O4 := O3.deck D4 E4
      refine sq_par (bq_at (F := frD p l) (H := G4) (R := DoesK m d 2 first) ?_ O4.D fun G5 ov x5 D5 E5 q5 f5 h5 => ?_)
      · walk_at "bq"
        refine bq_var O4.D rfl O4.qp rfl ?_
        walk_at "bq"
        refine bq_ivar rfl ?_
        walk_at "bq"
        exact (dk_times dk_part (by omega)).mono
      have O5 := O4.deck D5 E5
      refine bq_at (F := frD p l) (H := G5) (R := DoesK m d 2 (k - first)) ?_ O5.D fun G6 uv x6 D6 E6 q6 f6 h6 => ⟨_, _, rfl, ?_⟩
      · walk_at "bq"
        refine bq_var O5.D rfl O5.qp rfl ?_
        walk_at "bq"
        refine bq_int (N := fun y => y = ((k - first : Nat) : Int)) (bn_op (bn_var rfl (bn_var rfl (by omega)))) fun y hy => ?_
        subst hy
        walk_at "bq"
        exact (dk_times dk_part (by omega)).mono
      have O6 := O5.deck D6 E6
      have q56 := Dq.upT (TS.deck O5.D E6) f5 q5
      refine one_asg (bq_at (F := frD p l) (H := G6) (R := DoesK m d 4 k) ?_ O6.D fun G7 lv7 x7 D7 E7 q7 f7 h7 => kD _ _ ⟨lv7, x7, _, _, _, rfl, O6.deck D7 E7, q7, h7⟩)
      walk_at "bq"
      refine Bq.mono (R := DoesK m d 3 first) (bq_eqc rfl (fun _ => bq_var O6.D rfl q56 f5 h5.mono) (fun _ => ?_)) fun y hy => ?_
      · walk_at "bq"
        refine bq_var O6.D rfl q56 f5 ?_
        walk_at "bq"
        exact dk_back h5
      walk_at "bq"
      refine Bq.mono (R := DoesK m d 3 (k - first)) (bq_eqc rfl (fun _ => bq_var O6.D rfl q6 f6 h6.mono) (fun _ => ?_)) fun z hz => ?_
      · walk_at "bq"
        refine bq_var O6.D rfl q6 f6 ?_
        walk_at "bq"
        exact dk_back h6
      walk_at "bq"
      exact (dk_row2 hy hz).mono
    clear O3 q3 f3 h3 lv x
    rintro σ G3 ⟨lv, x, v6, v7, v8, rfl, O3, q3, h3⟩
    dsimp only [tNext]
    refine sq_if ?_
    refine ⟨_, rfl, rfl, _, rfl, ?_⟩
    have mod : ∀ (G : Hp) (σ : L2.St) (c : Nat), 0 < c → σ[2]? = some (some (.int (k : Int))) → Bn (frD p l) (tOp (rI (fun x j => 0 < j) fun i j => V.int (i % j)) (tCB (fun (xs : List V) (H : Hp) (Q : VK) => (∃ i, xs = [V.int i] ∧ Q (V.int i) H) ∨ ∃ k, xs = [V.bl k] ∧ Q (V.int (if k = true then 1 else 0)) H) (tCons (tVar 2) tNil)) (tC (.int (c : Int)))) σ G (fun y => y = ((k % c : Nat) : Int)) := fun G σ c hc e => bn_opC (bn_int1 (bn_var e (bn_c ⟨by show (0 : Int) < (c : Int); omega, (Int.natCast_emod k c).symm⟩)))
    have quo : ∀ (G : Hp) (σ : L2.St) (c : Nat), 0 < c → c < 1000 → σ[2]? = some (some (.int (k : Int))) → Bn (frD p l) (tOp (rI CDiv fun i j => V.int (i / j)) (tVar 2) (tC (.int (c : Int)))) σ G (fun y => y = ((k / c : Nat) : Int)) := fun G σ c hc hc2 e => bn_opC (bn_var e (bn_c ⟨⟨by omega, by omega⟩, (Int.natCast_ediv k c).symm⟩))
    refine ifS_join (R := fun σ G => ∃ (lv : V) (x : PyData) (v6 v7 v8 v9 : Option V), σ = [some (.ref p), some dv, some (.int (k : Int)), some pv, some (.int wy), some lv, v6, v7, v8, v9] ∧ OS p l H dv pv d G ∧ Dq G lv x ∧ DoesK m d 5 k x) ?_ (fun c D' kD => ?_) (fun c D' kD => ?_)
    rotate_left
    · refine one_asg (bq_at (F := frD p l) (H := G3) (R := DoesK m d 5 k) ?_ O3.D fun G7 lv7 x7 D7 E7 q7 f7 h7 => kD _ _ ⟨lv7, x7, _, _, _, _, rfl, O3.deck D7 E7, q7, h7⟩)
      walk_at "bq"
      refine bq_var O3.D rfl O3.qd (tm_flat _) ?_
      walk_at "bq"
      refine bq_ivar rfl ?_
      walk_at "bq"
      exact (dk_times (dk_do hd) hk).mono
    · refine one_if ⟨_, rfl, rfl, _, rfl, ite2 (fun c => ?_) (fun c => ?_)⟩
      · refine one_asg (bq_at (F := frD p l) (H := G3) (R := DoesK m d 5 k) ?_ O3.D fun G7 lv7 x7 D7 E7 q7 f7 h7 => kD _ _ ⟨lv7, x7, _, _, _, _, rfl, O3.deck D7 E7, q7, h7⟩)
        walk_at "bq"
        refine bq_var O3.D rfl O3.qp rfl ?_
        walk_at "bq"
        refine bq_ivar rfl ?_
        walk_at "bq"
        exact (dk_back (dk_times dk_part hk)).mono
      refine one_if ⟨_, rfl, rfl, _, rfl, ite2 (fun c => ?_) (fun c => ?_)⟩
      · refine sq_asg (bq_at (F := frD p l) (H := G3) (R := DoesK m d 2 (k % 400)) ?_ O3.D fun G4 rv x4 D4 E4 q4 f4 h4 => ?_)
        · walk_at "bq"
          refine bq_var O3.D rfl O3.qp rfl ?_
          walk_at "bq"
          refine bq_int (mod _ _ 400 (by decide) rfl) fun y hy => ?_
          subst hy
          walk_at "bq"
          exact (dk_times dk_part (by omega)).mono
        have O4 := O3.deck D4 E4
        refine one_asg (bq_at (F := frD p l) (H := G4) (R := DoesK m d 5 k) ?_ O4.D fun G7 lv7 x7 D7 E7 q7 f7 h7 => kD _ _ ⟨lv7, x7, _, _, _, _, rfl, O4.deck D7 E7, q7, h7⟩)
        walk_at "bq"
        refine bq_rep ?_
        walk_at "bq"
        refine bq_var O4.D rfl O4.qp rfl ?_
        walk_at "bq"
        refine ⟨_, rfl, by simp, bn_c ⟨by decide, by simp, ?_⟩⟩
        walk_at "bq"
        refine bq_int (quo _ _ 400 (by decide) (by decide) rfl) fun y hy => ?_
        subst hy
        walk_at "bq"
        refine bq_var O4.D rfl q4 f4 ?_
        walk_at "bq"
        have e : (List.replicate (400 : Int).toNat [PyData.tuple [.str "part", .int 0]]).flatten = List.replicate 400 (PyData.tuple [.str "part", .int 0]) := rep_one _ 400
        rw [e]
        refine (dk_row2 (dk_times (dk_rep (c := 400) dk_part (by decide)) (c := k / 400) (by omega)) (h4.mono (n' := 3) (by decide) rfl)).mono (by omega) ?_
        omega
      refine one_if ⟨_, rfl, rfl, _, rfl, ite2 (fun c => ?_) (fun c => ?_)⟩
      · refine sq_asg (bq_at (F := frD p l) (H := G3) (R := DoesK m d 3 (k % 50)) ?_ O3.D fun G4 rv x4 D4 E4 q4 f4 h4 => ?_)
        · walk_at "bq"
          refine bq_var O3.D rfl O3.qd (tm_flat _) ?_
          walk_at "bq"
          refine bq_int (mod _ _ 50 (by decide) rfl) fun y hy => ?_
          subst hy
          walk_at "bq"
          exact (dk_times (dk_back (dk_do hd)) (by omega)).mono
        have O4 := O3.deck D4 E4
        refine one_asg (bq_at (F := frD p l) (H := G4) (R := DoesK m d 5 k) ?_ O4.D fun G7 lv7 x7 D7 E7 q7 f7 h7 => kD _ _ ⟨lv7, x7, _, _, _, _, rfl, O4.deck D7 E7, q7, h7⟩)
        walk_at "bq"
        refine bq_var O4.D rfl O4.qp rfl ?_
        walk_at "bq"
        refine bq_int (quo _ _ 50 (by decide) (by decide) rfl) fun y hy => ?_
        subst hy
        walk_at "bq"
        refine bq_var O4.D rfl q4 f4 ?_
        walk_at "bq"
        refine (dk_row2 (dk_times (dk_times (c := 50) dk_part (by decide +kernel)) (c := k / 50) (by omega)) h4).mono (by omega) ?_
        omega
      refine one_if ⟨_, rfl, rfl, _, rfl, ite2 (fun c => ?_) (fun c => kD _ _ ⟨lv, x, _, _, _, _, rfl, O3, q3, h3.mono⟩)⟩
      refine one_asg (bq_at (F := frD p l) (H := G3) (R := DoesK m d 5 k) ?_ O3.D fun G7 lv7 x7 D7 E7 q7 f7 h7 => kD _ _ ⟨lv7, x7, _, _, _, _, rfl, O3.deck D7 E7, q7, h7⟩)
      walk_at "bq"
      refine bq_var O3.D rfl O3.qd (tm_flat _) ?_
      walk_at "bq"
      refine bq_ivar rfl ?_
      walk_at "bq"
      exact (dk_back (dk_times (dk_row1 (dk_do hd)) hk)).mono
    clear O3 q3 h3 lv x
    rintro σ G3 ⟨lv, x, v6, v7, v8, v9, rfl, O3, q3, ⟨t, rfl, ot, pt, et⟩⟩
    dsimp only
    refine one_ret ?_
    refine (bn_drawW (p := p) (l := l) (H := G3) (i := 0) (te := tC (.int 2)) (N := fun _ => True) rfl (bn_c ⟨by decide, fun r h0 h1 => trivial⟩)) G3 O3.D Ext.rfl _ fun G4 r D4 E4 _ => ?_
    have O4 := O3.deck D4 E4
    have q4 := Dq.upT (TS.deck O3.D E4) (tm_flat t) q3
    have ok0 : okTm (Deed m) 400 0 (.doo d) := by simp only [okTm]; exact hd
    refine ⟨rfl, _, rfl, ite2 (fun c => ?_) (fun c => ?_)⟩
    · refine bq_at (F := frD p l) (H := G4) (R := fun y => y = .tuple ([.doo d, t].map tmD)) ?_ O4.D fun G5 v y D5 E5 q5 f5 e5 => ?_
      · walk_at "bq"
        refine bq_var O4.D rfl O4.qd (tm_flat _) ?_
        walk_at "bq"
        refine bq_var O4.D rfl q4 (tm_flat _) ?_
        walk_at "bq"
        rfl
      subst e5
      refine q G5 v [.doo d, t] D5 (Same.trans O4.E E5) q5 ⟨by simp, by simp, fun i u hu => ?_⟩ ?_
      · match i, hu with
        | 0, hu => cases Option.some.inj hu; exact ⟨ok0, by simp only [dep]; omega⟩
        | 1, hu => cases Option.some.inj hu; exact ⟨ot, by omega⟩
        | _ + 2, hu => simp at hu
      · exact (progW_snoc movM [.doo d] t).trans et
    · refine bq_at (F := frD p l) (H := G4) (R := fun y => y = .tuple ([.doo d, t, .back (.part 1)].map tmD)) ?_ O4.D fun G5 v y D5 E5 q5 f5 e5 => ?_
      · walk_at "bq"
        refine bq_var O4.D rfl O4.qd (tm_flat _) ?_
        walk_at "bq"
        refine bq_var O4.D rfl q4 (tm_flat _) ?_
        walk_at "bq"
        simp only [List.map_cons, List.map_nil, tmD]
        rfl
      subst e5
      refine q G5 v [.doo d, t, .back (.part 1)] D5 (Same.trans O4.E E5) q5 ⟨by simp, by simp, fun i u hu => ?_⟩ ?_
      · match i, hu with
        | 0, hu => cases Option.some.inj hu; exact ⟨ok0, by simp only [dep]; omega⟩
        | 1, hu => cases Option.some.inj hu; exact ⟨ot, by omega⟩
        | 2, hu => cases Option.some.inj hu; exact ⟨by simp only [okTm]; omega, by simp only [dep]; omega⟩
        | _ + 3, hu => simp at hu
      · have h1 := progW_snoc movM [.doo d, t] (.back (.part 1))
        have h2 : worth movM (wsAll movM [.doo d, t] []) (.back (.part 1)) = (worth movM [[d]] t).reverse := by
          rw [mv_back]
          rfl
        exact h1.trans (h2.trans (by rw [et, List.reverse_replicate]))
end
end Kr
namespace Kr
open PySem PySem.Spec PyProof.Rows L2
local macro_rules | `(tactic| walk_at "bq") => `(tactic| repeat' (first | with_reducible refine bqa_nil ?_ | with_reducible refine bqa_cons ?_ | with_reducible refine bq_tup0 ?_ | with_reducible refine bq_tup1 ?_ | with_reducible refine bq_tup2 ?_ | with_reducible refine bq_tup3 ?_ | with_reducible refine bq_str ?_ | with_reducible refine bq_c ?_ | with_reducible refine bn_c ?_ | with_reducible refine bn_op ?_))
/-- a term that does nothing, where the parts do nothing -/
def NoK (m k n : Nat) (x : PyData) : Prop := ∃ t, x = tmD t ∧ okTm (Deed m) 400 k t ∧ dep t ≤ n ∧ ∀ ws : List (List Mv), (∀ a ∈ ws, a = []) → worth movM ws t = []
theorem flat_none : ∀ {ls : List (List Mv)}, (∀ a ∈ ls, a = []) → ls.flatten = []
  | [], _ => rfl
  | l :: ls, h => by
    rw [List.flatten_cons, h l List.mem_cons_self, flat_none fun a ha => h a (List.mem_cons_of_mem _ ha)]
    rfl
theorem nk_part {m : Nat} : NoK m 1 1 (.tuple [.str "part", .int 0]) := ⟨.part 0, by simp only [tmD]; rfl, by simp only [okTm]; omega, by simp only [dep]; omega, fun ws h => by
  simp only [worth]
  rw [List.getD_eq_getElem?_getD]
  cases e : ws[0]? with
  | none => rfl
  | some a => exact h a (List.mem_of_getElem? e)⟩
theorem nk_zero {m k : Nat} {d : Mv} (h : Deed m d) : NoK m k 2 (.tuple [.str "times", tmD (.doo d), .int 0]) := ⟨.times (.doo d) 0, by simp only [tmD]; rfl, by simp only [okTm]; exact ⟨Nat.zero_le _, h⟩, by simp only [dep]; omega, fun ws h => by rw [mv_times]; rfl⟩
theorem nk_times {m k n c : Nat} {x : PyData} (h : NoK m k n x) (hc : c ≤ 10 ^ 30) : NoK m k (n + 1) (.tuple [.str "times", x, .int (c : Int)]) := by
  obtain ⟨t, rfl, o, p, e⟩ := h
  exact ⟨.times t c, by simp only [tmD], by simp only [okTm]; exact ⟨hc, o⟩, by simp only [dep]; omega, fun ws hw => by
    rw [mv_times, e ws hw]
    exact flat_none fun a ha => List.eq_of_mem_replicate ha⟩
theorem nk_back {m k n : Nat} {x : PyData} (h : NoK m k n x) : NoK m k (n + 1) (.tuple [.str "back", x]) := by
  obtain ⟨t, rfl, o, p, e⟩ := h
  exact ⟨.back t, by simp only [tmD], by simp only [okTm]; exact o, by simp only [dep]; omega, fun ws hw => by rw [mv_back, e ws hw]; rfl⟩
theorem nk_row {m k n : Nat} {xs : List PyData} (h : ∀ x ∈ xs, NoK m k n x) (hl : xs.length ≤ 400) : NoK m k (n + 1) (.tuple [.str "row", .tuple xs]) := by
  have : ∀ xs : List PyData, (∀ x ∈ xs, NoK m k n x) → ∃ ts, xs = tmDs ts ∧ okTms (Deed m) 400 k ts ∧ depL ts ≤ n ∧ ts.length = xs.length ∧ ∀ ws : List (List Mv), (∀ a ∈ ws, a = []) → ∀ t ∈ ts, worth movM ws t = [] := by
    intro xs
    induction xs with
    | nil => intro _; exact ⟨[], rfl, by simp [okTms], by simp [depL], rfl, fun _ _ _ h => nomatch h⟩
    | cons x xs ih =>
      intro h
      obtain ⟨t, rfl, a1, a2, a3⟩ := h x List.mem_cons_self
      obtain ⟨ts, rfl, b1, b2, b3, b4⟩ := ih fun y hy => h y (List.mem_cons_of_mem _ hy)
      refine ⟨t :: ts, by simp only [tmDs], by simp only [okTms]; exact ⟨a1, b1⟩, by simp only [depL]; exact Nat.max_le.mpr ⟨a2, b2⟩, by simp [b3], fun ws hw u hu => ?_⟩
      rcases List.mem_cons.mp hu with rfl | hu
      · exact a3 ws hw
      · exact b4 ws hw u hu
  obtain ⟨ts, rfl, h1, h2, h3, h4⟩ := this xs h
  exact ⟨.row ts, by simp only [tmD], by simp only [okTm]; exact ⟨by omega, h1⟩, by simp only [dep]; omega, fun ws hw => by
    rw [mv_row]
    exact flat_none fun a ha => by
      obtain ⟨t, ht, rfl⟩ := List.mem_map.mp ha
      exact h4 ws hw t ht⟩
theorem NoK.mono {m k n n' : Nat} {x : PyData} (h : NoK m k n x) (hn : n ≤ n' := by omega) : NoK m k n' x := by
  obtain ⟨t, rfl, o, p, e⟩ := h
  exact ⟨t, rfl, o, Nat.le_trans p hn, e⟩
theorem nk_flat {m k n : Nat} {x : PyData} (h : NoK m k n x) : flatT x = true := by
  obtain ⟨t, rfl, _⟩ := h
  exact tm_flat t
theorem nk_prog {m : Nat} {x y : PyData} (h : NoK m 0 6 x) (g : NoK m 1 6 y) : ∃ t u, x = tmD t ∧ y = tmD u ∧ PrOk (Deed m) 400 6 [t, u] ∧ progW movM [t, u] = [] := by
  obtain ⟨t, rfl, o1, p1, e1⟩ := h
  obtain ⟨u, rfl, o2, p2, e2⟩ := g
  refine ⟨t, u, rfl, rfl, ⟨by simp, by simp, fun i w hw => ?_⟩, ?_⟩
  · match i, hw with
    | 0, hw => cases Option.some.inj hw; exact ⟨o1, p1⟩
    | 1, hw => cases Option.some.inj hw; exact ⟨o2, p2⟩
    | _ + 2, hw => simp at hw
  · refine (progW_snoc movM [t] u).trans (e2 _ fun a ha => ?_)
    have ha : a ∈ [worth movM [] t] := ha
    rw [List.mem_singleton.mp ha]
    exact e1 [] fun _ h => nomatch h
structure OI (p l : Addr) (H : Hp) (dv sv : V) (d : Mv) (ss : List Int) (G : Hp) : Prop where
  D : Deck G p l
  E : Ext p l H G
  qd : Dq G dv (tmD (.doo d))
  qs : Dq G sv (stD ss)
theorem OI.deck {p l : Addr} {H G G' : Hp} {dv sv : V} {d : Mv} {ss : List Int} (h : OI p l H dv sv d ss G) (D : Deck G' p l) (E : Ext p l G G') : OI p l H dv sv d ss G' := ⟨D, Same.trans h.E E, Dq.upT (TS.deck h.D E) (tm_flat _) h.qd, Dq.upT (TS.deck h.D E) (st_flat _) h.qs⟩
theorem OI.up {p l : Addr} {H G G' : Hp} {dv sv : V} {d : Mv} {ss : List Int} (h : OI p l H dv sv d ss G) (s : Same G G') : OI p l H dv sv d ss G' := h.deck (h.D.up s) (Ext.of s)
/-- a list of items in the heap: one that is drawn from it -/
theorem pick_from {p l L : Addr} {G : Hp} {us : List V} {ds : List PyData} {R : PyData → Prop} {Q : VK} (D : Deck G p l) (hL : hid p l G L = some (.lst us)) (q : DqA G us ds) (f : flatTA ds = true) (hne : us ≠ []) (hl : us.length < 1000000) (hR : ∀ d ∈ ds, R d) (k : ∀ G' v d, Deck G' p l → Ext p l G G' → Dq G' v d → flatT d = true → R d → Q v G') : spPick [.ref p, .ref L] G Q fun _ _ _ => False := by
  refine ⟨p, l, L, us, rfl, D, hL, hne, hl, fun G' v D' E' hv => ?_⟩
  obtain ⟨i, hi⟩ := List.getElem?_of_mem hv
  obtain ⟨d, hd, qd⟩ := q.get hi
  have hm := List.mem_of_getElem? hd
  exact k G' v d D' E' (Dq.upT (TS.deck D E') (flatTA_mem f d hm) qd) (flatTA_mem f d hm) (hR d hm)
def spIdle : Sp := fun vs H Q _ => ∃ (p l : Addr), vs = [.ref p] ∧ Deck H p l ∧ ∀ H', Deck H' p l → Ext p l H H' → Q (.bl true) H'
section
variable {P : Program} {w : World} {K : PySem.W.Frag} {mg : Str → Option Value} {base : Heap}
abbrev n_lIdle : List Str := ["deck", "many", "deed", "standing", "none", "terms", "first", "far", "lasts", "told"]
theorem sc_lIdle : FnScope n_lIdle ["deck"] (defScope sLIsIdle) := ⟨rfl, rfl, rfl, by decide +kernel, rfl, by decide +kernel, by decide +kernel⟩
theorem o_lIdle (D0 : Df K mg "_law_is_idle" sLIsIdle ["deck"]) (B : Bi mg) (dr : Ok P w K mg base 1 "_law_draw" ["deck", "many"] spDraw) (dd : Ok P w K mg base 3 "_law_deed" ["deck", "many"] spDeed7) (sd : Ok P w K mg base 3 "_law_standing" ["deck", "many"] spStanding) (pk : Ok P w K mg base 2 "_law_pick" ["deck", "items"] spPick) (to : Ok P w K mg base 20 "_law_told" ["many", "program", "standing", "is_named"] (spTold 16)) : OkG P w K mg base 60 "_law_is_idle" ["deck"] spIdle := by
  refine D0.okG fun f fd F => okG F sc_lIdle (fun vs H Q E h => ?_) (fun cdv A outer s H vs Q E hg hr h => ?_)
  · obtain ⟨_, _, rfl, _⟩ := h
    rfl
  · obtain ⟨p, l, rfl, Dk, q⟩ := h
    have hr_dr := hr.mono (show 1 ≤ 59 by omega)
    have hr_dd := hr.mono (show 3 ≤ 59 by omega)
    have hr_sd := hr.mono (show 3 ≤ 59 by omega)
    have hr_pk := hr.mono (show 2 ≤ 59 by omega)
    have hr_to := hr.mono (show 20 ≤ 59 by omega)
    have hu : (cxOf CX0 P w K mg base n_lIdle "_law_is_idle" (defScope sLIsIdle) f cdv A outer s H E).A.units + 64 < cLine := hr.units
    have hu1 := hu_of hr
    have cr := call_repr (X := (cxOf CX0 P w K mg base n_lIdle "_law_is_idle" (defScope sLIsIdle) f cdv A outer s H E).nox) hg hr.units
    refine ⟨_, pss_cons (ps_set (i := 1) sc_lIdle.nd rfl (.inl rfl) (pe_op op_add pe_int (pe_fn dr hr_dr (by rfl) (pa_cons (pv 0) (pa_cons pe_int pa_nil)))))
      (pss_cons (ps_par3 (i := 2) (j := 3) (l := 4) rfl sc_lIdle.nd rfl rfl rfl (by decide) (by decide) (by decide) rfl rfl rfl (pa_cons (pe_tup (pa_cons pe_str (pa_cons (pe_fn dd hr_dd (by rfl) (pa_cons (pv 0) (pa_cons (pv 1) pa_nil))) pa_nil))) (pa_cons (pe_fn sd hr_sd (by rfl) (pa_cons (pv 0) (pa_cons (pv 1) pa_nil))) (pa_cons (pe_tup (pa_cons pe_str (pa_cons (pe_tup pa_nil) pa_nil))) pa_nil))) (by rfl))
      (pss_cons (ps_set (i := 5) sc_lIdle.nd rfl (.inl rfl) (pe_lst (pa_cons (pv 4) (pa_cons (pe_tup (pa_cons pe_str (pa_cons (pv 2) (pa_cons pe_int pa_nil)))) (pa_cons (pe_tup (pa_cons pe_str (pa_cons (pe_tup (pa_cons (pe_tup (pa_cons pe_str (pa_cons (pv 2) (pa_cons pe_int pa_nil)))) (pa_cons (pe_tup (pa_cons pe_str (pa_cons (pv 4) pa_nil))) pa_nil))) pa_nil))) pa_nil)))))
      (pss_cons (ps_set (i := 6) sc_lIdle.nd rfl (.inl rfl) (pe_fn pk hr_pk (by rfl) (pa_cons (pv 0) (pa_cons (pe_op op_cat (pv 5) (pe_lst (pa_cons (pe_tup (pa_cons pe_str (pa_cons (pe_tup (pa_cons pe_str (pa_cons (pv 2) (pa_cons pe_int pa_nil)))) (pa_cons (pe_op op_pow pe_int pe_int) pa_nil)))) pa_nil))) pa_nil))))
      (pss_cons (ps_set (i := 7) sc_lIdle.nd rfl (.inl rfl) (pe_tup (pa_cons pe_str (pa_cons (pe_tup (pa_cons pe_str (pa_cons pe_int pa_nil))) (pa_cons (pe_op op_pow pe_int pe_int) pa_nil)))))
      (pss_cons (ps_set (i := 8) sc_lIdle.nd rfl (.inl rfl) (pe_lst (pa_cons (pv 7) (pa_cons (pe_tup (pa_cons pe_str (pa_cons (pv 7) pa_nil))) (pa_cons (pe_tup (pa_cons pe_str (pa_cons (pv 7) (pa_cons (pe_op op_pow pe_int pe_int) pa_nil)))) (pa_cons (pe_tup (pa_cons pe_str (pa_cons (pe_tup (pa_cons (pv 7) (pa_cons (pe_tup (pa_cons pe_str (pa_cons (pe_tup (pa_cons pe_str (pa_cons (pv 7) pa_nil))) (pa_cons pe_int pa_nil)))) pa_nil))) pa_nil))) pa_nil))))))
      (pss_cons (ps_expr (pe_bm PySem.F.plainAttrs_list PySem.F.slot_list_append PySem.F.type_list_append mt_append (pv 8) (pa_cons (pe_tup (pa_cons pe_str (pa_cons (pe_op op_repA (pe_tup (pa_cons (pv 7) pa_nil)) pe_int) pa_nil))) pa_nil)))
      (pss_cons (ps_set (i := 9) sc_lIdle.nd rfl (.inl rfl) (pe_fn to hr_to (by rfl) (pa_cons (pv 1) (pa_cons (pe_tup (pa_cons (pv 6) (pa_cons (pe_fn pk hr_pk (by rfl) (pa_cons (pv 0) (pa_cons (pv 8) pa_nil))) pa_nil))) (pa_cons (pv 3) (pa_cons pe_bl pa_nil))))))
      (pss_one (ps_ret (pe_cmpR op_eq (pe_callB cr (by rfl) B.repr (by decide +kernel) (pa_cons (pv 9) pa_nil)) (pe_callB cr (by rfl) B.repr (by decide +kernel) (pa_cons (pe_lst (pa_cons pe_str (pa_cons (pv 3) pa_nil))) pa_nil)) (nomark _))))))))))), ?_⟩
    refine sq_asg (bn_at (F := frD p l) (H := H) (N := fun x => ∃ k : Nat, x = (k : Int) ∧ 3 ≤ k ∧ k ≤ 24) (bn_op (bn_c (bn_draw rfl (bn_c ⟨by decide, fun r h0 h1 => ⟨(3 + r).toNat, by omega, by omega, by omega⟩⟩)))) Dk fun G1 mv D1 E1 hm => ?_)
    obtain ⟨m, rfl, m0, m1⟩ := hm
    have D1 : Deck G1 p l := D1
    have E1 : Ext p l H G1 := E1
    refine sq_par3 (bq_at (F := frD p l) (H := G1) (R := fun x => ∃ d, x = tmD (.doo d) ∧ Deed m d) ?_ D1 fun G2 dv x D2 E2 q2 f2 h2 => ?_)
    · walk_at "bq"
      refine (bq_deed rfl rfl m0 m1).mono fun y ⟨md, e, hd⟩ => ?_
      walk_at "bq"
      exact ⟨md, by rw [e]; simp only [tmD], hd⟩
    obtain ⟨d, rfl, hd⟩ := h2
    have D2 : Deck G2 p l := D2
    have E2 : Ext p l G1 G2 := E2
    refine ⟨.ref p, rfl, .int (m : Int), rfl, p, l, (m : Int), rfl, D2, by omega, by omega, fun G3 st ss D3 E3 hst hsl hss => ?_⟩
    have hsl : ss.length = m := by rw [hsl, Int.toNat_natCast]
    have hss : ∀ z ∈ ss, 0 ≤ z ∧ z < 100 := fun z hz => by have := hss z hz; omega
    have O3 : OI p l H dv (.ref st) d ss G3 := ⟨D3, Same.trans E1 (Same.trans E2 E3), Dq.upT (TS.deck D2 E3) (tm_flat _) q2, .tup (hid_same p l G3 _ _ hst) (DqA.ints ss)⟩
    clear D1 E1 D2 E2 q2 D3 E3 hst
    dsimp only
    refine bq_at (F := frD p l) (H := G3) (R := NoK m 0 1) ?_ O3.D fun G4 nv x4 D4 E4 q4 f4 h4 => ⟨_, _, _, rfl, ?_⟩
    · walk_at "bq"
      exact nk_row (fun _ h => nomatch h) (by simp)
    have O4 := O3.deck D4 E4
    refine sq_asg (bq_lst (F := frD p l) (H := G4) (S := fun ds => ∀ x ∈ ds, NoK m 0 6 x) (n := 3) ?_ O4.D Ext.rfl (by decide) fun G5 T vs ds D5 E5 q5 l5 f5 hS nT => ?_)
    · walk_at "bq"
      refine bq_var O4.D rfl q4 f4 ?_
      walk_at "bq"
      refine bq_var O4.D rfl O4.qd (tm_flat _) ?_
      walk_at "bq"
      refine bq_var O4.D rfl O4.qd (tm_flat _) ?_
      walk_at "bq"
      refine bq_var O4.D rfl q4 f4 ?_
      walk_at "bq"
      intro x hx
      simp only [List.mem_cons, List.not_mem_nil, or_false] at hx
      rcases hx with rfl | rfl | rfl
      · exact h4.mono
      · exact (nk_zero hd).mono
      · exact (nk_row (n := 2) (fun y hy => by
          simp only [List.mem_cons, List.not_mem_nil, or_false] at hy
          rcases hy with rfl | rfl
          · exact nk_zero hd
          · exact nk_back h4) (by simp)).mono
    have O5 := O4.deck D5 E5
    have sT := same_new (o := .lst vs) nT
    obtain ⟨nTp, nTl⟩ := O5.D.new nT
    have O6 := O5.up sT
    have hT6 : hid p l (upd G5 T (.lst vs)) T = some (.lst vs) := hid_upd nTp nTl
    have q6 := q5.up sT
    generalize upd G5 T (.lst vs) = G6 at O6 hT6 q6
    clear O5 O4 O3 q4 f4 h4 D4 E4 D5 E5 q5 sT nT
    have hvl := q6.len
    refine sq_asg ?_
    refine ⟨.ref p, rfl, .ref T, rfl, bq_lst (F := frD p l) (H := G6) (S := fun ds => ∀ x ∈ ds, NoK m 0 6 x) (n := 1) ?_ O6.D Ext.rfl (by decide) fun G7 U us es D7 E7 q7 l7 f7 hS7 nU => ?_⟩
    · walk_at "bq"
      refine bq_var O6.D rfl O6.qd (tm_flat _) ?_
      walk_at "bq"
      refine bq_int (N := fun x => x = ((10 ^ 30 : Nat) : Int)) (bn_opC (bn_c (bn_c ⟨⟨by decide, by decide, by decide⟩, rfl⟩))) fun x hx => ?_
      subst hx
      walk_at "bq"
      intro x hx
      rw [List.mem_singleton.mp hx]
      exact (nk_times (c := 10 ^ 30) (nk_zero hd) (Nat.le_refl _)).mono
    have O7 := O6.deck D7 E7
    have sU := same_new (o := .lst us) nU
    have hT7 : hid p l (upd G7 U (.lst us)) T = some (.lst vs) := Ext.of sU _ _ (E7 _ _ hT6)
    have hvl7 := q7.len
    have q67 := (DqA.upT (TS.deck O6.D E7) f5 q6).up sU
    have q77 := q7.up sU
    have O8 := O7.up sU
    refine ⟨T, U, vs, us, rfl, rfl, hid_same p l _ _ _ hT7, upd_same, Nat.le_of_lt (szm (by omega)), fun W nW => ?_⟩
    have sW := same_new (o := .lst (vs ++ us)) nW
    obtain ⟨nWp, nWl⟩ := O8.D.new nW
    have O9 := O8.up sW
    have q9 : DqA (upd (upd G7 U (.lst us)) W (.lst (vs ++ us))) (vs ++ us) (ds ++ es) := (q67.up sW).app (q77.up sW)
    have fde : flatTA (ds ++ es) = true := flatTA_of fun x hx => (List.mem_append.mp hx).elim (fun h => nk_flat (hS x h)) fun h => nk_flat (hS7 x h)
    refine pick_from (R := NoK m 0 6) O9.D (hid_upd nWp nWl) q9 fde (fun z => by have h1 := (List.append_eq_nil_iff.mp z).1; rw [h1] at hvl; simp only [List.length_nil] at hvl; omega) (by rw [List.length_append]; omega) (fun x hx => (List.mem_append.mp hx).elim (hS x) (hS7 x)) fun GA fv x DA EA qa fa ha => ?_
    have OA := O9.deck DA EA
    clear O6 O7 O8 O9 q6 q67 q77 q9 q7 hT6 hT7 D7 E7 sU sW nU nW
    refine sq_asg (bq_at (F := frD p l) (H := GA) (R := NoK m 1 2) ?_ OA.D fun GB lv y DB EB qb fb hb => ?_)
    · walk_at "bq"
      refine bq_int (N := fun x => x = ((10 ^ 30 : Nat) : Int)) (bn_opC (bn_c (bn_c ⟨⟨by decide, by decide, by decide⟩, rfl⟩))) fun x hx => ?_
      subst hx
      walk_at "bq"
      exact nk_times (c := 10 ^ 30) nk_part (Nat.le_refl _)
    have OB := OA.deck DB EB
    have qa2 := Dq.upT (TS.deck OA.D EB) fa qa
    refine sq_asg (bq_lst (F := frD p l) (H := GB) (S := fun ds => ∀ x ∈ ds, NoK m 1 6 x) (n := 4) ?_ OB.D Ext.rfl (by decide) fun GC Z ws gs DC EC qc lc fc hSc nZ => ?_)
    · walk_at "bq"
      refine bq_var OB.D rfl qb fb ?_
      walk_at "bq"
      refine bq_var OB.D rfl qb fb ?_
      walk_at "bq"
      refine bq_var OB.D rfl qb fb ?_
      walk_at "bq"
      refine bq_int (N := fun x => x = ((10 ^ 30 : Nat) : Int)) (bn_opC (bn_c (bn_c ⟨⟨by decide, by decide, by decide⟩, rfl⟩))) fun x hx => ?_
      subst hx
      walk_at "bq"
      refine bq_var OB.D rfl qb fb ?_
      walk_at "bq"
      refine bq_var OB.D rfl qb fb ?_
      walk_at "bq"
      intro x hx
      simp only [List.mem_cons, List.not_mem_nil, or_false] at hx
      rcases hx with rfl | rfl | rfl | rfl
      · exact hb.mono
      · exact (nk_back hb).mono
      · exact (nk_times (c := 10 ^ 30) hb (Nat.le_refl _)).mono
      · exact (nk_row (n := 4) (fun y hy => by
          simp only [List.mem_cons, List.not_mem_nil, or_false] at hy
          rcases hy with rfl | rfl
          · exact hb.mono
          · exact (nk_times (c := 7) (nk_back hb) (by decide +kernel)).mono) (by simp)).mono
    have OC := OB.deck DC EC
    have sZ := same_new (o := .lst ws) nZ
    obtain ⟨nZp, nZl⟩ := OC.D.new nZ
    have OD := OC.up sZ
    have hZ : upd GC Z (.lst ws) Z = some (.lst ws) := upd_same
    have qcZ := qc.up sZ
    have qa3 := (Dq.upT (TS.deck OB.D EC) fa qa2).up sZ
    have qb3 := (Dq.upT (TS.deck OB.D EC) fb qb).up sZ
    have nZ0 : H Z = none := OC.E.free nZ nZp nZl
    generalize upd GC Z (.lst ws) = GD at OD hZ qcZ qa3 qb3
    clear OA OB OC qa qa2 qb qc DA EA DB EB DC EC sZ nZ
    have hwl := qcZ.len
    refine sq_drop ?_
    refine ⟨.ref Z, rfl, .inl ⟨rfl, ws, SqL.of hZ⟩, ?_⟩
    refine bq_at (F := frD p l) (H := GD) (R := NoK m 1 6) ?_ OD.D fun GE rv z DE EE qe fe he => ?_
    · refine bq_tup2 (bqa_cons (bq_str (bqa_cons (bq_rep ?_))))
      walk_at "bq"
      refine bq_var OD.D rfl qb3 fb ?_
      walk_at "bq"
      refine ⟨_, rfl, by simp, bn_c ⟨by decide, by simp, bqa_nil ?_⟩⟩
      have e : (List.replicate (9 : Int).toNat [y]).flatten = List.replicate 9 y := rep_one _ 9
      rw [e]
      exact (nk_row (n := 2) (fun x hx => by rw [List.eq_of_mem_replicate hx]; exact hb) (by simp)).mono
    have OE := OD.deck DE EE
    have hZE := EE.at_ nZp nZl hZ
    refine ⟨Z, ws, rv, rfl, rfl, hZE, szl (by omega), ?_⟩
    have tZ : TS GE (upd GE Z (.lst (ws ++ [rv]))) := TS.lst hZE
    have OF : OI p l H dv (.ref st) d ss (upd GE Z (.lst (ws ++ [rv]))) := ⟨OE.D.mut nZp nZl, Ext.mut OE.E nZ0, Dq.upT tZ (tm_flat _) OE.qd, Dq.upT tZ (st_flat _) OE.qs⟩
    have qF : DqA (upd GE Z (.lst (ws ++ [rv]))) (ws ++ [rv]) (gs ++ [z]) := dqa_snoc (DqA.upT tZ fc (DqA.upT (TS.deck OD.D EE) fc qcZ)) (Dq.upT tZ fe qe)
    have hZF : hid p l (upd GE Z (.lst (ws ++ [rv]))) Z = some (.lst (ws ++ [rv])) := hid_upd nZp nZl
    have qaF := Dq.upT tZ fa (Dq.upT (TS.deck OD.D EE) fa qa3)
    generalize upd GE Z (.lst (ws ++ [rv])) = GF at OF qF hZF qaF
    clear OD OE hZ hZE qcZ qa3 qb3 qe DE EE tZ
    have fgz : flatTA (gs ++ [z]) = true := flatTA_of fun x hx => (List.mem_append.mp hx).elim (fun h => nk_flat (hSc x h)) fun h => by rw [List.mem_singleton.mp h]; exact fe
    refine sq_asg ?_
    refine ⟨.int (m : Int), rfl, fv, rfl, .ref p, rfl, .ref Z, rfl, pick_from (R := NoK m 1 6) OF.D hZF qF fgz (by simp) (by rw [List.length_append]; show _ + 1 < _; omega) (fun x hx => (List.mem_append.mp hx).elim (hSc x) fun h => by rw [List.mem_singleton.mp h]; exact he) fun GG uv w DG EG qg fg hg => ?_⟩
    have OG := OF.deck DG EG
    have qaG := Dq.upT (TS.deck OF.D EG) fa qaF
    obtain ⟨t, u, rfl, rfl, hpr, hpw⟩ := nk_prog ha hg
    refine ⟨by show 2 ≤ sizeLine; decide, fun a na => ?_⟩
    have s1 := same_new (o := .tup [fv, uv]) na
    have OH := OG.up s1
    refine ⟨.ref st, rfl, .ref a, .ref st, [t, u], ss, _, false, rfl, .tup upd_same (.cons (qaG.up s1) (.cons (qg.up s1) .nil)), OH.qs, by omega, by rw [hsl]; exact hpr.mono (fun _ h => h) (Nat.le_refl _) (by decide), fun GI r sI hI => ?_⟩
    rw [toldD_few (hpr.mono (D' := fun _ => True) (fun _ _ => trivial) (Nat.le_refl _) (Nat.le_refl _)) ss (by rw [hpw]; simp), hpw] at hI
    have OI' := OH.up sI
    have smD := sm_tol hss (by omega : ss.length ≤ 24)
    refine ret_eq_repr ⟨r, rfl, ?_⟩
    dsimp only [tNil]
    refine repr_x hI smD (by decide) (by decide) fun kx hkx => ⟨.ref st, rfl, by show 2 ≤ sizeLine; decide, fun b nb => ?_⟩
    have sb := same_new (o := .lst [.str "told", .ref st]) nb
    exact repr_eq hkx (.lst upd_same (.cons (.str _) (.cons (OI'.qs.up sb) .nil))) smD (by decide) (by decide) (q _ (OI'.D.up sb) (Same.trans OI'.E (Ext.of sb)))
end
end Kr
namespace Kr
open PySem PySem.Spec PyProof.Rows L2
/-- a list in the heap that grows to a program -/
structure LG (m n : Nat) (p l : Addr) (H : Hp) (F : Addr) (us : List V) (ts : List Tm) (G : Hp) : Prop where
  D : Deck G p l
  E : Ext p l H G
  hF : G F = some (.lst us)
  qu : DqA G us (ts.map tmD)
  pr : PrOk (Deed m) 3 n ts
section
variable {m n : Nat} {p l F : Addr} {H G G' : Hp} {us : List V} {ts : List Tm}
theorem LG.len (h : LG m n p l H F us ts G) : us.length = ts.length := by rw [h.qu.len, List.length_map]
theorem LG.deck (h : LG m n p l H F us ts G) (nF : F ≠ p ∧ F ≠ l) (D : Deck G' p l) (E : Ext p l G G') : LG m n p l H F us ts G' := ⟨D, Same.trans h.E E, E.at_ nF.1 nF.2 h.hF, DqA.upT (TS.deck h.D E) (tms_flatM ts) h.qu, h.pr⟩
theorem LG.up (h : LG m n p l H F us ts G) (s : Same G G') : LG m n p l H F us ts G' := ⟨h.D.up s, Same.trans h.E (Ext.of s), s _ _ h.hF, h.qu.up s, h.pr⟩
theorem LG.snoc (h : LG m n p l H F us ts G) (nF : F ≠ p ∧ F ≠ l) (nF0 : H F = none) {v : V} {t : Tm} (qd : Dq G v (tmD t)) (hl : ts.length < 400) (o : okTm (Deed m) 3 ts.length t) (hd : dep t ≤ n) : LG m n p l H F (us ++ [v]) (ts ++ [t]) (upd G F (.lst (us ++ [v]))) := by
  have tF : TS G (upd G F (.lst (us ++ [v]))) := TS.lst h.hF
  refine ⟨h.D.mut nF.1 nF.2, Ext.mut h.E nF0, upd_same, ?_, h.pr.snoc hl o hd⟩
  rw [List.map_append]
  exact dqa_snoc (DqA.upT tF (tms_flatM ts) h.qu) (Dq.upT tF (tm_flat t) qd)
theorem bn_lenF {K : PySem.W.Frag} {σ : L2.St} {j : Nat} {N : Int → Prop} (hv : σ[j]? = some (some (.ref F))) (nF : F ≠ p ∧ F ≠ l) (hF : G F = some (.lst us)) (r : N (us.length : Int)) : Bn (frD p l) (tCB (fun xs H Q => ∃ p ys, xs = [V.ref p] ∧ (SqL K H p ys ∨ SqT K H p ys) ∧ Q (V.int (ys.length : Int)) H) (tCons (tVar j) tNil)) σ G N := fun G1 a b Q q =>
  ⟨_, hv, F, us, rfl, .inl (SqL.of (Ext.at_ b nF.1 nF.2 hF)), q G1 _ a (frD p l).refl r⟩
end
theorem ws_lastD {α : Type} (M : Mea α) {p : List Tm} (h : 0 < p.length) : (wsAll M p []).getD (p.length - 1) (M.oR []) = progW M p := by
  have hl : (wsAll M p []).length = p.length := by rw [wsAll_len]; show 0 + _ = _; omega
  unfold progW
  rw [List.getLastD_eq_getLast?, List.getLast?_eq_getElem?, hl, List.getD_eq_getElem?_getD, List.getElem?_eq_getElem (by omega)]
/-- a term that does twice what part j does -/
def TwK (m j : Nat) (x : PyData) : Prop := ∃ t, x = tmD t ∧ okTm (Deed m) 3 (j + 1) t ∧ dep t ≤ 4 ∧ ∀ ws : List Nat, worth cntM ws t = 2 * ws.getD j 0
theorem tw_row {m j : Nat} : TwK m j (.tuple [.str "row", .tuple [.tuple [.str "part", .int (j : Int)], .tuple [.str "part", .int (j : Int)]]]) := ⟨.row [.part j, .part j], by simp only [tmD, tmDs], by simp only [okTm, okTms]; exact ⟨by simp, by omega, by omega, trivial⟩, by simp only [dep, depL]; omega, fun ws => by
  simp only [worth, worthL]
  show List.sum [ws.getD j 0, ws.getD j 0] = _
  simp only [List.sum_cons, List.sum_nil]
  omega⟩
theorem tw_back {m j : Nat} : TwK m j (.tuple [.str "row", .tuple [.tuple [.str "part", .int (j : Int)], .tuple [.str "back", .tuple [.str "back", .tuple [.str "part", .int (j : Int)]]]]]) := ⟨.row [.part j, .back (.back (.part j))], by simp only [tmD, tmDs], by simp only [okTm, okTms]; exact ⟨by simp, by omega, by omega, trivial⟩, by simp only [dep, depL]; omega, fun ws => by
  simp only [worth, worthL]
  show List.sum [ws.getD j 0, ws.getD j 0] = _
  simp only [List.sum_cons, List.sum_nil]
  omega⟩
theorem tw_times {m j : Nat} : TwK m j (.tuple [.str "times", .tuple [.str "part", .int (j : Int)], .int 2]) := ⟨.times (.part j) 2, by simp only [tmD]; rfl, by simp only [okTm]; exact ⟨by decide +kernel, by omega⟩, by simp only [dep]; omega, fun ws => by
  simp only [worth]
  show ws.getD j 0 * 2 = _
  omega⟩
theorem sm_ref : Sm 3 ((((140 + 1) * 24) + 1) * 2) (.list [.str "refused", .int 5000, .bool true]) := (Sm.three (Sm.strm (m := 140) (x := "refused") (by decide) (by decide)) (Sm.int (i := 5000) (by decide)) (Sm.bl true)).mono (by decide) (by decide)
theorem told_sm {n : Nat} {ts : List Tm} {ss : List Int} (h : PrOk (Deed ss.length) 400 n ts) (hss : ∀ z ∈ ss, 0 ≤ z ∧ z < 100) (hl : ss.length ≤ 24) : Sm 3 ((((140 + 1) * 24) + 1) * 2) (toldD ts ss) := by
  have hT : PrOk (fun _ => True) 400 n ts := h.mono (fun _ _ => trivial) (Nat.le_refl _) (Nat.le_refl _)
  rcases Nat.lt_or_ge 5000 (progW movM ts).length with c | c
  · rw [toldD_many hT ss c]
    exact sm_ref
  · rw [toldD_few hT ss c]
    have hrp : (runM (progW movM ts) ss).Perm ss := runM_perm rfl (rel_deeds.progW h)
    exact sm_tol (fun z hz => hss z (hrp.subset hz)) (by rw [hrp.length_eq]; exact hl)
end Kr
namespace Kr
open PySem PySem.Spec PyProof.Rows L2
local macro_rules | `(tactic| walk_at "bq") => `(tactic| repeat' (first | with_reducible refine bqa_nil ?_ | with_reducible refine bqa_cons ?_ | with_reducible refine bq_tup0 ?_ | with_reducible refine bq_tup1 ?_ | with_reducible refine bq_tup2 ?_ | with_reducible refine bq_tup3 ?_ | with_reducible refine bq_str ?_ | with_reducible refine bq_c ?_ | with_reducible refine bn_c ?_ | with_reducible refine bn_op ?_))
/-- two deeds, and twice, and twice .. -/
def spDbl : Sp := fun vs H Q _ => ∃ (p l : Addr) (m : Nat), vs = [.ref p, .int (m : Int)] ∧ Deck H p l ∧ 3 ≤ m ∧ m ≤ 24 ∧ ∀ H' v ts, Deck H' p l → Ext p l H H' → Dq H' v (.tuple (ts.map tmD)) → PrOk (Deed m) 3 4 ts → ts.length ≤ 102 → progW cntM ts = 2 ^ (ts.length - 2) → 3 ≤ ts.length → Q v H'
section
variable {P : Program} {w : World} {K : PySem.W.Frag} {mg : Str → Option Value} {base : Heap}
abbrev n_lDbl : List Str := ["deck", "many", "found", "turn", "last", "terms"]
theorem sc_lDbl : FnScope n_lDbl ["deck", "many"] (defScope sLDoubled) := ⟨rfl, rfl, rfl, by decide +kernel, rfl, by decide +kernel, by decide +kernel⟩
theorem o_lDbl (D0 : Df K mg "_law_doubled" sLDoubled ["deck", "many"]) (B : Bi mg) (dr : Ok P w K mg base 1 "_law_draw" ["deck", "many"] spDraw) (dd : Ok P w K mg base 3 "_law_deed" ["deck", "many"] spDeed7) (pk : Ok P w K mg base 2 "_law_pick" ["deck", "items"] spPick) : Ok P w K mg base 6 "_law_doubled" ["deck", "many"] spDbl := by
  refine D0.ok fun f fd F => F.ok sc_lDbl (fun vs H Q E h => ?_) (fun cdv A outer s H vs Q E hr h => ?_)
  · obtain ⟨_, _, _, rfl, _⟩ := h
    rfl
  · obtain ⟨p, l, m, rfl, Dk, m0, m1, q⟩ := h
    have hr_dr := hr.mono (show 1 ≤ 5 by omega)
    have hr_dd := hr.mono (show 3 ≤ 5 by omega)
    have hr_pk := hr.mono (show 2 ≤ 5 by omega)
    have hu : (cxOf CX0 P w K mg base n_lDbl "_law_doubled" (defScope sLDoubled) f cdv A outer s H E).A.units + 64 < cLine := hr.units
    have hu1 := hu_of hr
    refine ⟨_, pss_cons (ps_set (i := 2) sc_lDbl.nd rfl (.inl rfl) (pe_lst (pa_cons (pe_tup (pa_cons pe_str (pa_cons (pe_fn dd hr_dd (by rfl) (pa_cons (pv 0) (pa_cons (pv 1) pa_nil))) pa_nil))) (pa_cons (pe_tup (pa_cons pe_str (pa_cons (pe_fn dd hr_dd (by rfl) (pa_cons (pv 0) (pa_cons (pv 1) pa_nil))) pa_nil))) (pa_cons (pe_tup (pa_cons pe_str (pa_cons (pe_tup (pa_cons (pe_tup (pa_cons pe_str (pa_cons pe_int pa_nil))) (pa_cons (pe_tup (pa_cons pe_str (pa_cons pe_int pa_nil))) pa_nil))) pa_nil))) pa_nil)))))
      (pss_cons (ps_for PassesOwn.never rfl (pi_range1 (by rfl) B.range (pa_cons (pe_fn pk hr_pk (by rfl) (pa_cons (pv 0) (pa_cons (pe_lst (pa_cons pe_int (pa_cons pe_int (pa_cons pe_int (pa_cons pe_int (pa_cons pe_int (pa_cons pe_int pa_nil))))))) pa_nil))) pa_nil)) (pg_name (i := 3) sc_lDbl.nd rfl (.inl rfl))
        (pss_cons (ps_set (i := 4) sc_lDbl.nd rfl (.inl rfl) (pe_tup (pa_cons pe_str (pa_cons (pe_op op_sub (pe_callB call_len_seq (by rfl) B.len boot_len (pa_cons (pv 2) pa_nil)) pe_int) pa_nil))))
        (pss_cons (ps_set (i := 5) sc_lDbl.nd rfl (.inl rfl) (pe_lst (pa_cons (pe_tup (pa_cons pe_str (pa_cons (pe_tup (pa_cons (pv 4) (pa_cons (pv 4) pa_nil))) pa_nil))) (pa_cons (pe_tup (pa_cons pe_str (pa_cons (pe_tup (pa_cons (pv 4) (pa_cons (pe_tup (pa_cons pe_str (pa_cons (pe_tup (pa_cons pe_str (pa_cons (pv 4) pa_nil))) pa_nil))) pa_nil))) pa_nil))) (pa_cons (pe_tup (pa_cons pe_str (pa_cons (pv 4) (pa_cons pe_int pa_nil)))) pa_nil)))))
        (pss_one (ps_expr (pe_bm PySem.F.plainAttrs_list PySem.F.slot_list_append PySem.F.type_list_append mt_append (pv 2) (pa_cons (pe_fn pk hr_pk (by rfl) (pa_cons (pv 0) (pa_cons (pv 5) pa_nil))) pa_nil)))))))
      (pss_one (ps_ret (pe_callTy call_tuple_of (by rfl) B.tuple (by decide +kernel) (pa_cons (pv 2) pa_nil))))), ?_⟩
    refine sq_asg (bq_lst (F := frD p l) (H := H) (S := fun ds => ∃ d e, ds = [Tm.doo d, .doo e, .row [.part 0, .part 1]].map tmD ∧ Deed m d ∧ Deed m e) (n := 3) ?_ Dk Ext.rfl (by decide) fun G1 F us ds D1 E1 q1 l1 f1 hS nF => ?_)
    · walk_at "bq"
      refine (bq_deed rfl rfl m0 m1).mono fun y ⟨md, e, hd⟩ => ?_
      walk_at "bq"
      refine (bq_deed rfl rfl m0 m1).mono fun y2 ⟨md2, e2, hd2⟩ => ?_
      walk_at "bq"
      exact ⟨md, md2, by rw [e, e2]; simp only [List.map_cons, List.map_nil, tmD, tmDs]; rfl, hd, hd2⟩
    have D1 : Deck G1 p l := D1
    have E1 : Ext p l H G1 := E1
    obtain ⟨d, e, rfl, hd, he⟩ := hS
    obtain ⟨nFp, nFl⟩ := D1.new nF
    have nF0 : H F = none := E1.free nF nFp nFl
    have s1 := same_new (o := .lst us) nF
    have L1 : LG m 4 p l H F us [.doo d, .doo e, .row [.part 0, .part 1]] (upd G1 F (.lst us)) := ⟨D1.up s1, Same.trans E1 (Ext.of s1), upd_same, q1.up s1, by simp, by simp, fun i t ht => by
      match i, ht with
      | 0, ht => cases Option.some.inj ht; exact ⟨by simp only [okTm]; exact hd, by simp only [dep]; omega⟩
      | 1, ht => cases Option.some.inj ht; exact ⟨by simp only [okTm]; exact he, by simp only [dep]; omega⟩
      | 2, ht => cases Option.some.inj ht; exact ⟨by simp only [okTm, okTms]; exact ⟨by simp, by omega, by omega, trivial⟩, by simp only [dep, depL]; omega⟩
      | _ + 3, ht => simp at ht⟩
    have hw : progW cntM [.doo d, .doo e, .row [.part 0, .part 1]] = 2 := rfl
    generalize upd G1 F (.lst us) = G2 at L1
    clear D1 E1 q1 nF s1
    refine sq_rng (bn_at (F := frD p l) (H := G2) (N := fun x => ∃ k : Nat, x = (k : Int) ∧ k ≤ 99) (bn_pick (m := 5) rfl ?_) L1.D fun G3 z D3 E3 hz => ?_)
    · walk_at "bq"
      intro x hx
      simp only [List.mem_cons, List.not_mem_nil, or_false] at hx
      rcases hx with rfl | rfl | rfl | rfl | rfl | rfl
      · exact ⟨_, rfl, 3, rfl, by decide⟩
      · exact ⟨_, rfl, 4, rfl, by decide⟩
      · exact ⟨_, rfl, 5, rfl, by decide⟩
      · exact ⟨_, rfl, 12, rfl, by decide⟩
      · exact ⟨_, rfl, 13, rfl, by decide⟩
      · exact ⟨_, rfl, 99, rfl, by decide⟩
    obtain ⟨k, rfl, hk⟩ := hz
    have L3 := L1.deck ⟨nFp, nFl⟩ D3 E3
    clear L1 D3 E3
    refine ⟨_, rfl, by omega, by omega, for_it (walk_rg (n := k)) (fun i σ G => ∃ (v3 v4 v5 : Option V) (us : List V) (ts : List Tm), σ = [some (.ref p), some (.int (m : Int)), some (.ref F), v3, v4, v5] ∧ LG m 4 p l H F us ts G ∧ ts.length = i + 3 ∧ progW cntM ts = 2 ^ (i + 1)) ⟨_, _, _, _, _, rfl, L3, rfl, hw⟩ (fun _ _ _ _ _ => trivial) ?_ ?_⟩
    · rintro i x σ _ G hi ⟨v3, v4, v5, us, ts, rfl, L, htl, hpw⟩ ⟨rfl, rfl⟩
      have hul := L.len
      refine sq_asg (bq_at (F := frD p l) (H := G) (R := fun d => d = .tuple [.str "part", .int ((ts.length - 1 : Nat) : Int)]) ?_ L.D fun G5 v d D5 E5 q5 f5 h5 => ?_)
      · walk_at "bq"
        refine bq_op (bn_lenF rfl ⟨nFp, nFl⟩ L.hF (bn_c ?_))
        walk_at "bq"
        rw [hul, show ((ts.length : Int) - 1) = ((ts.length - 1 : Nat) : Int) by omega]
      subst h5
      have L5 := L.deck ⟨nFp, nFl⟩ D5 E5
      clear L D5 E5
      refine sq_asg (bq_lst (F := frD p l) (H := G5) (S := fun ds => ∀ x ∈ ds, TwK m (ts.length - 1) x) (n := 3) ?_ L5.D Ext.rfl (by decide) fun G6 T vs ds D6 E6 q6 l6 f6 hS nT => ?_)
      · walk_at "bq"
        refine bq_var L5.D rfl q5 f5 ?_
        walk_at "bq"
        refine bq_var L5.D rfl q5 f5 ?_
        walk_at "bq"
        refine bq_var L5.D rfl q5 f5 ?_
        walk_at "bq"
        refine bq_var L5.D rfl q5 f5 ?_
        walk_at "bq"
        refine bq_var L5.D rfl q5 f5 ?_
        walk_at "bq"
        intro x hx
        simp only [List.mem_cons, List.not_mem_nil, or_false] at hx
        rcases hx with rfl | rfl | rfl
        · exact tw_row
        · exact tw_back
        · exact tw_times
      have L6 := L5.deck ⟨nFp, nFl⟩ D6 E6
      have sT := same_new (o := .lst vs) nT
      obtain ⟨nTp, nTl⟩ := L6.D.new nT
      have L7 := L6.up sT
      have q7 := q6.up sT
      have hvl := q6.len
      refine one_drop ?_
      refine ⟨.ref F, rfl, .inl ⟨rfl, us, SqL.of L7.hF⟩, .ref p, rfl, .ref T, rfl, pick_from (R := TwK m (ts.length - 1)) L7.D (hid_upd nTp nTl) q7 f6 (fun z => by rw [z] at hvl; simp only [List.length_nil] at hvl; omega) (by omega) hS fun G8 w x D8 E8 q8 f8 h8 => ?_⟩
      have L8 := L7.deck ⟨nFp, nFl⟩ D8 E8
      obtain ⟨t, rfl, o, hd4, hc⟩ := h8
      refine ⟨F, us, w, rfl, rfl, L8.hF, szl (by omega), _, _, _, _, _, rfl, L8.snoc ⟨nFp, nFl⟩ nF0 q8 (by omega) (by rw [show ts.length = ts.length - 1 + 1 by omega]; exact o) hd4, by rw [List.length_append, htl]; rfl, ?_⟩
      rw [progW_snoc, hc, show (wsAll cntM ts []).getD (ts.length - 1) 0 = progW cntM ts from ws_lastD cntM (by omega), hpw, Nat.pow_succ 2 (i + 1)]
      omega
    · rintro σ G ⟨v3, v4, v5, us, ts, rfl, L, htl, hpw⟩
      dsimp only
      refine one_ret ?_
      refine ⟨.ref F, rfl, F, us, rfl, .inl ⟨SqL.of L.hF, fun t nt => ?_⟩⟩
      have s1 := same_new (o := .tup us) nt
      have L2 := L.up s1
      exact q _ _ ts L2.D L2.E (.tup upd_same L2.qu) L2.pr (by omega) (by rw [hpw, htl]; rfl) (by omega)
end
end Kr
namespace Kr
open PySem PySem.Spec PyProof.Rows L2
section
variable {P : Program} {w : World} {K : PySem.W.Frag} {mg : Str → Option Value} {base : Heap}
abbrev n_lIsDbl : List Str := ["deck", "many", "program", "standing", "longs", "due"]
theorem sc_lIsDbl : FnScope n_lIsDbl ["deck"] (defScope sLIsDoubled) := ⟨rfl, rfl, rfl, by decide +kernel, rfl, by decide +kernel, by decide +kernel⟩
theorem o_lIsDbl (D0 : Df K mg "_law_is_doubled" sLIsDoubled ["deck"]) (B : Bi mg) (dr : Ok P w K mg base 1 "_law_draw" ["deck", "many"] spDraw) (db : Ok P w K mg base 6 "_law_doubled" ["deck", "many"] spDbl) (sd : Ok P w K mg base 3 "_law_standing" ["deck", "many"] spStanding) (lo : Ok P w K mg base 5 "_law_longs" ["program"] (spLongs 4)) (le : Ok P w K mg base 57 "_law_led" ["program", "longs", "term", "standing", "is_back"] (spLed 4 56)) (to : Ok P w K mg base 20 "_law_told" ["many", "program", "standing", "is_named"] (spTold 16)) : OkG P w K mg base 60 "_law_is_doubled" ["deck"] spIdle := by
  refine D0.okG fun f fd F => okG F sc_lIsDbl (fun vs H Q E h => ?_) (fun cdv A outer s H vs Q E hg hr h => ?_)
  · obtain ⟨_, _, rfl, _⟩ := h
    rfl
  · obtain ⟨p, l, rfl, Dk, q⟩ := h
    have hr_dr := hr.mono (show 1 ≤ 59 by omega)
    have hr_db := hr.mono (show 6 ≤ 59 by omega)
    have hr_sd := hr.mono (show 3 ≤ 59 by omega)
    have hr_lo := hr.mono (show 5 ≤ 59 by omega)
    have hr_le := hr.mono (show 57 ≤ 59 by omega)
    have hr_to := hr.mono (show 20 ≤ 59 by omega)
    have hu : (cxOf CX0 P w K mg base n_lIsDbl "_law_is_doubled" (defScope sLIsDoubled) f cdv A outer s H E).A.units + 64 < cLine := hr.units
    have hu1 := hu_of hr
    have cr := call_repr (X := (cxOf CX0 P w K mg base n_lIsDbl "_law_is_doubled" (defScope sLIsDoubled) f cdv A outer s H E).nox) hg hr.units
    refine ⟨_, pss_cons (ps_set (i := 1) sc_lIsDbl.nd rfl (.inl rfl) (pe_op op_add pe_int (pe_fn dr hr_dr (by rfl) (pa_cons (pv 0) (pa_cons pe_int pa_nil)))))
      (pss_cons (ps_par (i := 2) (j := 3) rfl sc_lIsDbl.nd rfl rfl (by decide) rfl rfl (pa_cons (pe_fn db hr_db (by rfl) (pa_cons (pv 0) (pa_cons (pv 1) pa_nil))) (pa_cons (pe_fn sd hr_sd (by rfl) (pa_cons (pv 0) (pa_cons (pv 1) pa_nil))) pa_nil)) (by rfl))
      (pss_cons (ps_par (i := 4) (j := 5) rfl sc_lIsDbl.nd rfl rfl (by decide) rfl rfl (pa_cons (pe_fn lo hr_lo (by rfl) (pa_cons (pv 2) pa_nil)) (pa_cons (pe_lst (pa_cons pe_str (pa_cons pe_int (pa_cons pe_bl pa_nil)))) pa_nil)) (by rfl))
      (pss_cons (ps_if (pt_cmpR op_le (pe_ix ix_list (pv 4) (pe_un un_neg pe_int) (fun _ _ => rfl)) pe_int (nomark _)) (pss_one (ps_set (i := 5) sc_lIsDbl.nd rfl (.inl rfl) (pe_lst (pa_cons pe_str (pa_cons (pe_fn le hr_le (by rfl) (pa_cons (pv 2) (pa_cons (pv 4) (pa_cons (pe_ix ix_tup (pv 2) (pe_un un_neg pe_int) (fun _ _ => rfl)) (pa_cons (pv 3) (pa_cons pe_bl pa_nil)))))) pa_nil))))) pss_nil)
      (pss_one (ps_ret (pe_cmpR op_eq (pe_callB cr (by rfl) B.repr (by decide +kernel) (pa_cons (pe_fn to hr_to (by rfl) (pa_cons (pv 1) (pa_cons (pv 2) (pa_cons (pv 3) (pa_cons pe_bl pa_nil))))) pa_nil)) (pe_callB cr (by rfl) B.repr (by decide +kernel) (pa_cons (pv 5) pa_nil)) (nomark _))))))), ?_⟩
    refine sq_asg (bn_at (F := frD p l) (H := H) (N := fun x => ∃ k : Nat, x = (k : Int) ∧ 3 ≤ k ∧ k ≤ 24) (bn_op (bn_c (bn_draw rfl (bn_c ⟨by decide, fun r h0 h1 => ⟨(3 + r).toNat, by omega, by omega, by omega⟩⟩)))) Dk fun G1 mv D1 E1 hm => ?_)
    obtain ⟨m, rfl, m0, m1⟩ := hm
    have D1 : Deck G1 p l := D1
    have E1 : Ext p l H G1 := E1
    refine sq_par ⟨.ref p, rfl, .int (m : Int), rfl, p, l, m, rfl, D1, m0, m1, fun G2 v ts D2 E2 hv hp hl102 hpw h3 => ⟨.ref p, rfl, .int (m : Int), rfl, p, l, (m : Int), rfl, D2, by omega, by omega, fun G3 st ss D3 E3 hst hsl hss => ⟨_, _, rfl, ?_⟩⟩⟩
    have hsl : ss.length = m := by rw [hsl, Int.toNat_natCast]
    have hss : ∀ z ∈ ss, 0 ≤ z ∧ z < 100 := fun z hz => by have := hss z hz; omega
    have qs3 : Dq G3 (.ref st) (stD ss) := .tup (hid_same p l G3 _ _ hst) (DqA.ints ss)
    have E03 : Ext p l H G3 := Same.trans E1 (Same.trans E2 E3)
    have hv3 := Dq.upT (TS.deck D2 E3) (prog_flat ts) hv
    clear D1 E1 D2 E2 E3 hv hst
    subst hsl
    have hpT : PrOk (fun _ => True) 400 4 ts := hp.mono (fun _ _ => trivial) (by decide) (Nat.le_refl _)
    have hp4 : PrOk (Deed ss.length) 400 4 ts := hp.mono (fun _ h => h) (by decide) (Nat.le_refl _)
    have hcm : progW cntM ts = (progW movM ts).length := rel_cnt.progW hpT
    have smD := told_sm hp4 hss m1
    refine sq_par ⟨v, rfl, v, ts, rfl, hv3, hpT, by omega, fun G4 L s4 nL hL => ⟨by show 3 ≤ sizeLine; decide, fun R nR => ⟨_, _, rfl, ?_⟩⟩⟩
    have sR := same_new (o := .lst [.str "refused", .int 5000, .bl true]) nR
    have hL5 := sR _ _ hL
    have s5 := s4.trans sR
    have hR5 : Dq (upd G4 R (.lst [.str "refused", .int 5000, .bl true])) (.ref R) (.list [.str "refused", .int 5000, .bool true]) := .lst upd_same (.cons (.str _) (.cons (.int _) (.cons (.bl _) .nil)))
    generalize upd G4 R (.lst [.str "refused", .int 5000, .bl true]) = G5 at hL5 s5 hR5
    clear sR s4 nL nR hL
    have fin : ∀ (D' : Ends) (σ : L2.St) (G : Hp) (du : V), Same G5 G → D'.rt = Q → σ[1]? = some (some (.int (ss.length : Int))) → σ[2]? = some (some v) → σ[3]? = some (some (.ref st)) → σ[5]? = some (some du) → Dq G du (toldD ts ss) → tRet (tOp rEq (tCB rRepr (tCons (tCall (spTold 16) [] E0 (tCons (tVar 1) (tCons (tVar 2) (tCons (tVar 3) (tCons (tC (.bl false)) tNil))))) tNil)) (tCB rRepr (tCons (tVar 5) tNil))) D' σ G := fun D' σ G du sm eD e1 e2 e3 e5 hd => by
      have s := s5.trans sm
      refine ret_eq_repr ⟨_, e1, _, e2, _, e3, v, .ref st, ts, ss, _, false, rfl, hv3.up s, qs3.up s, by omega, hp4.mono (fun _ h => h) (Nat.le_refl _) (by decide), fun G6 r s6 h6 => ?_⟩
      dsimp only [tNil]
      refine repr_x h6 smD (by decide) (by decide) fun kx hkx => ⟨_, e5, ?_⟩
      rw [eD]
      exact repr_eq hkx (hd.up s6) smD (by decide) (by decide) (q _ (D3.up (s.trans s6)) (Same.trans E03 (Ext.of (s.trans s6))))
    refine sq_if ?_
    have hL6 := hL5
    rw [wsAll_last cntM hp.ne, List.map_append] at hL6
    refine ⟨_, rfl, _, rfl, L, _, -1, _, rfl, rfl, SqL.of hL6, atI_last _ _, _, _, rfl, rfl, _, rfl, ite2 (fun c => ?_) (fun c => ?_)⟩
    · have hc : progW cntM ts ≤ 5000 := by
        have : ((progW cntM ts : Nat) : Int) ≤ 5000 := of_decide_eq_true c
        omega
      have h14 : ts.length ≤ 14 := by
        rcases Nat.lt_or_ge 14 ts.length with z | z
        · exfalso
          have : 2 ^ 13 ≤ 2 ^ (ts.length - 2) := Nat.pow_le_pow_right (by decide) (by omega)
          have e : (2 : Nat) ^ 13 = 8192 := by decide
          omega
        · exact z
      obtain ⟨tl, htl⟩ : ∃ tl, ts[ts.length - 1]? = some tl := ⟨_, List.getElem?_eq_getElem (by omega)⟩
      obtain ⟨o1, o2⟩ := hp4.tm _ _ htl
      have elast := progW_last movM htl o1
      have clast := progW_last cntM htl o1
      obtain ⟨pa, ys, rfl, hpa, hyl, _, hys⟩ := progs_at (hv3.up s5)
      obtain ⟨y, hy, qy⟩ := hys _ _ htl
      refine one_asg ?_
      refine arg_c (arg_fst ⟨.ref pa, rfl, .ref L, rfl, .ref pa, rfl, _, rfl, ?_⟩)
      refine ⟨pa, ys, -1, y, rfl, rfl, SqT.of hpa, atI_m1 (by rw [hyl]; exact hy), .ref st, rfl, .ref pa, y, .ref st, L, tl, ts, ss, ts.length - 1, false, rfl, hv3.up s5, hL5, qy, qs3.up s5, hp4.prT, by omega, by omega, o1, by omega, m1, fun z hz => (hss z hz).1, by rw [← clast]; exact hc, fun G6 r s6 h6 => ⟨by show 2 ≤ sizeLine; decide, fun U nU => ?_⟩⟩
      have sU := same_new (o := .lst [.str "told", r]) nU
      refine fin _ _ _ (.ref U) (s6.trans sU) rfl rfl rfl rfl rfl ?_
      rw [toldD_few hpT ss (by omega), elast]
      exact .lst upd_same (.cons (.str _) (.cons (h6.up sU) .nil))
    · have hc : 5000 < progW cntM ts := by
        have : ¬ ((progW cntM ts : Nat) : Int) ≤ 5000 := fun z => c (decide_eq_true z)
        omega
      refine fin _ _ _ (.ref R) (Same.refl _) rfl rfl rfl rfl rfl ?_
      rw [toldD_many hpT ss (by omega)]
      exact hR5
end
end Kr
namespace Kr
open PySem PySem.Spec PyProof.Rows L2
local macro_rules | `(tactic| walk_at "bq") => `(tactic| repeat' (first | with_reducible refine bqa_nil ?_ | with_reducible refine bqa_cons ?_ | with_reducible refine bq_tup0 ?_ | with_reducible refine bq_tup1 ?_ | with_reducible refine bq_tup2 ?_ | with_reducible refine bq_tup3 ?_ | with_reducible refine bq_str ?_ | with_reducible refine bq_c ?_ | with_reducible refine bn_c ?_ | with_reducible refine bn_op ?_))
theorem led_one {σ : L2.St} {G : Hp} {Q : VK} {te : TE} {i : Nat} {sx : V} {ss : List Int} {d : Mv} (e : σ[i]? = some (some sx)) (hs : Dq G sx (stD ss)) (hl : ss.length ≤ 24) (hz : ∀ z ∈ ss, 0 ≤ z ∧ z < 100) (hd : Deed ss.length d) (ht : ∀ G1 (Q2 : VK), Same G G1 → (∀ G2 y, Same G1 G2 → Dq G2 y (tmD (.doo d)) → Q2 y G2) → te σ G1 Q2) (k : ∀ H' r, Same G H' → Dq H' r (stD (doM ss d)) → Q r H') : tCall (spLed 4 56) [] E0 (tCons (tTup tNil) (tCons (tLst tNil) (tCons te (tCons (tVar i) (tCons (tC (.bl false)) tNil))))) σ G Q := by
  refine ⟨by show 0 ≤ sizeLine; decide, fun a na => ⟨by show 0 ≤ sizeLine; decide, fun b nb => ?_⟩⟩
  have sa := same_new (o := .tup []) na
  have sb := same_new (o := .lst []) nb
  have ha := sb _ _ (upd_same (H := G) (a := a) (o := .tup []))
  refine ht _ _ (sa.trans sb) fun G2 y s2 qy => ⟨sx, e, .ref a, y, sx, b, .doo d, [], ss, 0, false, rfl, .tup (s2 _ _ ha) .nil, s2 _ _ upd_same, qy, hs.up (sa.trans (sb.trans s2)), ⟨by simp, fun i t h => by simp at h⟩, by simp, Nat.le_refl _, by simp only [okTm]; exact hd, by simp only [dep]; omega, hl, fun z hz' => (hz z hz').1, ?_, fun H' r s h => k H' r (sa.trans (sb.trans (s2.trans s))) ?_⟩
  · show (1 : Nat) ≤ 5000
    decide
  · exact h
/-- a term that does part j backward -/
def BkK (m j : Nat) (x : PyData) : Prop := ∃ t, x = tmD t ∧ okTm (Deed m) 3 (j + 1) t ∧ dep t ≤ 3 ∧ ∀ ws : List (List Mv), worth movM ws t = (ws.getD j []).reverse
theorem bk_row {m j : Nat} : BkK m j (.tuple [.str "row", .tuple [.tuple [.str "back", .tuple [.str "part", .int (j : Int)]]]]) := ⟨.row [.back (.part j)], by simp only [tmD, tmDs], by simp only [okTm, okTms]; exact ⟨by simp, by omega, trivial⟩, by simp only [dep, depL]; omega, fun ws => by
  rw [mv_row]
  simp only [List.map_cons, List.map_nil, List.flatten_cons, List.flatten_nil, List.append_nil]
  rw [mv_back]
  simp only [worth]
  rfl⟩
theorem bk_back {m j : Nat} : BkK m j (.tuple [.str "back", .tuple [.str "row", .tuple [.tuple [.str "part", .int (j : Int)]]]]) := ⟨.back (.row [.part j]), by simp only [tmD, tmDs], by simp only [okTm, okTms]; exact ⟨by simp, by omega, trivial⟩, by simp only [dep, depL]; omega, fun ws => by
  rw [mv_back, mv_row]
  simp only [List.map_cons, List.map_nil, List.flatten_cons, List.flatten_nil, List.append_nil]
  simp only [worth]
  rfl⟩
section
variable {P : Program} {w : World} {K : PySem.W.Frag} {mg : Str → Option Value} {base : Heap}
abbrev n_lIsChain : List Str := ["deck", "many", "deed", "standing", "found", "spot", "due"]
theorem sc_lIsChain : FnScope n_lIsChain ["deck"] (defScope sLIsChained) := ⟨rfl, rfl, rfl, by decide +kernel, rfl, by decide +kernel, by decide +kernel⟩
theorem o_lIsChain (D0 : Df K mg "_law_is_chained" sLIsChained ["deck"]) (B : Bi mg) (dr : Ok P w K mg base 1 "_law_draw" ["deck", "many"] spDraw) (dd : Ok P w K mg base 3 "_law_deed" ["deck", "many"] spDeed7) (sd : Ok P w K mg base 3 "_law_standing" ["deck", "many"] spStanding) (pk : Ok P w K mg base 2 "_law_pick" ["deck", "items"] spPick) (le : Ok P w K mg base 57 "_law_led" ["program", "longs", "term", "standing", "is_back"] (spLed 4 56)) (to : Ok P w K mg base 20 "_law_told" ["many", "program", "standing", "is_named"] (spTold 16)) : OkG P w K mg base 60 "_law_is_chained" ["deck"] spIdle := by
  refine D0.okG fun f fd F => okG F sc_lIsChain (fun vs H Q E h => ?_) (fun cdv A outer s H vs Q E hg hr h => ?_)
  · obtain ⟨_, _, rfl, _⟩ := h
    rfl
  · obtain ⟨p, l, rfl, Dk, q⟩ := h
    have hr_dr := hr.mono (show 1 ≤ 59 by omega)
    have hr_dd := hr.mono (show 3 ≤ 59 by omega)
    have hr_sd := hr.mono (show 3 ≤ 59 by omega)
    have hr_pk := hr.mono (show 2 ≤ 59 by omega)
    have hr_le := hr.mono (show 57 ≤ 59 by omega)
    have hr_to := hr.mono (show 20 ≤ 59 by omega)
    have hu : (cxOf CX0 P w K mg base n_lIsChain "_law_is_chained" (defScope sLIsChained) f cdv A outer s H E).A.units + 64 < cLine := hr.units
    have hu1 := hu_of hr
    have cr := call_repr (X := (cxOf CX0 P w K mg base n_lIsChain "_law_is_chained" (defScope sLIsChained) f cdv A outer s H E).nox) hg hr.units
    refine ⟨_, pss_cons (ps_set (i := 1) sc_lIsChain.nd rfl (.inl rfl) (pe_op op_add pe_int (pe_fn dr hr_dr (by rfl) (pa_cons (pv 0) (pa_cons pe_int pa_nil)))))
      (pss_cons (ps_par (i := 2) (j := 3) rfl sc_lIsChain.nd rfl rfl (by decide) rfl rfl (pa_cons (pe_fn dd hr_dd (by rfl) (pa_cons (pv 0) (pa_cons (pv 1) pa_nil))) (pa_cons (pe_fn sd hr_sd (by rfl) (pa_cons (pv 0) (pa_cons (pv 1) pa_nil))) pa_nil)) (by rfl))
      (pss_cons (ps_set (i := 4) sc_lIsChain.nd rfl (.inl rfl) (pe_lst (pa_cons (pe_tup (pa_cons pe_str (pa_cons (pv 2) pa_nil))) pa_nil)))
      (pss_cons (ps_for PassesOwn.never rfl (pi_range1 (by rfl) B.range (pa_cons pe_int pa_nil)) (pg_name (i := 5) sc_lIsChain.nd rfl (.inl rfl))
        (pss_one (ps_expr (pe_bm PySem.F.plainAttrs_list PySem.F.slot_list_append PySem.F.type_list_append mt_append (pv 4) (pa_cons (pe_fn pk hr_pk (by rfl) (pa_cons (pv 0) (pa_cons (pe_lst (pa_cons (pe_tup (pa_cons pe_str (pa_cons (pe_tup (pa_cons (pe_tup (pa_cons pe_str (pa_cons (pe_tup (pa_cons pe_str (pa_cons (pv 5) pa_nil))) pa_nil))) pa_nil)) pa_nil))) (pa_cons (pe_tup (pa_cons pe_str (pa_cons (pe_tup (pa_cons pe_str (pa_cons (pe_tup (pa_cons (pe_tup (pa_cons pe_str (pa_cons (pv 5) pa_nil))) pa_nil)) pa_nil))) pa_nil))) pa_nil))) pa_nil))) pa_nil)))))
      (pss_cons (ps_set (i := 6) sc_lIsChain.nd rfl (.inl rfl) (pe_fn le hr_le (by rfl) (pa_cons (pe_tup pa_nil) (pa_cons (pe_lst pa_nil) (pa_cons (pe_tup (pa_cons pe_str (pa_cons (pv 2) pa_nil))) (pa_cons (pv 3) (pa_cons pe_bl pa_nil)))))))
      (pss_one (ps_ret (pe_cmpR op_eq (pe_callB cr (by rfl) B.repr (by decide +kernel) (pa_cons (pe_fn to hr_to (by rfl) (pa_cons (pv 1) (pa_cons (pe_callTy call_tuple_of (by rfl) B.tuple (by decide +kernel) (pa_cons (pv 4) pa_nil)) (pa_cons (pv 3) (pa_cons pe_bl pa_nil))))) pa_nil)) (pe_callB cr (by rfl) B.repr (by decide +kernel) (pa_cons (pe_lst (pa_cons pe_str (pa_cons (pv 6) pa_nil))) pa_nil)) (nomark _)))))))), ?_⟩
    refine sq_asg (bn_at (F := frD p l) (H := H) (N := fun x => ∃ k : Nat, x = (k : Int) ∧ 3 ≤ k ∧ k ≤ 24) (bn_op (bn_c (bn_draw rfl (bn_c ⟨by decide, fun r h0 h1 => ⟨(3 + r).toNat, by omega, by omega, by omega⟩⟩)))) Dk fun G1 mv D1 E1 hm => ?_)
    obtain ⟨m, rfl, m0, m1⟩ := hm
    have D1 : Deck G1 p l := D1
    have E1 : Ext p l H G1 := E1
    refine sq_par (bq_at (F := frD p l) (H := G1) (R := fun x => ∃ d, x = deedD d ∧ Deed m d) (bq_deed rfl rfl m0 m1) D1 fun G2 dv x D2 E2 q2 f2 h2 => ?_)
    obtain ⟨d, rfl, hd⟩ := h2
    have D2 : Deck G2 p l := D2
    have E2 : Ext p l G1 G2 := E2
    refine ⟨.ref p, rfl, .int (m : Int), rfl, p, l, (m : Int), rfl, D2, by omega, by omega, fun G3 st ss D3 E3 hst hsl hss => ⟨_, _, rfl, ?_⟩⟩
    have hsl : ss.length = m := by rw [hsl, Int.toNat_natCast]
    have hss : ∀ z ∈ ss, 0 ≤ z ∧ z < 100 := fun z hz => by have := hss z hz; omega
    have qs3 : Dq G3 (.ref st) (stD ss) := .tup (hid_same p l G3 _ _ hst) (DqA.ints ss)
    have E03 : Ext p l H G3 := Same.trans E1 (Same.trans E2 E3)
    have qd3 := Dq.upT (TS.deck D2 E3) (deed_flat d) q2
    clear D1 E1 D2 E2 E3 q2 hst
    subst hsl
    refine sq_asg (bq_lst (F := frD p l) (H := G3) (S := fun ds => ds = [Tm.doo d].map tmD) (n := 1) ?_ D3 Ext.rfl (by decide) fun G4 F us ds D4 E4 q4 l4 f4 hS nF => ?_)
    · walk_at "bq"
      refine bq_var D3 rfl qd3 (deed_flat d) ?_
      walk_at "bq"
      simp only [List.map_cons, List.map_nil, tmD]
    subst hS
    have D4 : Deck G4 p l := D4
    have E4 : Ext p l G3 G4 := E4
    obtain ⟨nFp, nFl⟩ := D4.new nF
    have nF0 : G3 F = none := E4.free nF nFp nFl
    have s1 := same_new (o := .lst us) nF
    have L1 : LG ss.length 3 p l G3 F us [.doo d] (upd G4 F (.lst us)) := ⟨D4.up s1, Same.trans E4 (Ext.of s1), upd_same, q4.up s1, by simp, by simp, fun i t ht => by
      match i, ht with
      | 0, ht => cases Option.some.inj ht; exact ⟨by simp only [okTm]; exact hd, by simp only [dep]; omega⟩
      | _ + 1, ht => simp at ht⟩
    have hw : progW movM [.doo d] = [d] := rfl
    generalize upd G4 F (.lst us) = G5 at L1
    clear D4 E4 q4 nF s1
    refine ⟨399, rfl, by decide, by decide, for_it (walk_rg (n := 399)) (fun i σ G => ∃ (v5 : Option V) (us : List V) (ts : List Tm), σ = [some (.ref p), some (.int (ss.length : Int)), some dv, some (.ref st), some (.ref F), v5, none] ∧ LG ss.length 3 p l G3 F us ts G ∧ ts.length = i + 1 ∧ progW movM ts = [d]) ⟨_, _, _, rfl, L1, rfl, hw⟩ (fun _ _ _ _ _ => trivial) ?_ ?_⟩
    · rintro i x σ _ G hi ⟨v5, us, ts, rfl, L, htl, hpw⟩ ⟨rfl, rfl⟩
      have hul := L.len
      dsimp only
      refine one_drop ?_
      refine ⟨.ref F, rfl, .inl ⟨rfl, us, SqL.of L.hF⟩, ?_⟩
      refine bq_at (F := frD p l) (H := G) (R := BkK ss.length i) (bq_pick (m := 1) (S := fun ds => ∀ x ∈ ds, BkK ss.length i x) rfl ?_ fun ds d h hd => h d hd) L.D fun G8 w x D8 E8 q8 f8 h8 => ?_
      · walk_at "bq"
        refine bq_ivar rfl ?_
        walk_at "bq"
        refine bq_ivar rfl ?_
        walk_at "bq"
        intro x hx
        simp only [List.mem_cons, List.not_mem_nil, or_false] at hx
        rcases hx with rfl | rfl
        · exact bk_row
        · exact bk_back
      have L8 := L.deck ⟨nFp, nFl⟩ D8 E8
      obtain ⟨t, rfl, o, hd4, hc⟩ := h8
      refine ⟨F, us, w, rfl, rfl, L8.hF, szl (by omega), _, _, _, rfl, L8.snoc ⟨nFp, nFl⟩ nF0 q8 (by omega) (by rw [htl]; exact o) hd4, by rw [List.length_append, htl]; rfl, ?_⟩
      rw [progW_snoc, hc, show (wsAll movM ts []).getD i [] = progW movM ts by
        have := ws_lastD movM (p := ts) (by omega)
        rw [htl] at this
        exact this, hpw]
      rfl
    · rintro σ G ⟨v5, us, ts, rfl, L, htl, hpw⟩
      have tG := TS.deck D3 L.E
      have qsG := Dq.upT tG (st_flat ss) qs3
      have qdG := Dq.upT tG (deed_flat d) qd3
      dsimp only
      refine sq_asg (led_one (sx := .ref st) (ss := ss) (d := d) rfl qsG m1 hss hd (fun G1 Q2 s1 k => ⟨dv, rfl, by show 2 ≤ sizeLine; decide, fun a na => k _ _ (same_new na) ?_⟩) fun G6 r s6 h6 => ?_)
      · simp only [tmD]
        exact .tup upd_same (.cons (.str _) (.cons ((qdG.up s1).up (same_new na)) .nil))
      have L6 := L.up s6
      have hul := L.len
      refine ret_eq_repr ⟨.int (ss.length : Int), rfl, .ref F, rfl, F, us, rfl, .inl ⟨SqL.of L6.hF, fun t nt => ?_⟩⟩
      have s7 := same_new (o := .tup us) nt
      have L7 := L6.up s7
      have hpr : PrOk (Deed ss.length) 400 3 ts := L7.pr.mono (fun _ h => h) (by decide) (Nat.le_refl _)
      have smD := told_sm hpr hss m1
      refine ⟨.ref st, rfl, .ref t, .ref st, ts, ss, _, false, rfl, .tup upd_same L7.qu, qsG.up (s6.trans s7), by omega, hpr.mono (fun _ h => h) (Nat.le_refl _) (by decide), fun G8 k s8 h8 => ?_⟩
      rw [toldD_few (hpr.mono (D' := fun _ => True) (fun _ _ => trivial) (Nat.le_refl _) (Nat.le_refl _)) ss (by rw [hpw]; simp), hpw] at h8 smD
      dsimp only [tNil]
      refine repr_x h8 smD (by decide) (by decide) fun kx hkx => ⟨r, rfl, by show 2 ≤ sizeLine; decide, fun b nb => ?_⟩
      have sb := same_new (o := .lst [.str "told", r]) nb
      exact repr_eq hkx (.lst upd_same (.cons (.str _) (.cons (h6.up (s7.trans (s8.trans sb))) .nil))) smD (by decide) (by decide) (q _ (L7.D.up (s8.trans sb)) (Same.trans E03 (Same.trans L7.E (Ext.of (s8.trans sb)))))
end
end Kr
namespace Kr
open PySem PySem.Spec PyProof.Rows L2
local macro_rules | `(tactic| walk_at "bq") => `(tactic| repeat' (first | with_reducible refine bqa_nil ?_ | with_reducible refine bqa_cons ?_ | with_reducible refine bq_tup0 ?_ | with_reducible refine bq_tup1 ?_ | with_reducible refine bq_tup2 ?_ | with_reducible refine bq_tup3 ?_ | with_reducible refine bq_str ?_ | with_reducible refine bq_c ?_ | with_reducible refine bn_c ?_ | with_reducible refine bn_op ?_))
theorem sq_asgG {te : TE} {g : TG} {u : L2.TS} {D : Ends} {σ : L2.St} {H : Hp} (h : te σ H fun v H1 => g v σ H1 fun σ2 H2 => u D σ2 H2) : tSeq (tAsg te g) u D σ H := h
theorem tup_fst {te : TE} {ta : TA} {σ : L2.St} {H : Hp} {Q : VK} (h : te σ H fun v H1 => ta σ H1 fun vs H2 => (v :: vs).length ≤ sizeLine ∧ ∀ p, H2 p = none → Q (.ref p) (upd H2 p (.tup (v :: vs)))) : tTup (tCons te ta) σ H Q := h
theorem val_join {c : TT} {t e : TE} {σ : L2.St} {H : Hp} {Q : VK} (R : V → Hp → Prop) (k : ∀ v G, R v G → Q v G) (h : ∀ Q' : VK, (∀ v G, R v G → Q' v G) → tIf c t e σ H Q') : tIf c t e σ H Q := h Q k
theorem bn_lenS {K : PySem.W.Frag} {σ : L2.St} {j : Nat} {N : Int → Prop} {F : Addr} {us : List V} {G : Hp} (hv : σ[j]? = some (some (.ref F))) (hF : G F = some (.lst us)) (r : N (us.length : Int)) : Bn frS (tCB (fun xs H Q => ∃ p ys, xs = [V.ref p] ∧ (SqL K H p ys ∨ SqT K H p ys) ∧ Q (V.int (ys.length : Int)) H) (tCons (tVar j) tNil)) σ G N := fun G1 a b Q q =>
  ⟨_, hv, F, us, rfl, .inl (SqL.of (b _ _ hF)), q G1 _ a frS.refl r⟩
theorem if_eqc {te t u : TE} {c : V} {σ : L2.St} {H : Hp} {Q : VK} (h : te σ H fun x H1 => rEq x c H1 fun z H2 => ∃ b, z = .bl b ∧ (if b = true then t σ H2 Q else u σ H2 Q)) : tIf (tTest (tOp rEq te (tC c))) t u σ H Q := h
/-- a deed so often -/
theorem runM_rep {ss : List Int} {d : Mv} (h : Deed ss.length d) : ∀ k : Nat, runM (List.replicate k d) ss = if k % 2 = 0 then ss else doM ss d
  | 0 => rfl
  | 1 => rfl
  | k + 2 => by
    have e : runM (List.replicate (k + 2) d) ss = runM (List.replicate k d) (doM (doM ss d) d) := rfl
    rw [e, doM_twice rfl h, runM_rep h k, show (k + 2) % 2 = k % 2 by omega]
def dueD (ss : List Int) (d : Mv) (k : Nat) : PyData := if k ≤ 5000 then .list [.str "told", stD (if k % 2 = 0 then ss else doM ss d)] else .list [.str "refused", .int 5000, .bool true]
theorem due_told {n k : Nat} {ts : List Tm} {ss : List Int} {d : Mv} (h : PrOk (fun _ => True) 400 n ts) (hd : Deed ss.length d) (e : progW movM ts = List.replicate k d) : toldD ts ss = dueD ss d k := by
  unfold dueD
  by_cases c : k ≤ 5000
  · rw [if_pos c, toldD_few h ss (by rw [e, List.length_replicate]; exact c), e, runM_rep hd]
  · rw [if_neg c, toldD_many h ss (by rw [e, List.length_replicate]; omega)]
/-- a list beside the deck -/
def LsD (p l : Addr) (G : Hp) (v : V) (d : PyData) : Prop := ∃ (a : Addr) (xs : List V) (ds : List PyData), v = .ref a ∧ a ≠ p ∧ a ≠ l ∧ G a = some (.lst xs) ∧ DqA G xs ds ∧ flatTA ds = true ∧ d = .list ds
theorem LsD.deck {p l : Addr} {G G' : Hp} {v : V} {d : PyData} (h : LsD p l G v d) (D : Deck G p l) (E : Ext p l G G') : LsD p l G' v d := by
  obtain ⟨a, xs, ds, rfl, h1, h2, h3, h4, h5, rfl⟩ := h
  exact ⟨a, xs, ds, rfl, h1, h2, E.at_ h1 h2 h3, DqA.upT (TS.deck D E) h5 h4, h5, rfl⟩
theorem LsD.dq {p l : Addr} {G : Hp} {v : V} {d : PyData} (h : LsD p l G v d) : Dq G v d := by
  obtain ⟨a, xs, ds, rfl, h1, h2, h3, h4, h5, rfl⟩ := h
  exact .lst h3 h4
theorem LsD.new {p l a : Addr} {G : Hp} {xs : List V} {ds : List PyData} (D : Deck G p l) (n : G a = none) (q : DqA G xs ds) (f : flatTA ds = true) : LsD p l (upd G a (.lst xs)) (.ref a) (.list ds) := ⟨a, xs, ds, rfl, (D.new n).1, (D.new n).2, upd_same, q.up (same_new n), f, rfl⟩
/-- a deed, and times of times of it -/
def farT (d : Mv) (c : Nat) : List Tm := .doo d :: (List.range c).map fun i => .times (.part i) (10 ^ 30)
theorem farT_succ (d : Mv) (c : Nat) : farT d (c + 1) = farT d c ++ [.times (.part c) (10 ^ 30)] := by
  unfold farT
  rw [List.range_succ, List.map_append]
  rfl
theorem farT_len (d : Mv) (c : Nat) : (farT d c).length = c + 1 := by simp [farT]
theorem farT_ok {m : Nat} {d : Mv} (hd : Deed m d) : ∀ c : Nat, c ≤ 300 → PrOk (Deed m) 3 3 (farT d c)
  | 0, _ => ⟨by simp [farT], by simp [farT], fun i t ht => by
      match i, ht with
      | 0, ht => cases Option.some.inj ht; exact ⟨by simp only [okTm]; exact hd, by simp only [dep]; omega⟩
      | _ + 1, ht => simp [farT] at ht⟩
  | c + 1, h => by
    rw [farT_succ]
    exact (farT_ok hd c (by omega)).snoc (by rw [farT_len]; omega) (by rw [farT_len]; simp only [okTm]; exact ⟨Nat.le_refl _, by omega⟩) (by simp only [dep]; omega)
theorem farT_cnt (d : Mv) : ∀ c : Nat, progW cntM (farT d c) = (10 ^ 30) ^ c
  | 0 => rfl
  | c + 1 => by
    have e : (wsAll cntM (farT d c) []).getD c 0 = progW cntM (farT d c) := by
      have := ws_lastD cntM (p := farT d c) (by rw [farT_len]; omega)
      rw [farT_len] at this
      exact this
    rw [farT_succ, progW_snoc]
    show (wsAll cntM (farT d c) []).getD c 0 * 10 ^ 30 = _
    rw [e, farT_cnt d c, Nat.pow_succ (10 ^ 30) c]
theorem farT_many {m : Nat} {d : Mv} (hd : Deed m d) {c : Nat} (h1 : 1 ≤ c) (h2 : c ≤ 300) : 5000 < (progW movM (farT d c)).length := by
  have h := (farT_ok hd c h2).mono (D' := fun _ => True) (fun _ _ => trivial) (show 3 ≤ 400 by decide) (Nat.le_refl _)
  rw [← rel_cnt.progW h, farT_cnt]
  have h3 : (10 ^ 30) ^ 1 ≤ (10 ^ 30) ^ c := Nat.pow_le_pow_right (by decide +kernel) h1
  have h4 : 5000 < (10 ^ 30) ^ 1 := by decide +kernel
  exact Nat.lt_of_lt_of_le h4 h3
def idleT (d : Mv) (c : Nat) : List Tm := farT d c ++ [.row [.times (.part c) 0, .back (.part 0)]]
theorem idleT_ok {m : Nat} {d : Mv} (hd : Deed m d) {c : Nat} (h : c ≤ 300) : PrOk (Deed m) 3 3 (idleT d c) := (farT_ok hd c h).snoc (by rw [farT_len]; omega) (by rw [farT_len]; simp only [okTm, okTms]; exact ⟨by simp, ⟨by omega, by omega⟩, by omega, trivial⟩) (by simp only [dep, depL]; omega)
theorem idleT_mov {m : Nat} {d : Mv} (hd : Deed m d) {c : Nat} (h : c ≤ 300) : progW movM (idleT d c) = [d] := by
  have e0 : (wsAll movM (farT d c) [])[0]? = some (worth movM (wsAll movM (farT d c) []) (.doo d)) := ws_at movM (D := Deed m) (r := 3) rfl (by simp only [okTm]; exact hd)
  have e1 : (wsAll movM (farT d c) []).getD 0 [] = [d] := by
    rw [List.getD_eq_getElem?_getD, e0]
    rfl
  unfold idleT
  rw [progW_snoc, mv_row]
  simp only [List.map_cons, List.map_nil, List.flatten_cons, List.flatten_nil, List.append_nil]
  rw [mv_times, mv_back]
  show [] ++ ((wsAll movM (farT d c) []).getD 0 []).reverse = [d]
  rw [e1]
  rfl
section
variable {P : Program} {w : World} {K : PySem.W.Frag} {mg : Str → Option Value} {base : Heap}
abbrev n_lIsBound : List Str := ["deck", "many", "deed", "standing", "place", "own", "times", "once", "due", "far", "turn", "idle"]
theorem sc_lIsBound : FnScope n_lIsBound ["deck"] (defScope sLIsBound) := ⟨rfl, rfl, rfl, by decide +kernel, rfl, by decide +kernel, by decide +kernel⟩
theorem o_lIsBound (D0 : Df K mg "_law_is_bound" sLIsBound ["deck"]) (B : Bi mg) (dr : Ok P w K mg base 1 "_law_draw" ["deck", "many"] spDraw) (dd : Ok P w K mg base 3 "_law_deed" ["deck", "many"] spDeed7) (sd : Ok P w K mg base 3 "_law_standing" ["deck", "many"] spStanding) (pk : Ok P w K mg base 2 "_law_pick" ["deck", "items"] spPick) (of : Ok P w K mg base 2 "_law_often" ["deck", "deed", "times"] spOften) (le : Ok P w K mg base 57 "_law_led" ["program", "longs", "term", "standing", "is_back"] (spLed 4 56)) (to : Ok P w K mg base 20 "_law_told" ["many", "program", "standing", "is_named"] (spTold 16)) : OkG P w K mg base 60 "_law_is_bound" ["deck"] spIdle := by
  refine D0.okG fun f fd F => okG F sc_lIsBound (fun vs H Q E h => ?_) (fun cdv A outer s H vs Q E hg hr h => ?_)
  · obtain ⟨_, _, rfl, _⟩ := h
    rfl
  · obtain ⟨p, l, rfl, Dk, q⟩ := h
    have hr_dr := hr.mono (show 1 ≤ 59 by omega)
    have hr_dd := hr.mono (show 3 ≤ 59 by omega)
    have hr_sd := hr.mono (show 3 ≤ 59 by omega)
    have hr_pk := hr.mono (show 2 ≤ 59 by omega)
    have hr_of := hr.mono (show 2 ≤ 59 by omega)
    have hr_le := hr.mono (show 57 ≤ 59 by omega)
    have hr_to := hr.mono (show 20 ≤ 59 by omega)
    have hu : (cxOf CX0 P w K mg base n_lIsBound "_law_is_bound" (defScope sLIsBound) f cdv A outer s H E).A.units + 64 < cLine := hr.units
    have hu1 := hu_of hr
    have cr := call_repr (X := (cxOf CX0 P w K mg base n_lIsBound "_law_is_bound" (defScope sLIsBound) f cdv A outer s H E).nox) hg hr.units
    refine ⟨_, pss_cons (ps_set (i := 1) sc_lIsBound.nd rfl (.inl rfl) (pe_op op_add pe_int (pe_fn dr hr_dr (by rfl) (pa_cons (pv 0) (pa_cons pe_int pa_nil)))))
      (pss_cons (ps_asg (pe_tup (pa_cons (pe_tup (pa_cons pe_str (pa_cons (pe_fn dd hr_dd (by rfl) (pa_cons (pv 0) (pa_cons (pv 1) pa_nil))) pa_nil))) (pa_cons (pe_fn sd hr_sd (by rfl) (pa_cons (pv 0) (pa_cons (pv 1) pa_nil))) pa_nil))) (pg_tup rfl (pgs_cons (pg_name (i := 2) sc_lIsBound.nd rfl (.inr rfl)) (pgs_cons (pg_name (i := 3) sc_lIsBound.nd rfl (.inl rfl)) pgs_nil))))
      (pss_cons (ps_if (pt_cmpR op_eq (pe_fn dr hr_dr (by rfl) (pa_cons (pv 0) (pa_cons pe_int pa_nil))) pe_int (nomark _)) (pss_one (ps_set (i := 3) sc_lIsBound.nd rfl (.inl rfl) (pe_callTy call_tuple_of (by rfl) B.tuple (by decide +kernel) (pa_cons (pe_lc (own := [("place", 4), ("own", 5)]) (g := gTup K 2 (gCons (gName 4) (gCons (gName 5) gNil))) (tt := tYes) (te := tIf (tTest (tOp (rIn K false) (tVar 4) (tOp (rIxT K) (tOp (rIxT K) (tVar 2) (tC (.int 1))) (tC (.int 0))))) (tC (.int 0)) (tVar 5)) rfl sc_lIsBound.nd (pi_enumT (by rfl) B.enumerate (pa_cons (pv 3) pa_nil)) (blkOk_by (own := [("place", 4), ("own", 5)]) (N := n_lIsBound) (sc := defScope sLIsBound) (by decide +kernel)) (fun _ _ _ _ _ => pg_tup rfl (pgs_cons (pg_name (i := 4) sc_lIsBound.nd rfl (.inl rfl)) (pgs_cons (pg_name (i := 5) sc_lIsBound.nd rfl (.inl rfl)) pgs_nil))) (fun _ _ _ _ _ => pts_nil) (fun _ _ _ _ _ => by exact (pe_ifExp (pt_cmpR (r := rIn K false) op_in_seq (pv 4) (pe_ix (r := rIxT K) ix_tup (pe_ix (r := rIxT K) ix_tup (pv 2) pe_int (fun _ _ => rfl)) pe_int (fun _ _ => rfl)) rfl) pe_int (pv 5)))) pa_nil)))) pss_nil)
      (pss_cons (ps_set (i := 6) sc_lIsBound.nd rfl (.inl rfl) (pe_fn pk hr_pk (by rfl) (pa_cons (pv 0) (pa_cons (pe_lst (pa_cons pe_int (pa_cons pe_int (pa_cons pe_int (pa_cons pe_int (pa_cons pe_int (pa_cons pe_int (pa_cons (pe_op op_pow pe_int pe_int) pa_nil)))))))) pa_nil))))
      (pss_cons (ps_set (i := 7) sc_lIsBound.nd rfl (.inl rfl) (pe_fn le hr_le (by rfl) (pa_cons (pe_tup pa_nil) (pa_cons (pe_lst pa_nil) (pa_cons (pv 2) (pa_cons (pv 3) (pa_cons pe_bl pa_nil)))))))
      (pss_cons (ps_set (i := 8) sc_lIsBound.nd rfl (.inl rfl) (pe_ifExp (pt_cmpR op_le (pv 6) pe_int (nomark _)) (pe_lst (pa_cons pe_str (pa_cons (pe_ifExp (pt_cmpR op_eq (pe_op op_mod (pe_callTy call_int1 (by rfl) B.int (by decide +kernel) (pa_cons (pv 6) pa_nil)) pe_int) pe_int (nomark _)) (pv 3) (pv 7)) pa_nil))) (pe_lst (pa_cons pe_str (pa_cons pe_int (pa_cons pe_bl pa_nil))))))
      (pss_cons (ps_if (pt_cmpR op_ne (pe_callB cr (by rfl) B.repr (by decide +kernel) (pa_cons (pe_fn to hr_to (by rfl) (pa_cons (pv 1) (pa_cons (pe_fn of hr_of (by rfl) (pa_cons (pv 0) (pa_cons (pv 2) (pa_cons (pv 6) pa_nil)))) (pa_cons (pv 3) (pa_cons pe_bl pa_nil))))) pa_nil)) (pe_callB cr (by rfl) B.repr (by decide +kernel) (pa_cons (pv 8) pa_nil)) (nomark _)) (pss_one (ps_ret pe_bl)) pss_nil)
      (pss_cons (ps_set (i := 9) sc_lIsBound.nd rfl (.inl rfl) (pe_op op_cat (pe_lst (pa_cons (pv 2) pa_nil)) (pe_lc (own := [("turn", 10)]) (g := gName 10) (tt := tYes) rfl sc_lIsBound.nd (pi_range1 (by rfl) B.range (pa_cons (pe_fn pk hr_pk (by rfl) (pa_cons (pv 0) (pa_cons (pe_lst (pa_cons pe_int (pa_cons pe_int (pa_cons pe_int pa_nil)))) pa_nil))) pa_nil)) (blkOk_by (own := [("turn", 10)]) (N := n_lIsBound) (sc := defScope sLIsBound) (by decide +kernel)) (fun _ _ _ _ _ => pg_name (i := 10) sc_lIsBound.nd rfl (.inl rfl)) (fun _ _ _ _ _ => pts_nil) (fun _ _ _ _ _ => (pe_tup (pa_cons pe_str (pa_cons (pe_tup (pa_cons pe_str (pa_cons (pv 10) pa_nil))) (pa_cons (pe_op op_pow pe_int pe_int) pa_nil))))))))
      (pss_cons (ps_if (pt_cmpR op_ne (pe_callB cr (by rfl) B.repr (by decide +kernel) (pa_cons (pe_fn to hr_to (by rfl) (pa_cons (pv 1) (pa_cons (pe_callTy call_tuple_of (by rfl) B.tuple (by decide +kernel) (pa_cons (pv 9) pa_nil)) (pa_cons (pv 3) (pa_cons pe_bl pa_nil))))) pa_nil)) (pe_callB cr (by rfl) B.repr (by decide +kernel) (pa_cons (pe_lst (pa_cons pe_str (pa_cons pe_int (pa_cons pe_bl pa_nil)))) pa_nil)) (nomark _)) (pss_one (ps_ret pe_bl)) pss_nil)
      (pss_cons (ps_set (i := 11) sc_lIsBound.nd rfl (.inl rfl) (pe_callTy call_tuple_of (by rfl) B.tuple (by decide +kernel) (pa_cons (pe_op op_cat (pv 9) (pe_lst (pa_cons (pe_tup (pa_cons pe_str (pa_cons (pe_tup (pa_cons (pe_tup (pa_cons pe_str (pa_cons (pe_tup (pa_cons pe_str (pa_cons (pe_op op_sub (pe_callB call_len_seq (by rfl) B.len boot_len (pa_cons (pv 9) pa_nil)) pe_int) pa_nil))) (pa_cons pe_int pa_nil)))) (pa_cons (pe_tup (pa_cons pe_str (pa_cons (pe_tup (pa_cons pe_str (pa_cons pe_int pa_nil))) pa_nil))) pa_nil))) pa_nil))) pa_nil))) pa_nil)))
      (pss_one (ps_ret (pe_cmpR op_eq (pe_callB cr (by rfl) B.repr (by decide +kernel) (pa_cons (pe_fn to hr_to (by rfl) (pa_cons (pv 1) (pa_cons (pv 11) (pa_cons (pv 3) (pa_cons pe_bl pa_nil))))) pa_nil)) (pe_callB cr (by rfl) B.repr (by decide +kernel) (pa_cons (pe_lst (pa_cons pe_str (pa_cons (pv 7) pa_nil))) pa_nil)) (nomark _))))))))))))), ?_⟩
    refine sq_asg (bn_at (F := frD p l) (H := H) (N := fun x => ∃ k : Nat, x = (k : Int) ∧ 3 ≤ k ∧ k ≤ 24) (bn_op (bn_c (bn_draw rfl (bn_c ⟨by decide, fun r h0 h1 => ⟨(3 + r).toNat, by omega, by omega, by omega⟩⟩)))) Dk fun G1 mv D1 E1 hm => ?_)
    obtain ⟨m, rfl, m0, m1⟩ := hm
    have D1 : Deck G1 p l := D1
    have E1 : Ext p l H G1 := E1
    refine sq_asgG (tup_fst (bq_at (F := frD p l) (H := G1) (R := fun x => ∃ d, x = tmD (.doo d) ∧ Deed m d) ?_ D1 fun G2 dv x D2 E2 q2 f2 h2 => ?_))
    · walk_at "bq"
      refine (bq_deed rfl rfl m0 m1).mono fun y ⟨md, e, hd⟩ => ?_
      walk_at "bq"
      exact ⟨md, by rw [e]; simp only [tmD], hd⟩
    obtain ⟨d, rfl, hd⟩ := h2
    have D2 : Deck G2 p l := D2
    have E2 : Ext p l G1 G2 := E2
    refine ⟨.ref p, rfl, .int (m : Int), rfl, p, l, (m : Int), rfl, D2, by omega, by omega, fun G3 st ss D3 E3 hst hsl hss => ⟨by show 2 ≤ sizeLine; decide, fun t2 nt2 => ⟨t2, _, rfl, SqT.of upd_same, rfl, _, _, rfl, _, [], rfl, rfl, ?_⟩⟩⟩
    have hsl : ss.length = m := by rw [hsl, Int.toNat_natCast]
    have hss : ∀ z ∈ ss, 0 ≤ z ∧ z < 100 := fun z hz => by have := hss z hz; omega
    have O3 : OI p l H dv (.ref st) d ss G3 := ⟨D3, Same.trans E1 (Same.trans E2 E3), Dq.upT (TS.deck D2 E3) (tm_flat _) q2, .tup (hid_same p l G3 _ _ hst) (DqA.ints ss)⟩
    have O4 := O3.up (same_new (o := .tup [dv, .ref st]) nt2)
    generalize upd G3 t2 (.tup [dv, .ref st]) = G4 at O4
    clear D1 E1 D2 E2 q2 D3 E3 hst nt2 O3
    dsimp only
    refine sq_if ?_
    refine ⟨.ref p, rfl, p, l, 2, rfl, O4.D, by decide, fun G5 r D5 E5 r0 r1 => ⟨rfl, _, rfl, ?_⟩⟩
    have O5 := O4.deck D5 E5
    refine ifS_join (R := fun σ G => ∃ (sx : V) (zs : List Int), σ = [some (.ref p), some (.int (m : Int)), some dv, some sx, none, none, none, none, none, none, none, none] ∧ OI p l H dv sx d zs G ∧ zs.length = m ∧ ∀ z ∈ zs, 0 ≤ z ∧ z < 100) ?_ (fun c D' kD => ?_) (fun c D' kD => kD _ _ ⟨_, _, rfl, O5, hsl, hss⟩)
    rotate_left
    · refine one_asg ?_
      obtain ⟨sa, sxs, esa, hsa, qsa⟩ := O5.qs.tup_inv
      cases esa
      have hsx := dqa_int qsa
      subst hsx
      have qd5 := O5.qd
      simp only [tmD] at qd5
      obtain ⟨da, dxs, rfl, hda, qda⟩ := qd5.tup_inv
      cases qda with
      | cons qa qda =>
      cases qda with
      | cons qb qda =>
      cases qda
      cases qa
      obtain ⟨ea, qa, rfl, hea, hqa⟩ := deed_inv' qb
      refine ⟨.ref st, rfl, st, _, rfl, SqT.of hsa, fun Da nDa => lc_it (walk_enumT (K := K)) (fun i G => ∃ zs : List Int, G Da = some (.lst (zs.map V.int)) ∧ Same G5 G ∧ zs.length = i ∧ ∀ z ∈ zs, 0 ≤ z ∧ z < 100)
        ⟨[], upd_same, same_new nDa, rfl, fun _ h => nomatch h⟩ (fun i G _ ⟨_, _, s, _⟩ => SqT.of (s _ _ hsa)) ?_ ?_⟩
      · rintro i _ G _ hi ⟨zs, hDa, sm, hl, hb⟩ ⟨T, x, y, rfl, nT, rfl, f1, f2⟩
        cases Option.some.inj f1
        obtain ⟨own, hown, hom, rfl⟩ : ∃ own, ss[i]? = some own ∧ own ∈ ss ∧ y = .int own := by
          have f3 : (ss.map V.int)[i]? = some y := f2
          rw [List.getElem?_map] at f3
          obtain ⟨own, h1, h2⟩ := Option.map_eq_some_iff.mp f3
          exact ⟨own, h1, List.mem_of_getElem? h1, h2.symm⟩
        have hil := (List.getElem?_eq_some_iff.mp hown).1
        have hob := hss own hom
        have sT : Same G (upd G T (.tup [.int (i : Nat), .int own])) := same_new nT
        have hDa2 := sT _ _ hDa
        have sm2 := sm.trans sT
        refine ⟨T, [.int (i : Nat), .int own], rfl, SqT.of upd_same, rfl, .int (i : Nat), [.int own], rfl, .int own, [], rfl, rfl, rfl, ?_⟩
        generalize upd G T (.tup [.int (i : Nat), .int own]) = G2 at hDa2 sm2
        have put : ∀ wv : Int, 0 ≤ wv → wv < 100 → ∃ acc, G2 Da = some (.lst acc) ∧ acc.length < sizeLine ∧ ∃ zs : List Int, upd G2 Da (.lst (acc ++ [.int wv])) Da = some (.lst (zs.map V.int)) ∧ Same G5 (upd G2 Da (.lst (acc ++ [.int wv]))) ∧ zs.length = i + 1 ∧ ∀ z ∈ zs, 0 ≤ z ∧ z < 100 := fun wv w0 w1 => by
          refine ⟨_, hDa2, szl (by rw [List.length_map]; omega), zs ++ [wv], by rw [upd_same, List.map_append]; rfl, fun b o hb' => ?_, by rw [List.length_append, hl]; rfl, fun z hz => ?_⟩
          · rw [upd_ne (ne_of_none hb' nDa)]
            exact sm2 _ _ hb'
          · rcases List.mem_append.mp hz with hz | hz
            · exact hb z hz
            · rw [List.mem_singleton.mp hz]; omega
        dsimp only [tYes]
        rw [if_pos rfl]
        refine ⟨.int (i : Nat), rfl, .ref da, rfl, da, _, 1, .ref ea, rfl, rfl, SqT.of (sm2 _ _ hda), rfl, ea, _, 0, .ref qa, rfl, rfl, SqT.of (sm2 _ _ hea), rfl, qa, _, rfl, .inr (SqT.of (sm2 _ _ hqa)), rfl, lv_fl d.1, _, rfl, ite2 (fun _ => ?_) (fun _ => ?_)⟩
        · exact put 0 (by decide) (by decide)
        · exact ⟨.int own, rfl, put own hob.1 hob.2⟩
      · rintro G ⟨zs, hDa, sm, hl, hb⟩
        rw [List.length_map] at hl
        refine ⟨Da, _, rfl, .inl ⟨SqL.of hDa, fun t nt => ?_⟩⟩
        have OG := (O5.up sm).up (same_new (o := .tup (zs.map V.int)) nt)
        exact kD _ _ ⟨.ref t, zs, rfl, ⟨OG.D, OG.E, OG.qd, .tup upd_same (DqA.ints zs)⟩, by omega, hb⟩
    clear O4 O5 D5 E5
    rintro σ G ⟨sx, zs, rfl, O, hzl, hzs⟩
    clear hsl hss
    dsimp only
    refine sq_asg (bn_at (F := frD p l) (H := G) (N := fun x => ∃ k : Nat, x = (k : Int) ∧ k ≤ 10 ^ 30) (bn_pick (m := 6) rfl ?_) O.D fun G5 z D5 E5 hz => ?_)
    · walk_at "bq"
      refine bq_int (N := fun x => x = ((10 ^ 30 : Nat) : Int)) (bn_opC (bn_c (bn_c ⟨⟨by decide, by decide, by decide⟩, rfl⟩))) fun x hx => ?_
      subst hx
      walk_at "bq"
      intro x hx
      simp only [List.mem_cons, List.not_mem_nil, or_false] at hx
      rcases hx with rfl | rfl | rfl | rfl | rfl | rfl | rfl
      · exact ⟨_, rfl, 4999, rfl, by decide +kernel⟩
      · exact ⟨_, rfl, 5000, rfl, by decide +kernel⟩
      · exact ⟨_, rfl, 5000, rfl, by decide +kernel⟩
      · exact ⟨_, rfl, 5001, rfl, by decide +kernel⟩
      · exact ⟨_, rfl, 5001, rfl, by decide +kernel⟩
      · exact ⟨_, rfl, 5001, rfl, by decide +kernel⟩
      · exact ⟨_, rfl, 10 ^ 30, rfl, Nat.le_refl _⟩
    obtain ⟨k, rfl, hk⟩ := hz
    have O5 := O.deck D5 E5
    clear O D5 E5
    subst hzl
    refine sq_asg (led_one (sx := sx) (ss := zs) (d := d) rfl O5.qs m1 hzs hd (fun G1 Q2 s1 k => ⟨dv, rfl, k _ _ (Same.refl _) (O5.qd.up s1)⟩) fun G6 ov s6 qo => ?_)
    have O6 := O5.up s6
    clear O5 s6
    have hfo : flatTA [.str "told", stD zs] = true := by simp [flatTA, flatT, st_flat]
    have hfo2 : flatTA [.str "told", stD (doM zs d)] = true := by simp [flatTA, flatT, st_flat]
    refine sq_asg (val_join (R := fun v G => ∃ H7, Same G6 H7 ∧ Same G6 G ∧ LsD p l G v (dueD zs d k)) (fun due G7 ⟨_, _, s7, q7⟩ => ?_) fun Q' kQ => ?_)
    rotate_left
    · refine ⟨_, rfl, _, _, rfl, rfl, _, rfl, ite2 (fun c => ?_) (fun c => ?_)⟩
      · have hc : k ≤ 5000 := by
          have : (k : Int) ≤ 5000 := of_decide_eq_true c
          omega
        refine arg_c (arg_fst (if_eqc ?_))
        refine bn_at (F := frS) (H := G6) (N := fun x => x = (k : Int) % 2) (bn_opC (bn_int1 (bn_var rfl (bn_c ⟨by decide, rfl⟩)))) trivial fun G7 x _ s7 hx => ⟨rfl, _, rfl, ite2 (fun c2 => ⟨sx, rfl, by show 2 ≤ sizeLine; decide, fun a na => kQ _ _ ⟨G7, s7, Same.trans s7 (same_new na), ?_⟩⟩) (fun c2 => ⟨ov, rfl, by show 2 ≤ sizeLine; decide, fun a na => kQ _ _ ⟨G7, s7, Same.trans s7 (same_new na), ?_⟩⟩)⟩
        · have c2 : k % 2 = 0 := by
            have : x = 0 := V.int.inj (of_decide_eq_true c2)
            omega
          unfold dueD
          rw [if_pos hc, if_pos c2]
          exact LsD.new (O6.D.up s7) na (.cons (.str _) (.cons (O6.qs.up s7) .nil)) hfo
        · have c2 : ¬ k % 2 = 0 := fun z => c2 (decide_eq_true (by rw [hx]; congr 1; omega))
          unfold dueD
          rw [if_pos hc, if_neg c2]
          exact LsD.new (O6.D.up s7) na (.cons (.str _) (.cons (qo.up s7) .nil)) hfo2
      · have hc : ¬ k ≤ 5000 := fun z => c (decide_eq_true (by omega))
        refine ⟨by show 3 ≤ sizeLine; decide, fun a na => kQ _ _ ⟨G6, Same.refl _, same_new na, ?_⟩⟩
        unfold dueD
        rw [if_neg hc]
        exact LsD.new O6.D na (.cons (.str _) (.cons (.int _) (.cons (.bl _) .nil))) rfl
    have O7 := O6.up s7
    have qo7 := qo.up s7
    clear O6 qo s7
    refine sq_if ?_
    refine ne_repr ⟨.int (zs.length : Int), rfl, .ref p, rfl, dv, rfl, .int (k : Int), rfl, p, l, dv, zs.length, k, d, rfl, O7.D, O7.qd, hd, hk, fun G8 pv ts D8 E8 qp hpr hpw => ⟨sx, rfl, pv, sx, ts, zs, _, false, rfl, qp, (O7.deck D8 E8).qs, by omega, hpr.mono (fun _ h => h) (Nat.le_refl _) (by decide), fun G9 r s9 h9 => ?_⟩⟩
    have hpT : PrOk (fun _ => True) 400 6 ts := hpr.mono (fun _ _ => trivial) (Nat.le_refl _) (Nat.le_refl _)
    have smD := told_sm hpr hzs m1
    rw [due_told hpT hd hpw] at h9 smD
    have O8 := O7.deck D8 E8
    have qo8 := Dq.upT (TS.deck O7.D E8) (st_flat _) qo7
    have q8 := q7.deck O7.D E8
    have O9 := O8.up s9
    refine repr_x h9 smD (by decide) (by decide) fun kx hkx => ⟨due, rfl, ?_⟩
    refine repr_ne hkx (q8.dq.up s9) smD (by decide) (by decide) (iteF ?_)
    have qo9 := qo8.up s9
    clear O7 O8 qo7 qo8 q7 q8 qp h9 smD hkx D8 E8 s9
    dsimp only [tNext]
    refine sq_asg ⟨dv, rfl, by show 1 ≤ sizeLine; decide, fun T nT => ?_⟩
    have sT := same_new (o := .lst [dv]) nT
    obtain ⟨nTp, nTl⟩ := O9.D.new nT
    have hT : upd G9 T (.lst [dv]) T = some (.lst [dv]) := upd_same
    have OT := O9.up sT
    have qoT := qo9.up sT
    generalize upd G9 T (.lst [dv]) = GT at OT hT qoT
    clear O9 qo9 sT nT
    refine bn_at (F := frD p l) (H := GT) (N := fun x => ∃ c : Nat, x = (c : Int) ∧ 1 ≤ c ∧ c ≤ 11) (bn_pick (m := 2) rfl ?_) OT.D fun GA z DA EA hz => ?_
    · walk_at "bq"
      intro x hx
      simp only [List.mem_cons, List.not_mem_nil, or_false] at hx
      rcases hx with rfl | rfl | rfl
      · exact ⟨_, rfl, 1, rfl, by decide, by decide⟩
      · exact ⟨_, rfl, 2, rfl, by decide, by decide⟩
      · exact ⟨_, rfl, 11, rfl, by decide, by decide⟩
    obtain ⟨c, rfl, c1, c2⟩ := hz
    have OA := OT.deck DA EA
    have hTA := EA.at_ nTp nTl hT
    have qoA := Dq.upT (TS.deck OT.D EA) (st_flat _) qoT
    clear OT hT qoT DA EA
    refine ⟨_, rfl, by omega, by omega, fun Dd nDd => ?_⟩
    refine lc_itF (walk_rg (n := c)) (fun i => .tuple [.str "times", .tuple [.str "part", .int (i : Int)], .int ((10 ^ 30 : Nat) : Int)]) nDd (by omega) (fun _ _ => rfl) (fun _ _ => trivial) (fun i x G G' C Cn hi s1 y kc => ?_) (fun G acc s1 hD qa => ?_)
    · obtain ⟨rfl, rfl⟩ := y
      refine ⟨rfl, ?_⟩
      dsimp only [tYes]
      rw [if_pos rfl]
      refine bq_at (F := frS) (R := fun e => e = .tuple [.str "times", .tuple [.str "part", .int (i : Int)], .int ((10 ^ 30 : Nat) : Int)]) ?_ trivial fun G3 v e _ s3 q3 f3 h3 => ?_
      · walk_at "bq"
        refine bq_ivar rfl ?_
        walk_at "bq"
        refine bq_int (N := fun x => x = ((10 ^ 30 : Nat) : Int)) (bn_opC (bn_c (bn_c ⟨⟨by decide, by decide, by decide⟩, rfl⟩))) fun x hx => ?_
        subst hx
        walk_at "bq"
        rfl
      · subst h3
        exact kc _ _ s3 q3
    have OB := OA.up s1
    have hTB := s1 _ _ hTA
    have qoB := qoA.up s1
    have hal := qa.len
    rw [List.length_map, List.length_range] at hal
    refine ⟨T, Dd, [dv], acc, rfl, rfl, hTB, hD, Nat.le_of_lt (szm (by show 1 + acc.length ≤ 100000; omega)), fun W nW => ?_⟩
    have sW := same_new (o := .lst ([dv] ++ acc)) nW
    have hW : upd G W (.lst ([dv] ++ acc)) W = some (.lst ([dv] ++ acc)) := upd_same
    have OW := OB.up sW
    have qoW := qoB.up sW
    have hff : (farT d c).map tmD = tmD (.doo d) :: (List.range c).map fun (i : Nat) => .tuple [.str "times", .tuple [.str "part", .int (i : Int)], .int ((10 ^ 30 : Nat) : Int)] := by
      unfold farT
      rw [List.map_cons, List.map_map]
      congr 1
    have qW : DqA (upd G W (.lst ([dv] ++ acc))) ([dv] ++ acc) ((farT d c).map tmD) := by
      rw [hff]
      exact .cons OW.qd (qa.up sW)
    generalize upd G W (.lst ([dv] ++ acc)) = GW at hW OW qoW qW
    clear sW nW hTB hTA OA OB qoA qoB hD qa s1 nDd
    have hfo := (farT_ok hd c (by omega)).mono (D' := Deed zs.length) (fun _ h => h) (show 3 ≤ 400 by decide) (Nat.le_refl _)
    refine sq_if ?_
    refine ne_repr ⟨.int (zs.length : Int), rfl, .ref W, rfl, W, _, rfl, .inl ⟨SqL.of hW, fun t nt => ?_⟩⟩
    have st := same_new (o := .tup ([dv] ++ acc)) nt
    have OX := OW.up st
    have hX := st _ _ hW
    have qoX := qoW.up st
    have qX := qW.up st
    have htq : Dq (upd GW t (.tup ([dv] ++ acc))) (.ref t) (.tuple ((farT d c).map tmD)) := .tup upd_same qX
    generalize upd GW t (.tup ([dv] ++ acc)) = GX at OX hX qoX qX htq
    clear OW hW qoW qW st nt
    refine ⟨sx, rfl, .ref t, sx, farT d c, zs, _, false, rfl, htq, OX.qs, by omega, hfo.mono (fun _ h => h) (Nat.le_refl _) (by decide), fun GY r sY hY => ?_⟩
    rw [toldD_many (hfo.mono (D' := fun _ => True) (fun _ _ => trivial) (Nat.le_refl _) (Nat.le_refl _)) zs (farT_many hd c1 (by omega))] at hY
    refine repr_x hY sm_ref (by decide) (by decide) fun kx hkx => ⟨by show 3 ≤ sizeLine; decide, fun a na => ?_⟩
    have sa := sY.trans (same_new (o := .lst [.str "refused", .int 5000, .bl true]) na)
    have OZ := OX.up sa
    have hZ := sa _ _ hX
    have qoZ := qoX.up sa
    have qZ := qX.up sa
    refine repr_ne hkx (.lst upd_same (.cons (.str _) (.cons (.int _) (.cons (.bl _) .nil)))) sm_ref (by decide) (by decide) (iteF ?_)
    generalize upd GY a (.lst [.str "refused", .int 5000, .bl true]) = GZ at OZ hZ qoZ qZ
    clear OX hX qoX qX htq sY hY hkx na sa
    dsimp only [tNext]
    refine sq_asg ⟨.ref W, rfl, bq_lst (F := frS) (H := GZ) (S := fun ds => ds = [tmD (.row [.times (.part c) 0, .back (.part 0)])]) (n := 1) ?_ trivial (Same.refl _) (by decide) fun GU U us ds _ sU qU lU fU hS nU => ?_⟩
    · walk_at "bq"
      refine bq_op (bn_lenS rfl hZ (bn_c ?_))
      walk_at "bq"
      rw [show (((([dv] ++ acc).length : Nat) : Int) - 1) = (c : Int) by rw [List.length_append, hal]; show ((1 + c : Nat) : Int) - 1 = c; omega]
      simp only [tmD, tmDs]
      rfl
    subst hS
    have sU2 := same_new (o := .lst us) nU
    have qU2 := qU.up sU2
    have qZ2 := qZ.up (Same.trans sU sU2)
    have hul := qU.len
    refine ⟨W, U, _, us, rfl, rfl, sU2 _ _ (sU _ _ hZ), upd_same, Nat.le_of_lt (szm (by rw [List.length_append, hal, hul]; show 1 + c + 1 ≤ 100000; omega)), fun Z nZ => ⟨Z, _, rfl, .inl ⟨SqL.of upd_same, fun t nt => ?_⟩⟩⟩
    have s6 := (same_new (o := .lst ([dv] ++ acc ++ us)) nZ).trans (same_new (o := .tup ([dv] ++ acc ++ us)) nt)
    have s5 := Same.trans sU (Same.trans sU2 s6)
    have OF := OZ.up s5
    have qoF := qoZ.up s5
    have hok := (idleT_ok hd (c := c) (by omega)).mono (D' := Deed zs.length) (fun _ h => h) (show 3 ≤ 400 by decide) (Nat.le_refl _)
    have smD := told_sm hok hzs m1
    refine ret_eq_repr ⟨.int (zs.length : Int), rfl, .ref t, rfl, sx, rfl, .ref t, sx, idleT d c, zs, _, true, rfl, .tup upd_same ?_, OF.qs, by omega, hok.mono (fun _ h => h) (Nat.le_refl _) (by decide), fun G8 r s8 h8 => ?_⟩
    · unfold idleT
      rw [List.map_append]
      exact (qZ2.up s6).app (qU2.up s6)
    rw [toldD_few (hok.mono (D' := fun _ => True) (fun _ _ => trivial) (Nat.le_refl _) (Nat.le_refl _)) zs (by rw [idleT_mov hd (by omega)]; simp), idleT_mov hd (by omega)] at h8 smD
    dsimp only [tNil]
    refine repr_x h8 smD (by decide) (by decide) fun ky hky => ⟨ov, rfl, by show 2 ≤ sizeLine; decide, fun b nb => ?_⟩
    have sb := same_new (o := .lst [.str "told", ov]) nb
    exact repr_eq hky (.lst upd_same (.cons (.str _) (.cons (qoF.up (s8.trans sb)) .nil))) smD (by decide) (by decide) (q _ (OF.D.up (s8.trans sb)) (Same.trans OF.E (Ext.of (s8.trans sb))))
end
end Kr
namespace Kr
open PySem PySem.Spec PyProof.Rows L2
local macro_rules | `(tactic| walk_at "bq") => `(tactic| repeat' (first | with_reducible refine bqa_nil ?_ | with_reducible refine bqa_cons ?_ | with_reducible refine bq_tup0 ?_ | with_reducible refine bq_tup1 ?_ | with_reducible refine bq_tup2 ?_ | with_reducible refine bq_tup3 ?_ | with_reducible refine bq_str ?_ | with_reducible refine bq_c ?_ | with_reducible refine bn_c ?_ | with_reducible refine bn_op ?_))
theorem sq_lst {K : PySem.W.Frag} {te : TE} {g : TG} {t u : L2.TS} {D : Ends} {σ : L2.St} {H : Hp} (h : te σ H fun x H1 => ∃ a, x = .ref a ∧ (∃ xs, SqL K H1 a xs) ∧ ∃ W : Nat → Nat → L2.St → Hp → Prop, (∃ m, W 0 m σ H1) ∧ ∀ i m σ H, W i m σ H →
  ((Itl K a).stop i H ∧ (nxD D u).nx σ H) ∨ ((Itl K a).go i H ∧ ∃ N : L2.St → Hp → Prop, (∀ σ' H', N σ' H' → ∃ m', m' < m ∧ W (i + 1) m' σ' H') ∧ ∀ x H', (Itl K a).yld i H x H' → g x σ H' fun σ2 H2 => t { nxD D u with nx := N, bk := (nxD D u).nx, ct := N } σ2 H2)) : tSeq (tFor (iList K te) g t) u D σ H := h
theorem sql_up {K : PySem.W.Frag} {H H' : Hp} {a : Addr} {xs : List V} (h : SqL K H a xs) (s : Same H H') : SqL K H' a xs :=
  h.elim (fun h => .inl (h.elim (fun h => .inl (s _ _ h)) fun ⟨o, h⟩ => .inr ⟨o, s _ _ h⟩)) fun h => .inr h
/-- another deck does not touch this one -/
theorem Deck.other {p l p2 l2 : Addr} {H H' : Hp} (D : Deck H p l) (h1 : p2 ≠ p ∧ p2 ≠ l) (h2 : l2 ≠ p ∧ l2 ≠ l) (E : Ext p2 l2 H H') : Deck H' p l := by
  obtain ⟨ds, st, e1, e2, e3⟩ := D.ex
  exact ⟨ds, st, E.at_ h1.1.symm h2.1.symm e1, E.at_ h1.2.symm h2.2.symm e2, e3⟩
def spLaw (K : PySem.W.Frag) : Sp := fun vs H Q _ => ∃ (a : Addr) (ns : List Int), vs = [.ref a] ∧ SqL K H a (ns.map V.int) ∧ ns.length ≤ 63 ∧ ∀ H', Q (.bl true) H'
section
variable {P : Program} {w : World} {K : PySem.W.Frag} {mg : Str → Option Value} {base : Heap}
abbrev n_Law : List Str := ["script", "deck", "late", "turn", "many", "empty", "standing", "term"]
theorem sc_Law : FnScope n_Law ["script"] (defScope sLaw) := ⟨rfl, rfl, rfl, by decide +kernel, rfl, by decide +kernel, by decide +kernel⟩
theorem ok_law {f : Addr} {fd : FuncData} (F : Fun K "law" "law" sLaw f fd) (B : Bi mg) (dk : Ok P w K mg base 1 "_law_deck" ["script"] (spDeck K)) (dr : Ok P w K mg base 1 "_law_draw" ["deck", "many"] spDraw) (ch : OkG P w K mg base 60 "_law_is_chained" ["deck"] spIdle) (fe : Ok P w K mg base 14 "_law_few" ["deck", "many"] spFew) (ru : OkG P w K mg base 60 "_law_is_run" ["deck", "many", "program", "is_named"] spIsRun) (st : Ok P w K mg base 3 "_law_standing" ["deck", "many"] spStanding) (to : Ok P w K mg base 20 "_law_told" ["many", "program", "standing", "is_named"] (spTold 16)) (id : OkG P w K mg base 60 "_law_is_idle" ["deck"] spIdle) (db : OkG P w K mg base 60 "_law_is_doubled" ["deck"] spIdle) (bo : OkG P w K mg base 60 "_law_is_bound" ["deck"] spIdle) : FnG P w K mg base CX0 63 f fd ["script"] (spLaw K) := by
  refine okG F sc_Law (fun vs H Q E h => ?_) (fun cdv A outer s H vs Q E hg hr h => ?_)
  · obtain ⟨_, _, rfl, _⟩ := h
    rfl
  · obtain ⟨scr, ns, rfl, hS, hlen, q⟩ := h
    have hr_dk := hr.mono (show 1 ≤ 62 by omega)
    have hr_dr := hr.mono (show 1 ≤ 62 by omega)
    have hr_ch := hr.mono (show 60 ≤ 62 by omega)
    have hr_fe := hr.mono (show 14 ≤ 62 by omega)
    have hr_ru := hr.mono (show 60 ≤ 62 by omega)
    have hr_st := hr.mono (show 3 ≤ 62 by omega)
    have hr_to := hr.mono (show 20 ≤ 62 by omega)
    have hr_id := hr.mono (show 60 ≤ 62 by omega)
    have hr_db := hr.mono (show 60 ≤ 62 by omega)
    have hr_bo := hr.mono (show 60 ≤ 62 by omega)
    have hu : (cxOf CX0 P w K mg base n_Law "law" (defScope sLaw) f cdv A outer s H E).A.units + 64 < cLine := hr.units
    have hu1 := hu_of hr
    have cr := call_repr (X := (cxOf CX0 P w K mg base n_Law "law" (defScope sLaw) f cdv A outer s H E).nox) hg hr.units
    refine ⟨_, pss_cons (ps_par (i := 1) (j := 2) rfl sc_Law.nd rfl rfl (by decide) rfl rfl (pa_cons (pe_fn dk hr_dk (by rfl) (pa_cons (pv 0) pa_nil)) (pa_cons (pe_fn dk hr_dk (by rfl) (pa_cons (pe_op op_cat (pe_lst (pa_cons pe_int pa_nil)) (pe_callTy call_list_of (by rfl) B.list (by decide +kernel) (pa_cons (pv 0) pa_nil))) pa_nil)) pa_nil)) (by rfl))
      (pss_cons (ps_if (PW.pt (pw_and (pt_cmpR op_eq (pe_fn dr hr_dr (by rfl) (pa_cons (pv 2) (pa_cons pe_int pa_nil))) pe_int (nomark _)) (pw_and1 (pt_not (pt_val (pe_fnG ch hg hr_ch (by rfl) (pa_cons (pv 2) pa_nil))))))) (pss_one (ps_ret pe_bl)) pss_nil)
      (pss_cons (ps_for PassesOwn.never rfl (pi_range1 (by rfl) B.range (pa_cons pe_int pa_nil)) (pg_name (i := 3) sc_Law.nd rfl (.inl rfl))
        (pss_cons (ps_set (i := 4) sc_Law.nd rfl (.inl rfl) (pe_op op_add pe_int (pe_fn dr hr_dr (by rfl) (pa_cons (pv 1) (pa_cons (pe_ifExp (pt_cmpR op_lt (pv 3) pe_int (nomark _)) pe_int pe_int) pa_nil)))))
        (pss_one (ps_if (pt_not (pt_val (pe_fnG ru hg hr_ru (by rfl) (pa_cons (pv 1) (pa_cons (pv 4) (pa_cons (pe_fn fe hr_fe (by rfl) (pa_cons (pv 1) (pa_cons (pv 4) pa_nil))) (pa_cons (pe_cmpR op_eq (pv 3) pe_int (nomark _)) pa_nil))))))) (pss_one (ps_ret pe_bl)) pss_nil))))
      (pss_cons (ps_par (i := 4) (j := 5) rfl sc_Law.nd rfl rfl (by decide) rfl rfl (pa_cons (pe_op op_add pe_int (pe_fn dr hr_dr (by rfl) (pa_cons (pv 1) (pa_cons pe_int pa_nil)))) (pa_cons (pe_tup (pa_cons pe_str (pa_cons (pe_tup pa_nil) pa_nil))) pa_nil)) (by rfl))
      (pss_cons (ps_set (i := 6) sc_Law.nd rfl (.inl rfl) (pe_fn st hr_st (by rfl) (pa_cons (pv 1) (pa_cons (pv 4) pa_nil))))
      (pss_cons (ps_for PassesOwn.never rfl (pi_list (pe_lst (pa_cons (pv 5) (pa_cons (pe_tup (pa_cons pe_str (pa_cons (pv 5) (pa_cons (pe_op op_pow pe_int pe_int) pa_nil)))) (pa_cons (pe_tup (pa_cons pe_str (pa_cons (pe_tup (pa_cons pe_str (pa_cons (pe_tup (pa_cons pe_str (pa_cons (pv 5) (pa_cons (pe_op op_pow pe_int pe_int) pa_nil)))) (pa_cons (pe_op op_pow pe_int pe_int) pa_nil)))) pa_nil))) pa_nil))))) (pg_name (i := 7) sc_Law.nd rfl (.inl rfl))
        (pss_one (ps_if (pt_cmpR op_ne (pe_callB cr (by rfl) B.repr (by decide +kernel) (pa_cons (pe_fn to hr_to (by rfl) (pa_cons (pv 4) (pa_cons (pe_tup (pa_cons (pv 5) (pa_cons (pv 7) pa_nil))) (pa_cons (pv 6) (pa_cons pe_bl pa_nil))))) pa_nil)) (pe_callB cr (by rfl) B.repr (by decide +kernel) (pa_cons (pe_lst (pa_cons pe_str (pa_cons (pv 6) pa_nil))) pa_nil)) (nomark _)) (pss_one (ps_ret pe_bl)) pss_nil)))
      (pss_cons (ps_if (pt_not (pt_val (pe_fnG id hg hr_id (by rfl) (pa_cons (pv 1) pa_nil)))) (pss_one (ps_ret pe_bl)) pss_nil)
      (pss_cons (ps_if (PW.pt (pw_and (pt_cmpR op_eq (pe_fn dr hr_dr (by rfl) (pa_cons (pv 1) (pa_cons pe_int pa_nil))) pe_int (nomark _)) (pw_and1 (pt_not (pt_val (pe_fnG db hg hr_db (by rfl) (pa_cons (pv 1) pa_nil))))))) (pss_one (ps_ret pe_bl)) pss_nil)
      (pss_one (ps_ret (pe_or (pe_cmpR op_gt (pe_fn dr hr_dr (by rfl) (pa_cons (pv 1) (pa_cons pe_int pa_nil))) pe_int (nomark _)) (pe_one (pe_fnG bo hg hr_bo (by rfl) (pa_cons (pv 1) pa_nil))))))))))))), ?_⟩
    refine sq_par ⟨.ref scr, rfl, scr, ns, rfl, hS, by omega, fun H1 p l s1 np nl D1 => ?_⟩
    refine ⟨by show 1 ≤ sizeLine; decide, fun T nT => ⟨.ref scr, rfl, scr, _, rfl, .inl (sql_up hS (s1.trans (same_new nT))), fun L nL => ⟨T, L, [.int 7], _, rfl, rfl, same_new nL _ _ upd_same, upd_same, Nat.le_of_lt (szm (by rw [List.length_map]; show 1 + ns.length ≤ 100000; omega)), fun W nW => ⟨W, 7 :: ns, rfl, SqL.of upd_same, by show ns.length + 1 ≤ 64; omega, fun H2 p2 l2 s2 np2 nl2 D2 => ⟨_, _, rfl, ?_⟩⟩⟩⟩⟩
    have DW := D1.up ((same_new (o := .lst [.int 7]) nT).trans ((same_new (o := .lst (ns.map V.int)) nL).trans (same_new (o := .lst ([.int 7] ++ ns.map V.int)) nW)))
    have a1 := DW.new np2
    have a2 := DW.new nl2
    have DH := DW.up s2
    clear s1 np nl D1 nT nL nW np2 nl2 s2 DW hS
    refine sq_if ?_
    refine joinC7 (c := tAnd _ _) (fun b G => b = false ∧ Deck G p l) (fun b G ⟨e, DG⟩ => ?_) (fun Q' k => ?_)
    rotate_left
    · refine ⟨.ref p2, rfl, p2, l2, 6, rfl, D2, by decide, fun G3 r D3 E3 r0 r1 => ⟨rfl, _, rfl, ite2 (fun c => ?_) (fun c => k _ _ ⟨rfl, DH.other a1 a2 E3⟩)⟩⟩
      exact ⟨.ref p2, rfl, p2, l2, rfl, D3, fun G4 D4 E4 => ⟨true, rfl, k _ _ ⟨rfl, (DH.other a1 a2 E3).other a1 a2 E4⟩⟩⟩
    subst e
    refine iteF ?_
    clear D2 DH a1 a2
    dsimp only [tNext]
    refine ⟨6, rfl, by decide, by decide, for_it (walk_rg (n := 6)) (fun i σ G => ∃ v3 v4, σ = [some (.ref scr), some (.ref p), some (.ref p2), v3, v4, none, none, none] ∧ Deck G p l) ⟨_, _, rfl, DG⟩ (fun _ _ _ _ _ => trivial) ?_ ?_⟩
    · rintro i x σ _ G hi ⟨v3, v4, rfl, DG⟩ ⟨rfl, rfl⟩
      refine sq_asg (bn_at (F := frD p l) (H := G) (N := fun x => ∃ k : Nat, x = (k : Int) ∧ 3 ≤ k ∧ k ≤ 24) (bn_op (bn_c (bn_draw rfl (bn_ifc (bn_var rfl (bn_c ⟨fun _ => bn_c ⟨by decide, fun r h0 h1 => ⟨(3 + r).toNat, by omega, by omega, by omega⟩⟩, fun _ => bn_c ⟨by decide, fun r h0 h1 => ⟨(3 + r).toNat, by omega, by omega, by omega⟩⟩⟩)))))) DG fun G1 mv D1 E1 hm => ?_)
      obtain ⟨m, rfl, m0, m1⟩ := hm
      have D1 : Deck G1 p l := D1
      refine one_if ?_
      exact ⟨.ref p, rfl, .int (m : Int), rfl, .ref p, rfl, .int (m : Int), rfl, p, l, m, rfl, D1, m0, m1, fun G2 v ts D2 E2 hv hp hit hl7 hpw => ⟨_, rfl, rfl, p, l, m, v, ts, _, rfl, D2, m0, m1, hv, hp, hit, hl7, hpw, fun G3 D3 E3 => ⟨true, rfl, iteF ⟨_, _, rfl, D3⟩⟩⟩⟩
    clear DG
    rintro σ G ⟨v3, v4, rfl, DG⟩
    dsimp only
    refine sq_par (bn_at (F := frD p l) (H := G) (N := fun x => ∃ k : Nat, x = (k : Int) ∧ 3 ≤ k ∧ k ≤ 24) (bn_op (bn_c (bn_draw rfl (bn_c ⟨by decide, fun r h0 h1 => ⟨(3 + r).toNat, by omega, by omega, by omega⟩⟩)))) DG fun G1 mv D1 E1 hm => ?_)
    obtain ⟨m, rfl, m0, m1⟩ := hm
    have D1 : Deck G1 p l := D1
    refine bq_at (F := frD p l) (H := G1) (R := fun x => x = .tuple [.str "row", .tuple []]) ?_ D1 fun G2 ev x D2 E2 qe fe he => ⟨_, _, rfl, ?_⟩
    · walk_at "bq"
      rfl
    subst he
    have D2 : Deck G2 p l := D2
    refine sq_asg ⟨.ref p, rfl, .int (m : Int), rfl, p, l, (m : Int), rfl, D2, by omega, by omega, fun G3 st ss D3 E3 hst hsl hss => ?_⟩
    have hsl : ss.length = m := by rw [hsl, Int.toNat_natCast]
    have hss : ∀ z ∈ ss, 0 ≤ z ∧ z < 100 := fun z hz => by have := hss z hz; omega
    have qs3 : Dq G3 (.ref st) (stD ss) := .tup (hid_same p l G3 _ _ hst) (DqA.ints ss)
    have qe3 := Dq.upT (TS.deck D2 E3) fe qe
    subst hsl
    clear D1 E1 D2 E2 E3 qe hst DG
    have n0 : ∀ j, NoK ss.length j 1 (.tuple [.str "row", .tuple []]) := fun j => nk_row (n := 0) (fun _ h => nomatch h) (by simp)
    refine sq_lst (bq_lst (F := frD p l) (H := G3) (S := fun ds => ∀ x ∈ ds, NoK ss.length 1 6 x) (n := 3) ?_ D3 Ext.rfl (by decide) fun G4 T vs ds D4 E4 q4 l4 f4 hS nT => ?_)
    · walk_at "bq"
      refine bq_var D3 rfl qe3 fe ?_
      walk_at "bq"
      refine bq_var D3 rfl qe3 fe ?_
      walk_at "bq"
      refine bq_int (N := fun x => x = ((10 ^ 30 : Nat) : Int)) (bn_opC (bn_c (bn_c ⟨⟨by decide, by decide, by decide⟩, rfl⟩))) fun x hx => ?_
      subst hx
      walk_at "bq"
      refine bq_var D3 rfl qe3 fe ?_
      walk_at "bq"
      refine bq_int (N := fun x => x = ((10 ^ 30 : Nat) : Int)) (bn_opC (bn_c (bn_c ⟨⟨by decide, by decide, by decide⟩, rfl⟩))) fun x hx => ?_
      subst hx
      walk_at "bq"
      refine bq_int (N := fun x => x = ((10 ^ 30 : Nat) : Int)) (bn_opC (bn_c (bn_c ⟨⟨by decide, by decide, by decide⟩, rfl⟩))) fun x hx => ?_
      subst hx
      walk_at "bq"
      intro x hx
      simp only [List.mem_cons, List.not_mem_nil, or_false] at hx
      have n1 := nk_times (c := 10 ^ 30) (n0 1) (Nat.le_refl _)
      rcases hx with rfl | rfl | rfl
      · exact (n0 1).mono
      · exact n1.mono
      · exact (nk_back (nk_times (c := 10 ^ 30) n1 (Nat.le_refl _))).mono
    have D4 : Deck G4 p l := D4
    have E4 : Ext p l G3 G4 := E4
    have sT := same_new (o := .lst vs) nT
    have t4 := TS.deck D3 E4
    have D5 := D4.up sT
    have qs5 := (Dq.upT t4 (st_flat ss) qs3).up sT
    have qe5 := (Dq.upT t4 fe qe3).up sT
    have q5 := q4.up sT
    have hT : upd G4 T (.lst vs) T = some (.lst vs) := upd_same
    generalize upd G4 T (.lst vs) = G5 at D5 qs5 qe5 q5 hT
    clear D3 D4 E4 sT t4 qs3 qe3 q4 nT
    have smD := sm_tol hss m1
    refine ⟨T, rfl, ⟨vs, SqL.of hT⟩, for_it (walk_list (K := K) (a := T) (xs := vs)) (fun i σ G => ∃ v7, σ = [some (.ref scr), some (.ref p), some (.ref p2), v3, some (.int (ss.length : Int)), some ev, some (.ref st), v7] ∧ Same G5 G) ⟨_, rfl, Same.refl _⟩ (fun _ _ _ _ ⟨_, _, s⟩ => SqL.of (s _ _ hT)) ?_ ?_⟩
    · rintro i x σ _ G hi ⟨v7, rfl, sm⟩ ⟨rfl, hx⟩
      obtain ⟨d, hd, qd⟩ := q5.get hx
      have hno := hS d (List.mem_of_getElem? hd)
      obtain ⟨t, u, et, rfl, hpr, hpw⟩ := nk_prog ((n0 0).mono) hno
      refine one_if ?_
      refine ne_repr ⟨.int (ss.length : Int), rfl, ev, rfl, x, rfl, by show 2 ≤ sizeLine; decide, fun a na => ?_⟩
      have sa := sm.trans (same_new (o := .tup [ev, x]) na)
      refine ⟨.ref st, rfl, .ref a, .ref st, [t, u], ss, _, false, rfl, .tup upd_same (.cons (by rw [← et]; exact qe5.up sa) (.cons (qd.up sa) .nil)), qs5.up sa, by omega, hpr.mono (fun _ h => h) (Nat.le_refl _) (by decide), fun GI r sI hI => ?_⟩
      rw [toldD_few (hpr.mono (D' := fun _ => True) (fun _ _ => trivial) (Nat.le_refl _) (Nat.le_refl _)) ss (by rw [hpw]; simp), hpw] at hI
      refine repr_x hI smD (by decide) (by decide) fun kx hkx => ⟨.ref st, rfl, by show 2 ≤ sizeLine; decide, fun b nb => ?_⟩
      have sb := sa.trans (sI.trans (same_new (o := .lst [.str "told", .ref st]) nb))
      exact repr_ne hkx (.lst upd_same (.cons (.str _) (.cons (qs5.up sb) .nil))) smD (by decide) (by decide) (iteF ⟨_, rfl, sb⟩)
    · rintro σ G ⟨v7, rfl, sm⟩
      dsimp only
      refine sq_if ?_
      refine ⟨.ref p, rfl, p, l, rfl, D5.up sm, fun G6 D6 E6 => ⟨true, rfl, iteF ?_⟩⟩
      dsimp only [tNext]
      refine sq_if ?_
      refine joinC7 (c := tAnd _ _) (fun b G => b = false ∧ Deck G p l) (fun b G ⟨e, DG⟩ => ?_) (fun Q' k => ?_)
      rotate_left
      · refine ⟨.ref p, rfl, p, l, 3, rfl, D6, by decide, fun G7 r D7 E7 r0 r1 => ⟨rfl, _, rfl, ite2 (fun c => ?_) (fun c => k _ _ ⟨rfl, D7⟩)⟩⟩
        exact ⟨.ref p, rfl, p, l, rfl, D7, fun G8 D8 E8 => ⟨true, rfl, k _ _ ⟨rfl, D8⟩⟩⟩
      subst e
      refine iteF ?_
      dsimp only [tNext]
      exact one_ret ⟨.ref p, rfl, p, l, 5, rfl, DG, by decide, fun G7 r D7 E7 r0 r1 => ⟨_, _, rfl, rfl, _, rfl, ite2 (fun c => q _) (fun c => ⟨.ref p, rfl, p, l, rfl, D7, fun G8 D8 E8 => q _⟩)⟩⟩
end
end Kr
namespace Kr
open PySem PySem.Spec PyProof.Rows L2
/-! ### what the head has written -/
theorem df_mk {K : PySem.W.Frag} {h : Heap} {mg : Str → Option Value} {x : Str} {st : Stmt} {f : Addr} {ps : List Str} {oc : Value} {od an : Option Addr} {osl : Array (Option Value)} {kV doc pm cdv ct : Value} (X : K.In h) (G : h.Ns mainGlobals mg)
    (a : PySem.W.nsIn K mainGlobals x = some (some (.ref f))) (l : K.lookup f = some ⟨oc, od, .func (PySem.W.fnOf x x (defArgs st) (defBody st) (defScope st) .none kV doc pm an cdv ct), osl⟩) (c : PySem.W.codeIn K cdv x = true) (k : PySem.W.keepIn K (.ref f) = true)
    (hb : ∀ (kV doc pm : Value) (an : Option Addr) (cdv ct : Value) (us : List Value), us.length = ps.length → bindArgs (PySem.W.fnOf x x (defArgs st) (defBody st) (defScope st) .none kV doc pm an cdv ct) ⟨us, []⟩ = pure (ps.zip us)) : Df K mg x st ps :=
  ⟨_, _, fun_mk l c k, (fun_mk l c k).binds hb, PySem.W.mg_of X G a⟩
theorem all_mk {l : PySem.W.OpenLaw} {w : World} {K : PySem.W.Frag} {h : Heap} {mg : Str → Option Value} {fa : Addr} (X : K.In h) (G : h.Ns mainGlobals mg) (hfa : mg "law" = some (.ref fa))
    {f1 : Addr} {oc1 kV1 dc1 pm1 cd1 ct1 : Value} {od1 an1 : Option Addr} {sl1 : Array (Option Value)}
    {f2 : Addr} {oc2 kV2 dc2 pm2 cd2 ct2 : Value} {od2 an2 : Option Addr} {sl2 : Array (Option Value)}
    {f3 : Addr} {oc3 kV3 dc3 pm3 cd3 ct3 : Value} {od3 an3 : Option Addr} {sl3 : Array (Option Value)}
    {f4 : Addr} {oc4 kV4 dc4 pm4 cd4 ct4 : Value} {od4 an4 : Option Addr} {sl4 : Array (Option Value)}
    {f5 : Addr} {oc5 kV5 dc5 pm5 cd5 ct5 : Value} {od5 an5 : Option Addr} {sl5 : Array (Option Value)}
    {f6 : Addr} {oc6 kV6 dc6 pm6 cd6 ct6 : Value} {od6 an6 : Option Addr} {sl6 : Array (Option Value)}
    {f7 : Addr} {oc7 kV7 dc7 pm7 cd7 ct7 : Value} {od7 an7 : Option Addr} {sl7 : Array (Option Value)}
    {f8 : Addr} {oc8 kV8 dc8 pm8 cd8 ct8 : Value} {od8 an8 : Option Addr} {sl8 : Array (Option Value)}
    {f9 : Addr} {oc9 kV9 dc9 pm9 cd9 ct9 : Value} {od9 an9 : Option Addr} {sl9 : Array (Option Value)}
    {f10 : Addr} {oc10 kV10 dc10 pm10 cd10 ct10 : Value} {od10 an10 : Option Addr} {sl10 : Array (Option Value)}
    {f11 : Addr} {oc11 kV11 dc11 pm11 cd11 ct11 : Value} {od11 an11 : Option Addr} {sl11 : Array (Option Value)}
    {f12 : Addr} {oc12 kV12 dc12 pm12 cd12 ct12 : Value} {od12 an12 : Option Addr} {sl12 : Array (Option Value)}
    {f13 : Addr} {oc13 kV13 dc13 pm13 cd13 ct13 : Value} {od13 an13 : Option Addr} {sl13 : Array (Option Value)}
    {f14 : Addr} {oc14 kV14 dc14 pm14 cd14 ct14 : Value} {od14 an14 : Option Addr} {sl14 : Array (Option Value)}
    {f15 : Addr} {oc15 kV15 dc15 pm15 cd15 ct15 : Value} {od15 an15 : Option Addr} {sl15 : Array (Option Value)}
    {f16 : Addr} {oc16 kV16 dc16 pm16 cd16 ct16 : Value} {od16 an16 : Option Addr} {sl16 : Array (Option Value)}
    {f17 : Addr} {oc17 kV17 dc17 pm17 cd17 ct17 : Value} {od17 an17 : Option Addr} {sl17 : Array (Option Value)}
    {f18 : Addr} {oc18 kV18 dc18 pm18 cd18 ct18 : Value} {od18 an18 : Option Addr} {sl18 : Array (Option Value)}
    {f19 : Addr} {oc19 kV19 dc19 pm19 cd19 ct19 : Value} {od19 an19 : Option Addr} {sl19 : Array (Option Value)}
    {f20 : Addr} {oc20 kV20 dc20 pm20 cd20 ct20 : Value} {od20 an20 : Option Addr} {sl20 : Array (Option Value)}
    {f21 : Addr} {oc21 kV21 dc21 pm21 cd21 ct21 : Value} {od21 an21 : Option Addr} {sl21 : Array (Option Value)}
    {f22 : Addr} {oc22 kV22 dc22 pm22 cd22 ct22 : Value} {od22 an22 : Option Addr} {sl22 : Array (Option Value)}
    {f23 : Addr} {oc23 kV23 dc23 pm23 cd23 ct23 : Value} {od23 an23 : Option Addr} {sl23 : Array (Option Value)}
    {f24 : Addr} {oc24 kV24 dc24 pm24 cd24 ct24 : Value} {od24 an24 : Option Addr} {sl24 : Array (Option Value)}
    {f25 : Addr} {oc25 kV25 dc25 pm25 cd25 ct25 : Value} {od25 an25 : Option Addr} {sl25 : Array (Option Value)}
    {f26 : Addr} {oc26 kV26 dc26 pm26 cd26 ct26 : Value} {od26 an26 : Option Addr} {sl26 : Array (Option Value)}
    {tS : Tok}
    {R T fI : Addr} {nm q : Str} {N : Addr} {bs bm : List Value} {sn : List Str} {sub : List Value} {ab : Bool} {col : Option Bool} {dd : Option Addr} {m0 m1 m2 m3 m5 : Option Value} {ocI dcI pmI cdI ctI : Value} {odI anI : Option Addr} {slI : Array (Option Value)}
    {C1 : Addr}
    {mf1_1 : Addr} {moc1_1 mkV1_1 mdc1_1 mpm1_1 mcd1_1 mct1_1 : Value} {mod1_1 man1_1 : Option Addr} {msl1_1 : Array (Option Value)}
    {mf1_2 : Addr} {moc1_2 mkV1_2 mdc1_2 mpm1_2 mcd1_2 mct1_2 : Value} {mod1_2 man1_2 : Option Addr} {msl1_2 : Array (Option Value)}
    {mf1_3 : Addr} {moc1_3 mkV1_3 mdc1_3 mpm1_3 mcd1_3 mct1_3 : Value} {mod1_3 man1_3 : Option Addr} {msl1_3 : Array (Option Value)}
    {mf1_4 : Addr} {moc1_4 mkV1_4 mdc1_4 mpm1_4 mcd1_4 mct1_4 : Value} {mod1_4 man1_4 : Option Addr} {msl1_4 : Array (Option Value)}
    (ca1 : PySem.W.nsIn K mainGlobals "StepsMeasure" = some (some (.ref C1))) (cb1 : PySem.W.plainGet K C1 Str.empty = true) (cc1 : PySem.W.hasDictIn K C1 = true) (cd_1 : PySem.W.plainOver K C1 = true) (ce1 : PySem.W.findIn K (.ref C1) "__setattr__" = some (some (.builtin "object.__setattr__"))) (cf1 : PySem.W.makesIn K C1 = true) (cg1 : PySem.W.keepIn K (.ref C1) = true)
    (ch1 : PySem.W.findIn K (.ref C1) "__init__" = some (some (.builtin "object.__init__")))
    (ma1_1 : PySem.W.findIn K (.ref C1) "of_deed" = some (some (.ref mf1_1))) (mi1_1 : PySem.W.isFn K (.ref mf1_1) = true) (ml1_1 : K.lookup mf1_1 = some ⟨moc1_1, mod1_1, .func (PySem.W.fnOf "of_deed" "StepsMeasure.of_deed" (defArgs sSmDeed) (defBody sSmDeed) (defScope sSmDeed) .none mkV1_1 mdc1_1 mpm1_1 man1_1 mcd1_1 mct1_1), msl1_1⟩) (mc1_1 : PySem.W.codeIn K mcd1_1 "StepsMeasure.of_deed" = true) (mk1_1 : PySem.W.keepIn K (.ref mf1_1) = true)
    (ma1_2 : PySem.W.findIn K (.ref C1) "of_row" = some (some (.ref mf1_2))) (mi1_2 : PySem.W.isFn K (.ref mf1_2) = true) (ml1_2 : K.lookup mf1_2 = some ⟨moc1_2, mod1_2, .func (PySem.W.fnOf "of_row" "StepsMeasure.of_row" (defArgs sSmRow) (defBody sSmRow) (defScope sSmRow) .none mkV1_2 mdc1_2 mpm1_2 man1_2 mcd1_2 mct1_2), msl1_2⟩) (mc1_2 : PySem.W.codeIn K mcd1_2 "StepsMeasure.of_row" = true) (mk1_2 : PySem.W.keepIn K (.ref mf1_2) = true)
    (ma1_3 : PySem.W.findIn K (.ref C1) "of_back" = some (some (.ref mf1_3))) (mi1_3 : PySem.W.isFn K (.ref mf1_3) = true) (ml1_3 : K.lookup mf1_3 = some ⟨moc1_3, mod1_3, .func (PySem.W.fnOf "of_back" "StepsMeasure.of_back" (defArgs sSmBack) (defBody sSmBack) (defScope sSmBack) .none mkV1_3 mdc1_3 mpm1_3 man1_3 mcd1_3 mct1_3), msl1_3⟩) (mc1_3 : PySem.W.codeIn K mcd1_3 "StepsMeasure.of_back" = true) (mk1_3 : PySem.W.keepIn K (.ref mf1_3) = true)
    (ma1_4 : PySem.W.findIn K (.ref C1) "of_times" = some (some (.ref mf1_4))) (mi1_4 : PySem.W.isFn K (.ref mf1_4) = true) (ml1_4 : K.lookup mf1_4 = some ⟨moc1_4, mod1_4, .func (PySem.W.fnOf "of_times" "StepsMeasure.of_times" (defArgs sSmTimes) (defBody sSmTimes) (defScope sSmTimes) .none mkV1_4 mdc1_4 mpm1_4 man1_4 mcd1_4 mct1_4), msl1_4⟩) (mc1_4 : PySem.W.codeIn K mcd1_4 "StepsMeasure.of_times" = true) (mk1_4 : PySem.W.keepIn K (.ref mf1_4) = true)
    (a1 : PySem.W.nsIn K mainGlobals "done" = some (some (.ref f1))) (l1 : K.lookup f1 = some ⟨oc1, od1, .func (PySem.W.fnOf "done" "done" (defArgs sDone) (defBody sDone) (defScope sDone) .none kV1 dc1 pm1 an1 cd1 ct1), sl1⟩) (c1 : PySem.W.codeIn K cd1 "done" = true) (k1 : PySem.W.keepIn K (.ref f1) = true)
    (a2 : PySem.W.nsIn K mainGlobals "program_worth" = some (some (.ref f2))) (l2 : K.lookup f2 = some ⟨oc2, od2, .func (PySem.W.fnOf "program_worth" "program_worth" (defArgs sProgramWorth) (defBody sProgramWorth) (defScope sProgramWorth) .none kV2 dc2 pm2 an2 cd2 ct2), sl2⟩) (c2 : PySem.W.codeIn K cd2 "program_worth" = true) (k2 : PySem.W.keepIn K (.ref f2) = true)
    (a3 : PySem.W.nsIn K mainGlobals "term_worth" = some (some (.ref f3))) (l3 : K.lookup f3 = some ⟨oc3, od3, .func (PySem.W.fnOf "term_worth" "term_worth" (defArgs sTermWorth) (defBody sTermWorth) (defScope sTermWorth) .none kV3 dc3 pm3 an3 cd3 ct3), sl3⟩) (c3 : PySem.W.codeIn K cd3 "term_worth" = true) (k3 : PySem.W.keepIn K (.ref f3) = true)
    (a4 : PySem.W.nsIn K mainGlobals "run" = some (some (.ref f4))) (l4 : K.lookup f4 = some ⟨oc4, od4, .func (PySem.W.fnOf "run" "run" (defArgs sRun) (defBody sRun) (defScope sRun) .none kV4 dc4 pm4 an4 cd4 ct4), sl4⟩) (c4 : PySem.W.codeIn K cd4 "run" = true) (k4 : PySem.W.keepIn K (.ref f4) = true)
    (a5 : PySem.W.nsIn K mainGlobals "_law_deck" = some (some (.ref f5))) (l5 : K.lookup f5 = some ⟨oc5, od5, .func (PySem.W.fnOf "_law_deck" "_law_deck" (defArgs sDeck) (defBody sDeck) (defScope sDeck) .none kV5 dc5 pm5 an5 cd5 ct5), sl5⟩) (c5 : PySem.W.codeIn K cd5 "_law_deck" = true) (k5 : PySem.W.keepIn K (.ref f5) = true)
    (a6 : PySem.W.nsIn K mainGlobals "_law_draw" = some (some (.ref f6))) (l6 : K.lookup f6 = some ⟨oc6, od6, .func (PySem.W.fnOf "_law_draw" "_law_draw" (defArgs sDraw) (defBody sDraw) (defScope sDraw) .none kV6 dc6 pm6 an6 cd6 ct6), sl6⟩) (c6 : PySem.W.codeIn K cd6 "_law_draw" = true) (k6 : PySem.W.keepIn K (.ref f6) = true)
    (a7 : PySem.W.nsIn K mainGlobals "_law_pick" = some (some (.ref f7))) (l7 : K.lookup f7 = some ⟨oc7, od7, .func (PySem.W.fnOf "_law_pick" "_law_pick" (defArgs sPick) (defBody sPick) (defScope sPick) .none kV7 dc7 pm7 an7 cd7 ct7), sl7⟩) (c7 : PySem.W.codeIn K cd7 "_law_pick" = true) (k7 : PySem.W.keepIn K (.ref f7) = true)
    (a8 : PySem.W.nsIn K mainGlobals "_law_mixed" = some (some (.ref f8))) (l8 : K.lookup f8 = some ⟨oc8, od8, .func (PySem.W.fnOf "_law_mixed" "_law_mixed" (defArgs sMixed) (defBody sMixed) (defScope sMixed) .none kV8 dc8 pm8 an8 cd8 ct8), sl8⟩) (c8 : PySem.W.codeIn K cd8 "_law_mixed" = true) (k8 : PySem.W.keepIn K (.ref f8) = true)
    (a9 : PySem.W.nsIn K mainGlobals "_law_standing" = some (some (.ref f9))) (l9 : K.lookup f9 = some ⟨oc9, od9, .func (PySem.W.fnOf "_law_standing" "_law_standing" (defArgs sLStanding) (defBody sLStanding) (defScope sLStanding) .none kV9 dc9 pm9 an9 cd9 ct9), sl9⟩) (c9 : PySem.W.codeIn K cd9 "_law_standing" = true) (k9 : PySem.W.keepIn K (.ref f9) = true)
    (a10 : PySem.W.nsIn K mainGlobals "_law_deed" = some (some (.ref f10))) (l10 : K.lookup f10 = some ⟨oc10, od10, .func (PySem.W.fnOf "_law_deed" "_law_deed" (defArgs sDeed) (defBody sDeed) (defScope sDeed) .none kV10 dc10 pm10 an10 cd10 ct10), sl10⟩) (c10 : PySem.W.codeIn K cd10 "_law_deed" = true) (k10 : PySem.W.keepIn K (.ref f10) = true)
    (a11 : PySem.W.nsIn K mainGlobals "_law_term" = some (some (.ref f11))) (l11 : K.lookup f11 = some ⟨oc11, od11, .func (PySem.W.fnOf "_law_term" "_law_term" (defArgs sLTerm) (defBody sLTerm) (defScope sLTerm) .none kV11 dc11 pm11 an11 cd11 ct11), sl11⟩) (c11 : PySem.W.codeIn K cd11 "_law_term" = true) (k11 : PySem.W.keepIn K (.ref f11) = true)
    (a12 : PySem.W.nsIn K mainGlobals "_law_items" = some (some (.ref f12))) (l12 : K.lookup f12 = some ⟨oc12, od12, .func (PySem.W.fnOf "_law_items" "_law_items" (defArgs sLItems) (defBody sLItems) (defScope sLItems) .none kV12 dc12 pm12 an12 cd12 ct12), sl12⟩) (c12 : PySem.W.codeIn K cd12 "_law_items" = true) (k12 : PySem.W.keepIn K (.ref f12) = true)
    (a13 : PySem.W.nsIn K mainGlobals "_law_program" = some (some (.ref f13))) (l13 : K.lookup f13 = some ⟨oc13, od13, .func (PySem.W.fnOf "_law_program" "_law_program" (defArgs sLProgram) (defBody sLProgram) (defScope sLProgram) .none kV13 dc13 pm13 an13 cd13 ct13), sl13⟩) (c13 : PySem.W.codeIn K cd13 "_law_program" = true) (k13 : PySem.W.keepIn K (.ref f13) = true)
    (a14 : PySem.W.nsIn K mainGlobals "_law_count" = some (some (.ref f14))) (l14 : K.lookup f14 = some ⟨oc14, od14, .func (PySem.W.fnOf "_law_count" "_law_count" (defArgs sLCount) (defBody sLCount) (defScope sLCount) .none kV14 dc14 pm14 an14 cd14 ct14), sl14⟩) (c14 : PySem.W.codeIn K cd14 "_law_count" = true) (k14 : PySem.W.keepIn K (.ref f14) = true)
    (a15 : PySem.W.nsIn K mainGlobals "_law_longs" = some (some (.ref f15))) (l15 : K.lookup f15 = some ⟨oc15, od15, .func (PySem.W.fnOf "_law_longs" "_law_longs" (defArgs sLLongs) (defBody sLLongs) (defScope sLLongs) .none kV15 dc15 pm15 an15 cd15 ct15), sl15⟩) (c15 : PySem.W.codeIn K cd15 "_law_longs" = true) (k15 : PySem.W.keepIn K (.ref f15) = true)
    (a16 : PySem.W.nsIn K mainGlobals "_law_led" = some (some (.ref f16))) (l16 : K.lookup f16 = some ⟨oc16, od16, .func (PySem.W.fnOf "_law_led" "_law_led" (defArgs sLLed) (defBody sLLed) (defScope sLLed) .none kV16 dc16 pm16 an16 cd16 ct16), sl16⟩) (c16 : PySem.W.codeIn K cd16 "_law_led" = true) (k16 : PySem.W.keepIn K (.ref f16) = true)
    (a17 : PySem.W.nsIn K mainGlobals "_law_told" = some (some (.ref f17))) (l17 : K.lookup f17 = some ⟨oc17, od17, .func (PySem.W.fnOf "_law_told" "_law_told" (defArgs sLTold) (defBody sLTold) (defScope sLTold) .none kV17 dc17 pm17 an17 cd17 ct17), sl17⟩) (c17 : PySem.W.codeIn K cd17 "_law_told" = true) (k17 : PySem.W.keepIn K (.ref f17) = true)
    (a18 : PySem.W.nsIn K mainGlobals "_law_few" = some (some (.ref f18))) (l18 : K.lookup f18 = some ⟨oc18, od18, .func (PySem.W.fnOf "_law_few" "_law_few" (defArgs sLFew) (defBody sLFew) (defScope sLFew) .none kV18 dc18 pm18 an18 cd18 ct18), sl18⟩) (c18 : PySem.W.codeIn K cd18 "_law_few" = true) (k18 : PySem.W.keepIn K (.ref f18) = true)
    (a19 : PySem.W.nsIn K mainGlobals "_law_is_run" = some (some (.ref f19))) (l19 : K.lookup f19 = some ⟨oc19, od19, .func (PySem.W.fnOf "_law_is_run" "_law_is_run" (defArgs sLIsRun) (defBody sLIsRun) (defScope sLIsRun) .none kV19 dc19 pm19 an19 cd19 ct19), sl19⟩) (c19 : PySem.W.codeIn K cd19 "_law_is_run" = true) (k19 : PySem.W.keepIn K (.ref f19) = true)
    (a20 : PySem.W.nsIn K mainGlobals "_law_often" = some (some (.ref f20))) (l20 : K.lookup f20 = some ⟨oc20, od20, .func (PySem.W.fnOf "_law_often" "_law_often" (defArgs sLOften) (defBody sLOften) (defScope sLOften) .none kV20 dc20 pm20 an20 cd20 ct20), sl20⟩) (c20 : PySem.W.codeIn K cd20 "_law_often" = true) (k20 : PySem.W.keepIn K (.ref f20) = true)
    (a21 : PySem.W.nsIn K mainGlobals "_law_is_bound" = some (some (.ref f21))) (l21 : K.lookup f21 = some ⟨oc21, od21, .func (PySem.W.fnOf "_law_is_bound" "_law_is_bound" (defArgs sLIsBound) (defBody sLIsBound) (defScope sLIsBound) .none kV21 dc21 pm21 an21 cd21 ct21), sl21⟩) (c21 : PySem.W.codeIn K cd21 "_law_is_bound" = true) (k21 : PySem.W.keepIn K (.ref f21) = true)
    (a22 : PySem.W.nsIn K mainGlobals "_law_is_idle" = some (some (.ref f22))) (l22 : K.lookup f22 = some ⟨oc22, od22, .func (PySem.W.fnOf "_law_is_idle" "_law_is_idle" (defArgs sLIsIdle) (defBody sLIsIdle) (defScope sLIsIdle) .none kV22 dc22 pm22 an22 cd22 ct22), sl22⟩) (c22 : PySem.W.codeIn K cd22 "_law_is_idle" = true) (k22 : PySem.W.keepIn K (.ref f22) = true)
    (a23 : PySem.W.nsIn K mainGlobals "_law_doubled" = some (some (.ref f23))) (l23 : K.lookup f23 = some ⟨oc23, od23, .func (PySem.W.fnOf "_law_doubled" "_law_doubled" (defArgs sLDoubled) (defBody sLDoubled) (defScope sLDoubled) .none kV23 dc23 pm23 an23 cd23 ct23), sl23⟩) (c23 : PySem.W.codeIn K cd23 "_law_doubled" = true) (k23 : PySem.W.keepIn K (.ref f23) = true)
    (a24 : PySem.W.nsIn K mainGlobals "_law_is_doubled" = some (some (.ref f24))) (l24 : K.lookup f24 = some ⟨oc24, od24, .func (PySem.W.fnOf "_law_is_doubled" "_law_is_doubled" (defArgs sLIsDoubled) (defBody sLIsDoubled) (defScope sLIsDoubled) .none kV24 dc24 pm24 an24 cd24 ct24), sl24⟩) (c24 : PySem.W.codeIn K cd24 "_law_is_doubled" = true) (k24 : PySem.W.keepIn K (.ref f24) = true)
    (a25 : PySem.W.nsIn K mainGlobals "_law_is_chained" = some (some (.ref f25))) (l25 : K.lookup f25 = some ⟨oc25, od25, .func (PySem.W.fnOf "_law_is_chained" "_law_is_chained" (defArgs sLIsChained) (defBody sLIsChained) (defScope sLIsChained) .none kV25 dc25 pm25 an25 cd25 ct25), sl25⟩) (c25 : PySem.W.codeIn K cd25 "_law_is_chained" = true) (k25 : PySem.W.keepIn K (.ref f25) = true)
    (a26 : PySem.W.nsIn K mainGlobals "law" = some (some (.ref f26))) (l26 : K.lookup f26 = some ⟨oc26, od26, .func (PySem.W.fnOf "law" "law" (defArgs sLaw) (defBody sLaw) (defScope sLaw) .none kV26 dc26 pm26 an26 cd26 ct26), sl26⟩) (c26 : PySem.W.codeIn K cd26 "law" = true) (k26 : PySem.W.keepIn K (.ref f26) = true)
    (z1 : PySem.W.nsIn K mainGlobals "len" = some none)
    (z2 : PySem.W.nsIn K mainGlobals "abs" = some none)
    (z3 : PySem.W.nsIn K mainGlobals "int" = some none)
    (z4 : PySem.W.nsIn K mainGlobals "bool" = some none)
    (z5 : PySem.W.nsIn K mainGlobals "tuple" = some none)
    (z6 : PySem.W.nsIn K mainGlobals "list" = some none)
    (z7 : PySem.W.nsIn K mainGlobals "range" = some none)
    (z8 : PySem.W.nsIn K mainGlobals "zip" = some none)
    (z9 : PySem.W.nsIn K mainGlobals "repr" = some none)
    (z10 : PySem.W.nsIn K mainGlobals "enumerate" = some none)
    (z11 : PySem.W.nsIn K mainGlobals "isinstance" = some none)
    (z12 : PySem.W.nsIn K mainGlobals "all" = some none)
    (z13 : PySem.W.nsIn K mainGlobals "sorted" = some none)
    (z14 : PySem.W.nsIn K mainGlobals "set" = some none)
    (z15 : PySem.W.nsIn K mainGlobals "sum" = some none)
    (z16 : PySem.W.nsIn K mainGlobals "min" = some none)
    (z17 : PySem.W.nsIn K mainGlobals "max" = some none)
    (z18 : PySem.W.nsIn K mainGlobals "any" = some none)
    (z19 : PySem.W.nsIn K mainGlobals "str" = some none)
    (ms : PySem.W.nsIn K mainGlobals "MAX_STEPS" = some (some (.int 5000 tS)))
    (e2 : PySem.W.nsIn K mainGlobals "RidersError" = some (some (.ref R)))
    (e3 : PySem.W.nsIn K mainGlobals "TooMany" = some (some (.ref T)))
    (y5 : PySem.W.specialIn K (.builtin "object.__class__") "__get__" = some (some (.builtin "getset_descriptor.__get__")))
    (y6 : PySem.W.takesIn K (.builtin "object.__class__") = some true)
    (tL : K.lookup T = some (excClassObj nm q T N bs bm true sn sub ab col dd m0 m1 m2 m3 m5 "ValueError.__new__"))
    (tb : PySem.HandSPX.refsVE bm = true)
    (t1 : PySem.W.findIn K (.ref T) "__setattr__" = some (some (.builtin "object.__setattr__")))
    (t2 : PySem.W.findIn K (.ref T) "__getattribute__" = some (some (.builtin "BaseException.__getattribute__")))
    (t3 : PySem.W.findIn K (.ref T) "__getattr__" = some none)
    (t4 : PySem.W.findIn K (.ref T) "limit" = some none)
    (t5 : PySem.W.findIn K (.ref T) "__init__" = some (some (.ref fI)))
    (t6 : PySem.W.typeIn K (.ref fI) = some (.type "function"))
    (t7 : K.lookup fI = some ⟨ocI, odI, .func (PySem.W.fnOf "__init__" "TooMany.__init__" (PySem.TooX.iA ⟨7, 17, 7, 21⟩ ⟨7, 23, 7, 28⟩) (PySem.TooX.iB ⟨8, 8, 8, 12⟩ ⟨8, 8, 8, 18⟩ ⟨8, 21, 8, 26⟩ ⟨8, 8, 8, 26⟩) PySem.TooX.iS .none .none dcI pmI anI cdI ctI), slI⟩)
    (t8 : PySem.W.codeIn K cdI "TooMany.__init__" = true)
    (u1 : PySem.W.keepIn K (.ref T) = true)
    (u2 : PySem.W.subIn K (.ref T) (.type "BaseException") = some true)
    (u3 : PySem.W.typeIn K (.ref T) = some (.type "type"))
    (u4 : PySem.W.hasDictIn K T = true)
    (u5 : PySem.W.subIn K (.ref T) (.ref T) = some true)
    (u6 : PySem.W.kitOne K (.ref T) (.ref R) = some true)
    (u7 : PySem.W.findIn K (.ref T) "__class__" = some (some (.builtin "object.__class__")))
    (u8 : PySem.W.mroIn K T (.type "object") = some true)
    : ∃ fd : FuncData, (∀ (s : Shared) (u : Value), BindsTo s fd ⟨[u], []⟩ [("script", u)]) ∧ ∀ base : Heap, K.In base → base.Ns mainGlobals mg → FnG l.prog w K mg base CX0 63 fa fd ["script"] (spLaw K) := by
  have e := hfa.symm.trans (PySem.W.mg_of X G a26)
  cases e
  have D1 : Df K mg "done" sDone ["standing", "deed"] := df_mk X G a1 l1 c1 k1 fun _ _ _ _ _ _ us hl => match us, hl with | [_, _], _ => rfl
  have D2 : Df K mg "program_worth" sProgramWorth ["program", "measure"] := df_mk X G a2 l2 c2 k2 fun _ _ _ _ _ _ us hl => match us, hl with | [_, _], _ => rfl
  have D3 : Df K mg "term_worth" sTermWorth ["term", "worths", "measure"] := df_mk X G a3 l3 c3 k3 fun _ _ _ _ _ _ us hl => match us, hl with | [_, _, _], _ => rfl
  have F4 := fun_mk (st := sRun) l4 c4 k4
  have b4 := F4.binds (ps := ["n", "program", "standing"]) fun _ _ _ _ _ _ us hl => match us, hl with | [_, _, _], _ => rfl
  have g4 := PySem.W.mg_of X G a4
  have n4 := kbn_of (ps := ["n", "program", "standing"]) (ks := ["standing", "program", "n"]) F4 (fun zs => zs.reverse) vals_swap fun _ _ _ _ _ _ ws hl => match ws, hl with | [_, _, _], _ => rfl
  have D5 : Df K mg "_law_deck" sDeck ["script"] := df_mk X G a5 l5 c5 k5 fun _ _ _ _ _ _ us hl => match us, hl with | [_], _ => rfl
  have D6 : Df K mg "_law_draw" sDraw ["deck", "many"] := df_mk X G a6 l6 c6 k6 fun _ _ _ _ _ _ us hl => match us, hl with | [_, _], _ => rfl
  have D7 : Df K mg "_law_pick" sPick ["deck", "items"] := df_mk X G a7 l7 c7 k7 fun _ _ _ _ _ _ us hl => match us, hl with | [_, _], _ => rfl
  have D8 : Df K mg "_law_mixed" sMixed ["deck", "items"] := df_mk X G a8 l8 c8 k8 fun _ _ _ _ _ _ us hl => match us, hl with | [_, _], _ => rfl
  have D9 : Df K mg "_law_standing" sLStanding ["deck", "many"] := df_mk X G a9 l9 c9 k9 fun _ _ _ _ _ _ us hl => match us, hl with | [_, _], _ => rfl
  have D10 : Df K mg "_law_deed" sDeed ["deck", "many"] := df_mk X G a10 l10 c10 k10 fun _ _ _ _ _ _ us hl => match us, hl with | [_, _], _ => rfl
  have D11 : Df K mg "_law_term" sLTerm ["deck", "many", "spot", "deep", "times"] := df_mk X G a11 l11 c11 k11 fun _ _ _ _ _ _ us hl => match us, hl with | [_, _, _, _, _], _ => rfl
  have D12 : Df K mg "_law_items" sLItems ["thing"] := df_mk X G a12 l12 c12 k12 fun _ _ _ _ _ _ us hl => match us, hl with | [_], _ => rfl
  have D13 : Df K mg "_law_program" sLProgram ["deck", "many", "most", "deep", "times"] := df_mk X G a13 l13 c13 k13 fun _ _ _ _ _ _ us hl => match us, hl with | [_, _, _, _, _], _ => rfl
  have D14 : Df K mg "_law_count" sLCount ["longs", "term"] := df_mk X G a14 l14 c14 k14 fun _ _ _ _ _ _ us hl => match us, hl with | [_, _], _ => rfl
  have D15 : Df K mg "_law_longs" sLLongs ["program"] := df_mk X G a15 l15 c15 k15 fun _ _ _ _ _ _ us hl => match us, hl with | [_], _ => rfl
  have D16 : Df K mg "_law_led" sLLed ["program", "longs", "term", "standing", "is_back"] := df_mk X G a16 l16 c16 k16 fun _ _ _ _ _ _ us hl => match us, hl with | [_, _, _, _, _], _ => rfl
  have D17 : Df K mg "_law_told" sLTold ["many", "program", "standing", "is_named"] := df_mk X G a17 l17 c17 k17 fun _ _ _ _ _ _ us hl => match us, hl with | [_, _, _, _], _ => rfl
  have D18 : Df K mg "_law_few" sLFew ["deck", "many"] := df_mk X G a18 l18 c18 k18 fun _ _ _ _ _ _ us hl => match us, hl with | [_, _], _ => rfl
  have D19 : Df K mg "_law_is_run" sLIsRun ["deck", "many", "program", "is_named"] := df_mk X G a19 l19 c19 k19 fun _ _ _ _ _ _ us hl => match us, hl with | [_, _, _, _], _ => rfl
  have D20 : Df K mg "_law_often" sLOften ["deck", "deed", "times"] := df_mk X G a20 l20 c20 k20 fun _ _ _ _ _ _ us hl => match us, hl with | [_, _, _], _ => rfl
  have D21 : Df K mg "_law_is_bound" sLIsBound ["deck"] := df_mk X G a21 l21 c21 k21 fun _ _ _ _ _ _ us hl => match us, hl with | [_], _ => rfl
  have D22 : Df K mg "_law_is_idle" sLIsIdle ["deck"] := df_mk X G a22 l22 c22 k22 fun _ _ _ _ _ _ us hl => match us, hl with | [_], _ => rfl
  have D23 : Df K mg "_law_doubled" sLDoubled ["deck", "many"] := df_mk X G a23 l23 c23 k23 fun _ _ _ _ _ _ us hl => match us, hl with | [_, _], _ => rfl
  have D24 : Df K mg "_law_is_doubled" sLIsDoubled ["deck"] := df_mk X G a24 l24 c24 k24 fun _ _ _ _ _ _ us hl => match us, hl with | [_], _ => rfl
  have D25 : Df K mg "_law_is_chained" sLIsChained ["deck"] := df_mk X G a25 l25 c25 k25 fun _ _ _ _ _ _ us hl => match us, hl with | [_], _ => rfl
  have B : Bi mg := ⟨PySem.W.mg_none_of X G z1, PySem.W.mg_none_of X G z2, PySem.W.mg_none_of X G z3, PySem.W.mg_none_of X G z4, PySem.W.mg_none_of X G z5, PySem.W.mg_none_of X G z6, PySem.W.mg_none_of X G z7, PySem.W.mg_none_of X G z8, PySem.W.mg_none_of X G z9, PySem.W.mg_none_of X G z10, PySem.W.mg_none_of X G z11, PySem.W.mg_none_of X G z12, PySem.W.mg_none_of X G z13, PySem.W.mg_none_of X G z14, PySem.W.mg_none_of X G z15, PySem.W.mg_none_of X G z16, PySem.W.mg_none_of X G z17, PySem.W.mg_none_of X G z18, PySem.W.mg_none_of X G z19⟩
  have CL1 : Cls K C1 := ⟨cb1, cc1, cd_1, ce1⟩
  have MP1 : MkP K C1 := ⟨cf1, ch1, cg1⟩
  have GC1 := PySem.W.mg_of X G ca1
  have MF1_1 := fun_mk (st := sSmDeed) ml1_1 mc1_1 mk1_1
  have MB1_1 := MF1_1.binds (ps := ["self", "deed"]) (fun _ _ _ _ _ _ us hl => match us, hl with | [_, _], _ => rfl)
  have MM1_1 : Meth K C1 "of_deed" mf1_1 := ⟨ma1_1, mi1_1, mk1_1⟩
  have MF1_2 := fun_mk (st := sSmRow) ml1_2 mc1_2 mk1_2
  have MB1_2 := MF1_2.binds (ps := ["self", "worths"]) (fun _ _ _ _ _ _ us hl => match us, hl with | [_, _], _ => rfl)
  have MM1_2 : Meth K C1 "of_row" mf1_2 := ⟨ma1_2, mi1_2, mk1_2⟩
  have MF1_3 := fun_mk (st := sSmBack) ml1_3 mc1_3 mk1_3
  have MB1_3 := MF1_3.binds (ps := ["self", "worth"]) (fun _ _ _ _ _ _ us hl => match us, hl with | [_, _], _ => rfl)
  have MM1_3 : Meth K C1 "of_back" mf1_3 := ⟨ma1_3, mi1_3, mk1_3⟩
  have MF1_4 := fun_mk (st := sSmTimes) ml1_4 mc1_4 mk1_4
  have MB1_4 := MF1_4.binds (ps := ["self", "worth", "k"]) (fun _ _ _ _ _ _ us hl => match us, hl with | [_, _, _], _ => rfl)
  have MM1_4 : Meth K C1 "of_times" mf1_4 := ⟨ma1_4, mi1_4, mk1_4⟩
  have TD : PySem.W.DCls K T := ⟨t2, t3, u2, u4, u7, y5, y6, u8⟩
  have TT : PySem.TooX.TooTxt K mg T fI :=
    { gC := PySem.W.mg_of X G e3, cls := ⟨nm, q, N, bs, bm, sn, sub, ab, col, dd, m0, m1, m2, m3, m5, tL, tb⟩, sa := t1, ga := t2, gg := t3, noN := t4, iC := t5, tC := t6, kC := u1, exC := u2, tyC := u3, hdC := u4, te := PySem.W.exm_ref u2 u4 u3 u5,
      fn := ⟨_, _, _, _, _, _, _, _, _, _, _, _, _, _, t7, t8⟩ }
  have gR := PySem.W.mg_of X G e2
  refine ⟨PySem.W.fnOf "law" "law" (defArgs sLaw) (defBody sLaw) (defScope sLaw) .none kV26 dc26 pm26 an26 cd26 ct26, fun s v => .of_eq rfl, fun base _ _ => ?_⟩
  have hS : ∃ t, mg "MAX_STEPS" = some (.int 5000 t) := ⟨_, PySem.W.mg_of X G ms⟩
  have SM : ∀ m, MeaT l.prog w K mg base (stepR m) C1 1 _ _ _ _ _ _ _ _ _ _ _ _ := fun m => ⟨CL1, MM1_1, MM1_2, MM1_3, MM1_4, f_smDeed MF1_1, f_smRow MF1_2 B hS, f_smBack MF1_3, f_smTimes MF1_4 B hS, MB1_1, MB1_2, MB1_3, MB1_4⟩
  have pwS : ∀ m, Ok l.prog w K mg base (16 + 2) "program_worth" ["program", "measure"] (spPW (stepR m) C1 16) := fun m => o_progWorth D2 B (o_termWorth D3 B (SM m) 16)
  have odo : Ok l.prog w K mg base 1 "done" ["standing", "deed"] spDone := D1.ok fun _ _ F => f_done F B
  have GR := f_run F4 B MP1 GC1 TT hS odo pwS
  have dk := o_deck (P := l.prog) (w := w) (base := base) D5 B
  have dr := o_draw (P := l.prog) (w := w) (base := base) D6 B
  have dw := o_drawW (P := l.prog) (w := w) (base := base) D6 B
  have pk := o_pick D7 B dr
  have mx := o_mixed D8 B dr
  have sd := o_standing D9 B dr pk
  have dd := o_deed7 D10 B dr mx pk
  have tm := o_lTerm7 D11 B dr dd pk 5
  have it := o_lItems (P := l.prog) (w := w) (base := base) D12 B 12
  have pr := o_lProg7 D13 B dr tm it
  have lc := o_lCount (P := l.prog) (w := w) (base := base) D14 B
  have lo5 := o_lLongs D15 B (lc 5)
  have lo4 := o_lLongs D15 B (lc 4)
  have le5 := o_lLed D16 B 5 lc 40
  have le4 := o_lLed D16 B 4 lc 56
  have to := o_lTold (n := 16) D17 B TT TD gR u6 ⟨_, _, GR, F4.kp, g4, b4, n4⟩
  have fe := o_lFew D18 B dr dd pr lo5
  have ru := o_lIsRun D19 B dr lo5 sd le5 to
  have of := o_lOften D20 B dr dw
  have id := o_lIdle D22 B dr dd sd pk to
  have db := o_lDbl D23 B dr dd pk
  have ib := o_lIsDbl D24 B dr db sd lo4 le4 to
  have ch := o_lIsChain D25 B dr dd sd pk le4 to
  have bo := o_lIsBound D21 B dr dd sd pk of le4 to
  exact ok_law (fun_mk (st := sLaw) l26 c26 k26) B dk dr ch fe ru sd to id ib bo
end Kr
open PySem PySem.W PyProof.Rows
set_option maxHeartbeats 0 in
theorem PySem.Challenge.cw_keyriders_k08_whole_runs_deed_by_deed_holds : PySem.Challenge.rw_keyriders_k08_whole_runs_deed_by_deed.Holds := by
  w_on; o_law; k_head; (case hw => w_witness2)
  k_fill
  refine Kr.walkG (l := PySem.Challenge.rw_keyriders_k08_whole_runs_deed_by_deed) (n := 63) (k := 63) (x := "script") (sp := Kr.spLaw) rfl (by decide) rfl ⟨rfl, by decide, by decide⟩ (fun w h Y => PySem.W.kIn_of Y) ?F (fun _ _ a ns hl _ hS => ⟨a, ns, rfl, hS, hl, fun _ => rfl⟩)
  case F =>
    intro w mg fa h KX G hmg
    refine' Kr.all_mk KX G hmg ?ca1 ?cb1 ?cc1 ?cd_1 ?ce1 ?cf1 ?cg1 ?ch1 ?ma1_1 ?mi1_1 ?ml1_1 ?mc1_1 ?mk1_1 ?ma1_2 ?mi1_2 ?ml1_2 ?mc1_2 ?mk1_2 ?ma1_3 ?mi1_3 ?ml1_3 ?mc1_3 ?mk1_3 ?ma1_4 ?mi1_4 ?ml1_4 ?mc1_4 ?mk1_4 ?a1 ?l1 ?c1 ?k1 ?a2 ?l2 ?c2 ?k2 ?a3 ?l3 ?c3 ?k3 ?a4 ?l4 ?c4 ?k4 ?a5 ?l5 ?c5 ?k5 ?a6 ?l6 ?c6 ?k6 ?a7 ?l7 ?c7 ?k7 ?a8 ?l8 ?c8 ?k8 ?a9 ?l9 ?c9 ?k9 ?a10 ?l10 ?c10 ?k10 ?a11 ?l11 ?c11 ?k11 ?a12 ?l12 ?c12 ?k12 ?a13 ?l13 ?c13 ?k13 ?a14 ?l14 ?c14 ?k14 ?a15 ?l15 ?c15 ?k15 ?a16 ?l16 ?c16 ?k16 ?a17 ?l17 ?c17 ?k17 ?a18 ?l18 ?c18 ?k18 ?a19 ?l19 ?c19 ?k19 ?a20 ?l20 ?c20 ?k20 ?a21 ?l21 ?c21 ?k21 ?a22 ?l22 ?c22 ?k22 ?a23 ?l23 ?c23 ?k23 ?a24 ?l24 ?c24 ?k24 ?a25 ?l25 ?c25 ?k25 ?a26 ?l26 ?c26 ?k26 ?z1 ?z2 ?z3 ?z4 ?z5 ?z6 ?z7 ?z8 ?z9 ?z10 ?z11 ?z12 ?z13 ?z14 ?z15 ?z16 ?z17 ?z18 ?z19 ?ms ?e2 ?e3 ?y5 ?y6 ?tL ?tb ?t1 ?t2 ?t3 ?t4 ?t5 ?t6 ?t7 ?t8 ?u1 ?u2 ?u3 ?u4 ?u5 ?u6 ?u7 ?u8
    (case ca1 => k_is); (case cb1 => k_is); (case cc1 => k_is); (case cd_1 => k_is); (case ce1 => k_is); (case cf1 => k_is); (case cg1 => k_is); (case ch1 => k_is); (case ma1_1 => k_is); (case mi1_1 => k_is); (case ml1_1 => k_is); (case mc1_1 => k_is); (case mk1_1 => k_is); (case ma1_2 => k_is); (case mi1_2 => k_is); (case ml1_2 => k_is); (case mc1_2 => k_is); (case mk1_2 => k_is); (case ma1_3 => k_is); (case mi1_3 => k_is); (case ml1_3 => k_is); (case mc1_3 => k_is); (case mk1_3 => k_is); (case ma1_4 => k_is); (case mi1_4 => k_is); (case ml1_4 => k_is); (case mc1_4 => k_is); (case mk1_4 => k_is); (case a1 => k_is); (case l1 => k_is); (case c1 => k_is); (case k1 => k_is); (case a2 => k_is); (case l2 => k_is); (case c2 => k_is); (case k2 => k_is); (case a3 => k_is); (case l3 => k_is); (case c3 => k_is); (case k3 => k_is); (case a4 => k_is); (case l4 => k_is); (case c4 => k_is); (case k4 => k_is); (case a5 => k_is); (case l5 => k_is); (case c5 => k_is); (case k5 => k_is); (case a6 => k_is); (case l6 => k_is); (case c6 => k_is); (case k6 => k_is); (case a7 => k_is); (case l7 => k_is); (case c7 => k_is); (case k7 => k_is); (case a8 => k_is); (case l8 => k_is); (case c8 => k_is); (case k8 => k_is); (case a9 => k_is); (case l9 => k_is); (case c9 => k_is); (case k9 => k_is); (case a10 => k_is); (case l10 => k_is); (case c10 => k_is); (case k10 => k_is); (case a11 => k_is); (case l11 => k_is); (case c11 => k_is); (case k11 => k_is); (case a12 => k_is); (case l12 => k_is); (case c12 => k_is); (case k12 => k_is); (case a13 => k_is); (case l13 => k_is); (case c13 => k_is); (case k13 => k_is); (case a14 => k_is); (case l14 => k_is); (case c14 => k_is); (case k14 => k_is); (case a15 => k_is); (case l15 => k_is); (case c15 => k_is); (case k15 => k_is); (case a16 => k_is); (case l16 => k_is); (case c16 => k_is); (case k16 => k_is); (case a17 => k_is); (case l17 => k_is); (case c17 => k_is); (case k17 => k_is); (case a18 => k_is); (case l18 => k_is); (case c18 => k_is); (case k18 => k_is); (case a19 => k_is); (case l19 => k_is); (case c19 => k_is); (case k19 => k_is); (case a20 => k_is); (case l20 => k_is); (case c20 => k_is); (case k20 => k_is); (case a21 => k_is); (case l21 => k_is); (case c21 => k_is); (case k21 => k_is); (case a22 => k_is); (case l22 => k_is); (case c22 => k_is); (case k22 => k_is); (case a23 => k_is); (case l23 => k_is); (case c23 => k_is); (case k23 => k_is); (case a24 => k_is); (case l24 => k_is); (case c24 => k_is); (case k24 => k_is); (case a25 => k_is); (case l25 => k_is); (case c25 => k_is); (case k25 => k_is); (case a26 => k_is); (case l26 => k_is); (case c26 => k_is); (case k26 => k_is); (case z1 => k_is); (case z2 => k_is); (case z3 => k_is); (case z4 => k_is); (case z5 => k_is); (case z6 => k_is); (case z7 => k_is); (case z8 => k_is); (case z9 => k_is); (case z10 => k_is); (case z11 => k_is); (case z12 => k_is); (case z13 => k_is); (case z14 => k_is); (case z15 => k_is); (case z16 => k_is); (case z17 => k_is); (case z18 => k_is); (case z19 => k_is); (case ms => k_is); (case e2 => k_is); (case e3 => k_is); (case y5 => k_is); (case y6 => k_is); (case tL => k_is); (case tb => rfl); (case t1 => k_is); (case t2 => k_is); (case t3 => k_is); (case t4 => k_is); (case t5 => k_is); (case t6 => k_is); (case t7 => k_is); (case t8 => k_is); (case u1 => k_is); (case u2 => k_is); (case u3 => k_is); (case u4 => k_is); (case u5 => k_is); (case u6 => kit_is); (case u7 => k_is); (case u8 => k_is)
