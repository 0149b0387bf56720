import PyProof.Rows.All
import Wide.All
import OpenK.AllK
import Wide.FinOn
import HandS.ForMost
import PyProof.ReprReads
import PyProof.ReprRoads
import HandS.Codes
import HandS.ForExc
import HandS.ExcInit
import HandS.ExcField
import HandS.ExcIs
import KE.KExcIs
import HandS.IsInst
import HandS.WrittenGet
import HandS.Star
import HandS.Conv
import HandS.More
import HandS.Property
import HandS.OwnEq
import HandS.ClsMeth
import HandS.TupAny
import HandS.DictComp
import HandS.DeepEq
import HandS.Strs
import HandS.ExcValue
import KE.KUnpackStar
import HandS.TupMul
import HandS.TryMany
import HandS.Walk
import HandS.Zip
import HandS.Iter
import HandS.Style
import HandS.ExcCtx
import HandS.HotCalls
import HandS.ExcInitHot
import HandS.SuiteRaise
import HandS.RaiseFrom
import HandS.RaiseMore
import PySem.Challenge.RW_answersby_k88_bodies_written
set_option Elab.async false
set_option linter.all false
set_option maxRecDepth 100000
set_option maxHeartbeats 8000000
/-! repr of data; defs that are called where no container is being shown -/
namespace Gk
open PySem L2 PySem.Spec PyProof.Rows

/-! ### a def's promise, kept where no list, tuple or dict is being shown -/
structure FnG (P : Program) (w : World) (K : PySem.W.Frag) (mg : Str → Option Value) (base : Heap) (CX : CXT) (k : Nat) (f : Addr) (fd : FuncData) (ps : List Str) (sp : Sp) : Prop where
  len : ∀ vs H Q E, sp vs H Q E → vs.length = ps.length
  go : ∀ (A : Around), A.guards = some [] → ∀ (outer : List Env) (s : Shared) (H : Hp) (args : Args) (us : List Value) (vs : List V) (Q : VK) (E : XK),
    Room k A → Env0 P w K mg base A outer s H → BindsTo s fd args (ps.zip us) → Vals vs us → sp vs H Q E → codeAny (model P w) A (.call (.ref f) args) (CR CX outer P w H s Q E) s

section
variable {P : Program} {w : World} {K : PySem.W.Frag} {mg : Str → Option Value} {base : Heap} {CX : CXT} {j k : Nat} {f : Addr} {fd : FuncData} {ps : List Str} {sp : Sp}
theorem FnG.up (F : FnG P w K mg base CX j f fd ps sp) (h : j ≤ k) : FnG P w K mg base CX k f fd ps sp :=
  ⟨F.len, fun A g outer s H args us vs Q E hr => F.go A g outer s H args us vs Q E (hr.mono h)⟩
end

section
variable {X : Cx} {CX : CXT} {k : Nat} {f : Addr} {fd : FuncData} {ps : List Str} {sp : Sp} {dvs : List V} {ds : List Value} {E : XK} {x : Str} {p pos : Pos} {e : Expr} {es : List Expr} {t : TA}
theorem runG {pins : List (Addr × Obj)} {σ : L2.St} {H : Hp} {s : Shared} {Q : VK} {us : List Value} {vs : List V} (F : FnG X.prog X.w X.K X.mg X.base CX k f fd ps sp) (g : X.A.guards = some [])
    (hr : Room k X.A) (hb : Binds X.K fd ps ds) (hd : Vals dvs ds) (hx : Passes CX X E) (I : Inv X pins σ H s) (r : Vals vs us) (h : sp (vs ++ dvs) H Q E) :
    wpAny (model X.prog X.w) X.A (call (.ref f) us) (EP X pins σ Q) X.xe s := by
  have rr := r.append hd
  have lens : (us ++ ds).length = ps.length := (rr.length).symm.trans (F.len _ _ _ _ h)
  have body := F.go X.A g X.stack s H ⟨us, []⟩ (us ++ ds) (vs ++ dvs) Q E hr I.env0 (hb s us I.kIn lens) rr h
  refine wpAny_call (codeAny_mono body ?_)
  intro res s' hres
  match res, hres with
  | .error e, z => exact hx pins σ H s e s' I z
  | .ok (.ret u), z => exact I.after z
  | .ok .next, z => exact z.elim
  | .ok .brk, z => exact z.elim
  | .ok .cont, z => exact z.elim
theorem pe_callG (F : FnG X.prog X.w X.K X.mg X.base CX k f fd ps sp) (g : X.A.guards = some []) (hr : Room k X.A) (hg : Gl X x) (hm : X.mg x = some (.ref f))
    (hk : PySem.W.keepIn X.K (.ref f) = true) (hb : Binds X.K fd ps ds) (hd : Vals dvs ds) (hx : Passes CX X E) (ha : PA X (e :: es) t)
    (hdb : (x == ("__debug__" : Str)) = false := by decide)
    (he : starEach (e :: es) X.env = (false, eval e X.env) :: starEach es X.env := by rfl)
    (hpl : (backTo pos (starEach es X.env)).any (·.1) = false := by rfl) :
    PE X (.Call (.Name x p) (e :: es) [] pos) (tCall sp dvs E t) := by
  refine ⟨fun pins s σ H Q I h => wpAny_Call_Name_kw (ld_glob I hg hm ?_ hdb)⟩
  have args := ha.run pos pins s σ H _ I h
  refine PySem.W.callWith_K (h₀ := X.base) I.ok.mod.kin hk (thn args ?_) he hpl
  rintro us s1 ⟨vs, H1, I1, r, q⟩
  exact ⟨I1.kIn, runG F g hr hb hd hx I1 r q⟩
end

/-! ### a def of the text, and the law's own call -/
section
variable {CX : CXT} {P : Program} {w : World} {K : PySem.W.Frag} {mg : Str → Option Value} {base : Heap}
theorem defG {k : Nat} {f : Addr} {x qual : Str} {st : Stmt} {fd : FuncData} {N ps : List Str} {sp : Sp}
    (F : Fun K x qual st f fd) (S : FnScope N ps (defScope st)) (len : ∀ vs H Q E, sp vs H Q E → vs.length = ps.length)
    (inner : ∀ (cd : Value) (A : Around), A.guards = some [] → ∀ (outer : List Env) (s : Shared) (H : Hp) (vs : List V) (Q : VK) (E : XK),
      Room k (A.deeper (envOfC qual (defScope st) s.heap.objs.size f cd)) → sp vs H Q E →
      ∃ t, PSs (cxOf CX P w K mg base N qual (defScope st) f cd A outer s H E) (defBody st) t ∧ t { nx := fun _ H' => Q .non H', rt := Q } (start N vs) H) :
    FnG P w K mg base CX (k + 1) f fd ps sp := by
  obtain ⟨oc, od, kV, doc, pm, an, cd, ct, osl, rfl, lk, hcd⟩ := F.ex
  refine ⟨len, ?_⟩
  intro A g outer s H args us vs Q E hr e0 hb r hsp
  have kept : ∀ b o, base.get? b = some o → s.heap.get? b = some o := fun b o z => (e0.bs b o z).1
  have KX : K.In s.heap := e0.mod.kin.keeps kept
  have lim : s.heap.NoLimit := e0.mod.nolimit.keeps kept
  have slots : ∀ y ∈ ps.zip us, (defScope st).names.lookup y.1 = some .local ∨
      ((defScope st).names.lookup y.1 = some .cell ∧ ((cellsFrom (s.heap.objs.size + 1) (defScope st).names []).lookup y.1).isSome = true) := by
    rintro ⟨n, v⟩ hy
    have hp := S.par n (List.of_mem_zip hy).1
    exact hp.imp id fun q => ⟨q, PySem.W.cellsFrom_some _ _ _ (.inl q)⟩
  refine codeAny_call_function hr.depth (KX _ _ lk) rfl S.co S.gen rfl (PySem.W.codeRec_of KX hcd) (hb _ _ _ _ ?_)
  refine wpAny_newFunctionEnv_cells S.kind slots ?_
  rintro env rfl s1 x
  refine ⟨lim.keeps x.toInCall.keep, codeAny_func ?_⟩
  obtain ⟨t, ht, hq⟩ := inner cd A g outer s H vs Q E (hr.deeper _) hsp
  have I := inv_start (CX := CX) (mg := mg) (E := E) S hr.hd e0 (len _ _ _ _ hsp) r x
  refine wpAny_mono (ht.run [] s1 (start N vs) H _ I hq) ?_ fun _ _ z => z
  intro fl s' hs
  match fl, hs with
  | .ret u, ⟨v, σ', H', J, rv, q⟩ => exact ⟨v, H', J.os, J.bare, J.base, J.hok, rv, q⟩
  | .next, ⟨σ', H', J, q⟩ => exact ⟨V.non, H', J.os, J.bare, J.base, J.hok, rfl, q⟩
  | .brk, ⟨_, _, _, q⟩ => exact q.elim
  | .cont, ⟨_, _, _, q⟩ => exact q.elim
/-- no exception leaves the def -/
theorem defG0 {k : Nat} {f : Addr} {x qual : Str} {st : Stmt} {fd : FuncData} {N ps : List Str} {sp : Sp}
    (F : Fun K x qual st f fd) (S : FnScope N ps (defScope st)) (len : ∀ vs H Q E, sp vs H Q E → vs.length = ps.length)
    (inner : ∀ (cd : Value) (A : Around), A.guards = some [] → ∀ (outer : List Env) (s : Shared) (H : Hp) (vs : List V) (Q : VK) (E : XK),
      Room k (A.deeper (envOfC qual (defScope st) s.heap.objs.size f cd)) → sp vs H Q E →
      ∃ t, PSs (cxOf CX0 P w K mg base N qual (defScope st) f cd A outer s H E).nox (defBody st) t ∧ t { nx := fun _ H' => Q .non H', rt := Q } (start N vs) H) :
    FnG P w K mg base CX0 (k + 1) f fd ps sp :=
  defG F S len fun cd A g outer s H vs Q E hr h => let ⟨t, a, b⟩ := inner cd A g outer s H vs Q E hr h; ⟨t, a.nox, b⟩
end

/-! ### repr -/
section
variable {X : Cx}
def rRepr (K : PySem.W.Frag) : List V → Hp → VK → Prop := fun xs H Q =>
  ∃ v d, xs = [v] ∧ Dp K H v d ∧ d.showable = true ∧ d.hasDict = false ∧ d.depth ≤ 60 ∧ d.shown.length ≤ sizeLine ∧ Q (.str d.shown) H
theorem call_reprD (hg : X.A.guards = some []) (hu : X.A.units + 64 < cLine) : CallR X (.builtin "repr") (rRepr X.K) := by
  intro pins s σ H xs us Q I r h
  obtain ⟨v, d, rfl, hd, h1, h2, h3, h4, q⟩ := h
  obtain ⟨u, rfl, ru⟩ := vals1 r
  obtain ⟨as, rd⟩ := Dp.reads I d v u hd ru
  have out : ∀ h' u' tk, (∀ b o, s.heap.get? b = some o → h'.get? b = some o) → EP X pins σ Q (.str d.shown u') { s with heap := h', toks := tk } :=
    fun h' u' tk hk => ⟨.str d.shown, H, I.kept hk, ⟨u', rfl⟩, q⟩
  cases rd with
  | none => exact P.repr_of_none (by simpa only [PyData.shown] using out s.heap s.toks (s.toks + 1) fun _ _ z => z)
  | bool b => exact P.repr_of_bool (by simpa only [PyData.shown] using out s.heap s.toks (s.toks + 1) fun _ _ z => z)
  | int i t => exact P.repr_of_int (by simpa [PyData.showable] using h1) (by simpa only [PyData.shown] using out s.heap _ _ fun _ _ z => z)
  | str x t => exact P.repr_of_str (by simpa only [PyData.shown] using out s.heap _ _ fun _ _ z => z) (by simpa only [PyData.shown] using h4)
  | list a1 a2 a3 a4 => exact repr_of_reads' (.list a1 a2 a3 a4) h1 (fun z => by rw [h2] at z; cases z) hg (by omega) (fun _ _ z => z) out h4
  | tuple a1 a2 a3 a4 => exact repr_of_reads' (.tuple a1 a2 a3 a4) h1 (fun z => by rw [h2] at z; cases z) hg (by omega) (fun _ _ z => z) out h4
  | dict a1 a2 a3 a4 a5 => simp [PyData.hasDict] at h2
end
end Gk
/-! the law's own call, by a promise of the kind FnG -/
namespace Gk
open PySem L2 PySem.Spec PyProof.Rows
abbrev AllTrue (s₁ : Shared) (r : Result) (s' : Shared) : Prop := r = .ok (.ret (.bool true)) ∧ OldK s₁.heap s'.heap ∧ s'.os = s₁.os ∧ AllBare s'.gens
section
variable {P : Program} {w : World} {K : PySem.W.Frag} {mg mb : Str → Option Value} {k : Nat} {fa a : Addr} {fd : FuncData} {x : Str} {sp : Sp} {s₁ : Shared} {vs : List Value} {ns : List Int}
/-- what is hidden by H stands at a alone, and that is the script's list -/
structure Hid (K : PySem.W.Frag) (s₁ : Shared) (a : Addr) (vs : List Value) (H : Hp) : Prop where
  only : Only H
  at_a : ∀ b, H b ≠ none → b = a
  new : H a ≠ none → K.lookup a = none
  scr : s₁.heap.get? a = some { cls := .type "list", data := .seq vs.toArray }
theorem Hid.free {H : Hp} (h : Hid K s₁ a vs H) {b : Addr} {o : Obj} (e : s₁.heap.get? b = some o) (hd : ∀ z n, o.data ≠ .seq z n) : H b = none := by
  cases q : H b with
  | none => rfl
  | some u =>
    obtain rfl : b = a := h.at_a b (by simp [q])
    rw [h.scr] at e
    cases e
    exact absurd rfl (hd _ _)
theorem Hid.nsp {H : Hp} (h : Hid K s₁ a vs H) {b : Addr} {m : Str → Option Value} : s₁.heap.Ns b m → (hidT s₁.heap H).Ns b m := by
  rintro ⟨o, es, ep, e, d, r⟩
  exact ⟨o, es, ep, hidT_get e (h.free e fun z n q => by rw [d] at q; cases q), d, r⟩
theorem Hid.kin {H : Hp} (h : Hid K s₁ a vs H) (KX : K.In s₁.heap) : K.In (hidT s₁.heap H) := by
  intro b o e
  refine hidT_get (KX b o e) ?_
  cases q : H b with
  | none => rfl
  | some u =>
    obtain rfl : b = a := h.at_a b (by simp [q])
    rw [h.new (by simp [q])] at e
    cases e
theorem run_law {H : Hp} (h : Hid K s₁ a vs H) (KX : K.In s₁.heap) (hns : s₁.heap.Ns mainGlobals mg) (hb : s₁.heap.Ns builtinsNs mb) (hbb : ∀ x : Str, x ≠ "__name__" → mb x = bootBuiltins x) (hlim : s₁.heap.NoLimit)
    (hg : s₁.gens = #[]) (hr : Room k callerA) (F : ∀ base : Heap, K.In base → base.Ns mainGlobals mg → FnG P w K mg base CX0 k fa fd [x] sp)
    (hbind : ∀ (s : Shared) (u : Value), BindsTo s fd ⟨[u], []⟩ [(x, u)]) (hok : HOk P w H s₁.heap) (hsp : sp [.ref a] H (fun v _ => v = .bl true) fun _ _ _ => False) :
    codeAny (model P w) callerA (.call (.ref fa) ⟨[.ref a], []⟩) (AllTrue s₁) s₁ := by
  obtain ⟨mc, l1, l2⟩ := hlim
  have md : Mod K mg (hidT s₁.heap H) := ⟨h.kin KX, h.nsp hns, ⟨mb, h.nsp hb, hbb⟩, ⟨mc, h.nsp l1, l2⟩⟩
  have ev : Env0 P w K mg (hidT s₁.heap H) callerA [] s₁ H :=
    ⟨rfl, md, fun b o e => of_hidT e, Nat.le_of_eq (hidT_size _ _), trivial, fun b hb => (List.not_mem_nil hb).elim, hok, .of_eq hg⟩
  have go := (F _ (h.kin KX) (h.nsp hns)).go callerA rfl [] s₁ H ⟨[.ref a], []⟩ [.ref a] [.ref a] _ _ hr ev (hbind s₁ (.ref a)) (.cons rfl .nil) hsp
  refine codeAny_mono go ?_
  intro res s' hres
  match res, hres with
  | .error e, z => exact z.elim
  | .ok .next, z => exact z.elim
  | .ok .brk, z => exact z.elim
  | .ok .cont, z => exact z.elim
  | .ok (.ret u), ⟨v, H', os, bare, un, hok', rv, q⟩ =>
    obtain rfl : v = .bl true := q
    obtain rfl : u = Value.bool true := rv
    refine ⟨rfl, OldK.of_keep ?_, os, bare⟩
    intro b o e
    rcases h.only b with z | ⟨ob, xs, z⟩
    · exact un.keep b o e z (fun m => (List.not_mem_nil m).elim) (fun m => (List.not_mem_nil m).elim)
    · obtain ⟨e1, _⟩ := hok b _ z
      obtain ⟨e2, _⟩ := hok' b _ (un.frzs b ob _ z)
      rw [e] at e1
      cases e1
      exact e2
theorem law_callG (KX : K.In s₁.heap) (hns : s₁.heap.Ns mainGlobals mg) (hb : s₁.heap.Ns builtinsNs mb) (hbb : ∀ x : Str, x ≠ "__name__" → mb x = bootBuiltins x) (hlim : s₁.heap.NoLimit) (hg : s₁.gens = #[])
    (scr : s₁.heap.get? a = some { cls := .type "list", data := .seq vs.toArray }) (hi : IntsAre vs ns) (hl : ns.length ≤ sizeLine) (hr : Room k callerA)
    (F : ∀ base : Heap, K.In base → base.Ns mainGlobals mg → FnG P w K mg base CX0 k fa fd [x] sp) (hbind : ∀ (s : Shared) (u : Value), BindsTo s fd ⟨[u], []⟩ [(x, u)])
    (hsp : ∀ H : Hp, Only H → SqL K H a (ns.map V.int) → sp [.ref a] H (fun v _ => v = .bl true) fun _ _ _ => False) :
    codeAny (model P w) callerA (.call (.ref fa) ⟨[.ref a], []⟩) (AllTrue s₁) s₁ := by
  have rv := vals_ints hi
  cases hk : K.lookup a with
  | some o =>
    have e := KX a o hk
    rw [scr] at e
    cases e
    have on : Only (fun _ => none) := fun _ => .inl rfl
    refine run_law (H := fun _ => none) ⟨on, fun b z => absurd rfl z, fun z => absurd rfl z, scr⟩ KX hns hb hbb hlim hg hr F hbind (fun b u z => nomatch z) (hsp _ on ?_)
    exact .inr ⟨_, vs.toArray, _, hk, rfl, rfl, rfl, by rw [List.size_toArray, hi.length]; exact hl, by simpa using rv⟩
  | none =>
    let L : HO := .frz { cls := .type "list", data := .seq vs.toArray } (.lst (ns.map V.int))
    have la : (fun b => if b = a then some L else none : Hp) a = some L := if_pos rfl
    have on : Only (fun b => if b = a then some L else none) := by
      intro b
      by_cases hb : b = a
      · exact .inr ⟨_, _, if_pos hb⟩
      · exact .inl (if_neg hb)
    refine run_law ⟨on, fun b z => ?_, fun _ => hk, scr⟩ KX hns hb hbb hlim hg hr F hbind (fun b u z => ?_) (hsp _ on (.inl (.inr ⟨_, la⟩)))
    · by_cases hb : b = a
      · exact hb
      · exact absurd (if_neg hb) z
    · by_cases hb : b = a
      · subst hb
        have z' := la.symm.trans z
        cases z'
        exact ⟨scr, by rw [List.length_map]; exact hl, vs, _, rv, scr⟩
      · have z' := (if_neg hb).symm.trans z
        cases z'
end
theorem walkG {l : PySem.W.OpenLaw} {n k : Nat} {q : Program} {loose : List Str} {XP : (Str → Option Value) → Heap → Prop} {YP : World → Heap → Prop} {d : DefRec} {K : Params → PySem.W.Frag} {sp : World → Sp} {x : Str}
    (hn : l.most = some n) (hn2 : n ≤ sizeLine) (hdf : d.params.defaults = []) (hr : Room k callerA) (hY : ∀ (w : World) (h : Heap), YP w h → (K w.params).In h)
    (F : ∀ (w : World) (mg : Str → Option Value) (fa : Addr) (h : Heap), (K w.params).In h → h.Ns mainGlobals mg → mg d.name = some (.ref fa) →
      ∃ fd : FuncData, (∀ (s : Shared) (u : Value), BindsTo s fd ⟨[u], []⟩ [(x, u)]) ∧
        ∀ base : Heap, (K w.params).In base → base.Ns mainGlobals mg → FnG l.prog w (K w.params) mg base CX0 k fa fd [x] (sp w))
    (hsp : ∀ (w : World) (H : Hp) (a : Addr) (ns : List Int), ns.length ≤ n → Only H → SqL (K w.params) H a (ns.map V.int) → sp w [.ref a] H (fun v _ => v = .bl true) fun _ _ _ => False) :
    PySem.W.WalkO q loose XP YP l.row.toRowW d [] (fun f vs => PySem.call f vs) := by
  refine Att.attach_call hn hdf ?_
  intro w s₀ s₁ mg mb fa o pm cd doc a vs ns G Y ho hd hcd hmg hobj hints hlen hg
  obtain ⟨fd, hb, hF⟩ := F w mg fa _ (hY w _ Y) G.T.g hmg
  exact law_callG (hY w _ Y) G.T.g G.T.b G.T.builtins G.T.nolimit hg hobj hints (Nat.le_trans hlen hn2) hr hF hb fun H hO hS => hsp w H a ns hlen hO hS
end Gk
namespace Gk
open PySem L2 PySem.Spec PyProof.Rows
/-- a def of the module's top, by its name, with its promise -/
def CalG (P : Program) (w : World) (K : PySem.W.Frag) (mg : Str → Option Value) (base : Heap) (k : Nat) (x : Str) (sp : Sp) : Prop :=
  ∃ (f : Addr) (fd : FuncData) (ps : List Str), FnG P w K mg base CX0 k f fd ps sp ∧ mg x = some (.ref f) ∧ PySem.W.keepIn K (.ref f) = true ∧ Binds K fd ps []
/-- a def as the top has left it -/
def DefAt (K : PySem.W.Frag) (mg : Str → Option Value) (x : Str) (st : Stmt) (ps : List Str) : Prop :=
  ∃ (f : Addr) (fd : FuncData), mg x = some (.ref f) ∧ Fun K x x st f fd ∧ Binds K fd ps []
theorem defAt {K : PySem.W.Frag} {h : Heap} {mg : Str → Option Value} {x : Str} {st : Stmt} {ps : List Str} {f : Addr} {oc : Value} {od an : Option Addr} {osl : Array (Option Value)} {kV doc pm cdv ct : Value} (X : K.In h) (G : h.Ns mainGlobals mg)
    (hb : ∀ (kV doc pm : Value) (an : Option Addr) (cdv ct : Value) (us : List Value), us.length = ps.length → bindArgs (PySem.W.fnOf x x (defArgs st) (defBody st) (defScope st) .none kV doc pm an cdv ct) ⟨us, []⟩ = pure (ps.zip us))
    (a : PySem.W.nsIn K mainGlobals x = some (some (.ref f)))
    (l : K.lookup f = some ⟨oc, od, .func (PySem.W.fnOf x x (defArgs st) (defBody st) (defScope st) .none kV doc pm an cdv ct), osl⟩)
    (c : PySem.W.codeIn K cdv x = true) (k : PySem.W.keepIn K (.ref f) = true) : DefAt K mg x st ps :=
  ⟨f, _, PySem.W.mg_of X G a, fun_mk l c k, (fun_mk (st := st) l c k).binds hb⟩
section
variable {P : Program} {w : World} {K : PySem.W.Frag} {mg : Str → Option Value} {base : Heap}
/-- a def by its body -/
theorem DefAt.by {x : Str} {st : Stmt} {ps N : List Str} {k : Nat} {sp : Sp} (D : DefAt K mg x st ps) (S : FnScope N ps (defScope st)) (len : ∀ vs H Q E, sp vs H Q E → vs.length = ps.length)
    (inner : ∀ (f : Addr) (cd : Value) (A : Around), A.guards = some [] → ∀ (outer : List Env) (s : Shared) (H : Hp) (vs : List V) (Q : VK) (E : XK),
      Room k (A.deeper (envOfC x (defScope st) s.heap.objs.size f cd)) → sp vs H Q E →
      ∃ t, PSs (cxOf CX0 P w K mg base N x (defScope st) f cd A outer s H E).nox (defBody st) t ∧ t { nx := fun _ H' => Q .non H', rt := Q } (start N vs) H) :
    CalG P w K mg base (k + 1) x sp := by
  obtain ⟨f, fd, hm, F, hb⟩ := D
  exact ⟨f, fd, ps, defG0 F S len (inner f), hm, F.kp, hb⟩
end
section
variable {X : Cx} {k j : Nat} {sp : Sp} {x : Str} {p pos : Pos} {e : Expr} {es : List Expr} {t : TA}
theorem pe_cG (c : CalG X.prog X.w X.K X.mg X.base k x sp) (g : X.A.guards = some []) (hr : Room j X.A) (hk : k ≤ j) (ha : PA X (e :: es) t) (hg : Gl X x := by rfl)
    (hdb : (x == ("__debug__" : Str)) = false := by decide) (he : starEach (e :: es) X.env = (false, eval e X.env) :: starEach es X.env := by rfl)
    (hpl : (backTo pos (starEach es X.env)).any (·.1) = false := by rfl) : PE X (.Call (.Name x p) (e :: es) [] pos) (tCall sp [] E0 t) := by
  obtain ⟨f, fd, ps, F, hm, hkp, hb⟩ := c
  exact pe_callG F g (hr.mono hk) hg hm hkp hb .nil pass0 ha hdb he hpl
end
end Gk
/-! readings, one construct a lemma: what a term of the layer asks, from the value -/
namespace Rd
open PySem L2 PySem.Spec PyProof.Rows Gk
section
variable {K : PySem.W.Frag} {σ : L2.St} {H : Hp} {Q : VK} {QA : List V → Hp → Prop} {QB : Bool → Hp → Prop} {QH : Hp → Prop} {D : Ends} {i j : Int} {n : Nat} {v x y : V} {ta tb te : TE} {tt tu : TT} {t u : TS} {as ar : TA} {p q : Addr} {xs ys : List V} {z s : Str} {b c : Bool}
theorem var (h : σ[n]? = some (some v)) (k : Q v H) : tVar n σ H Q := ⟨v, h, k⟩
theorem cst (k : Q v H) : tC v σ H Q := k
theorem op {r : R2} (k : ta σ H fun x H1 => tb σ H1 fun y H2 => r x y H2 Q) : tOp r ta tb σ H Q := k
theorem un {r : V → Hp → VK → Prop} (k : ta σ H fun x H1 => r x H1 Q) : tUn r ta σ H Q := k
theorem i0 {g : Int → Int → V} (k : Q (g i j) H) : rI0 g (.int i) (.int j) H Q := ⟨i, j, rfl, rfl, k⟩
theorem ic {C : Int → Int → Prop} {g : Int → Int → V} (h : C i j) (k : Q (g i j) H) : rI C g (.int i) (.int j) H Q := ⟨i, j, rfl, rfl, h, k⟩
theorem u1 {g : Int → V} (k : Q (g i) H) : rU g (.int i) H Q := ⟨i, rfl, k⟩
theorem eq (h : scal x y = true) (k : Q (.bl (decide (x = y))) H) : rEq x y H Q := ⟨h, k⟩
theorem ne (h : scal x y = true) (k : Q (.bl (!decide (x = y))) H) : rNe x y H Q := ⟨h, k⟩
theorem ixL (h : SqL K H p xs) (a : atI xs i = some v) (k : Q v H) : rIxL K (.ref p) (.int i) H Q := ⟨p, xs, i, v, rfl, rfl, h, a, k⟩
theorem ixT (h : SqT K H p xs) (a : atI xs i = some v) (k : Q v H) : rIxT K (.ref p) (.int i) H Q := ⟨p, xs, i, v, rfl, rfl, h, a, k⟩
theorem ixS {m : Nat} (h : z.length ≤ sizeLine) (a : atI z.cps.toList i = some m) (k : Q (.str ⟨#[m]⟩) H) : rIxS (.str z) (.int i) H Q := ⟨z, i, m, rfl, rfl, h, a, k⟩
theorem setL {m : Nat} (h : H p = some (.lst xs)) (a : ixN xs.length i = some m) (k : QH (upd H p (.lst (xs.set m v)))) : rSetL (.ref p) (.int i) v H QH := ⟨p, xs, i, m, rfl, rfl, h, a, k⟩
theorem inL {neg : Bool} (h : SqL K H p xs) (hx : flatV x = true) (ha : xs.all flatV = true) (k : Q (.bl (if neg then !inV x xs else inV x xs)) H) : rIn K neg x (.ref p) H Q := ⟨p, xs, rfl, .inl h, hx, ha, k⟩
theorem slL {lo hi : Option Int} (h : SqL K H p xs) (k : ∀ q, H q = none → Q (.ref q) (upd H q (.lst (cutV xs lo hi)))) : rSlL K (.ref p) lo hi H Q := ⟨p, xs, rfl, h, k⟩
theorem slS {lo hi : Option Int} (h : z.length ≤ sizeLine) (k : Q (.str (cutS z lo hi)) H) : rSlS (.str z) lo hi H Q := ⟨z, rfl, h, k⟩
theorem cat (h : H p = some (.lst xs)) (h' : H q = some (.lst ys)) (l : xs.length + ys.length ≤ sizeLine) (k : ∀ r, H r = none → Q (.ref r) (upd H r (.lst (xs ++ ys)))) : rCat (.ref p) (.ref q) H Q := ⟨p, q, xs, ys, rfl, rfl, h, h', l, k⟩
theorem sl {r : V → Option Int → Option Int → Hp → VK → Prop} {tl th : TO} (k : te σ H fun x H1 => tl σ H1 fun l H2 => th σ H2 fun u H3 => r x l u H3 Q) : tSl r te tl th σ H Q := k
theorem noPart {QO : Option Int → Hp → Prop} (k : QO none H) : tNoPart σ H QO := k
theorem part {QO : Option Int → Hp → Prop} (k : te σ H fun x H1 => ∃ i, x = .int i ∧ QO (some i) H1) : tPart te σ H QO := k
theorem int_ {R : Int → Prop} (k : R i) : ∃ i', V.int i = .int i' ∧ R i' := ⟨i, rfl, k⟩
theorem bl_ {R : Bool → Prop} (k : R b) : ∃ c, V.bl b = .bl c ∧ R c := ⟨b, rfl, k⟩
theorem nil (k : QA [] H) : tNil σ H QA := k
theorem cons (k : te σ H fun x H1 => ar σ H1 fun xs H2 => QA (x :: xs) H2) : tCons te ar σ H QA := k
theorem cb {r : List V → Hp → VK → Prop} (k : as σ H fun vs H1 => r vs H1 Q) : tCB r as σ H Q := k
theorem call {sp : Sp} {dvs : List V} {E : XK} (k : as σ H fun vs H1 => sp (vs ++ dvs) H1 Q E) : tCall sp dvs E as σ H Q := k
theorem lst (k : as σ H fun xs H1 => xs.length ≤ sizeLine ∧ ∀ p, H1 p = none → Q (.ref p) (upd H1 p (.lst xs))) : tLst as σ H Q := k
theorem tup (k : as σ H fun xs H1 => xs.length ≤ sizeLine ∧ ∀ p, H1 p = none → Q (.ref p) (upd H1 p (.tup xs))) : tTup as σ H Q := k
theorem test (k : te σ H fun x H' => ∃ k, x = .bl k ∧ QB k H') : tTest te σ H QB := k
theorem tb_ (k : te σ H fun x H' => ∃ k, x = .bl k ∧ QB k H') : tB te σ H QB := k
theorem not_ (k : tt σ H fun c H1 => QB (!c) H1) : tNot tt σ H QB := k
theorem or_ (k : tt σ H fun c H1 => if c = true then QB true H1 else tu σ H1 QB) : tOr tt tu σ H QB := k
theorem and_ (k : tt σ H fun c H1 => if c = true then tu σ H1 QB else QB false H1) : tAnd tt tu σ H QB := k
theorem orV (k : ta σ H fun x H1 => ∃ c, x = .bl c ∧ if c = true then Q (.bl true) H1 else tb σ H1 Q) : tOrV ta tb σ H Q := k
theorem andV (k : ta σ H fun x H1 => ∃ c, x = .bl c ∧ if c = true then tb σ H1 Q else Q (.bl false) H1) : tAndV ta tb σ H Q := k
theorem notV (k : ta σ H fun x H1 => ∃ c, x = .bl c ∧ Q (.bl (!c)) H1) : tNotV ta σ H Q := k
theorem tif (k : tt σ H fun c H1 => if c = true then ta σ H1 Q else tb σ H1 Q) : tIf tt ta tb σ H Q := k
theorem yes (k : QB true H) : tYes σ H QB := k
theorem next (k : D.nx σ H) : tNext D σ H := k
theorem seq (k : t { D with nx := u D } σ H) : tSeq t u D σ H := k
theorem drop (k : te σ H fun _ H1 => D.nx σ H1) : tDrop te D σ H := k
theorem ret (k : te σ H D.rt) : tRet te D σ H := k
theorem retN (k : D.rt .non H) : tRetN D σ H := k
theorem ifs (k : tt σ H fun b H1 => if b = true then t D σ H1 else u D σ H1) : tIfS tt t u D σ H := k
theorem asg {g : TG} (k : te σ H fun x H1 => g x σ H1 D.nx) : tAsg te g D σ H := k
theorem gname {QS : L2.St → Hp → Prop} (k : QS (σ.set n (some v)) H) : gName n v σ H QS := k
theorem gsub {QS : L2.St → Hp → Prop} {st : V → V → V → Hp → (Hp → Prop) → Prop} (k : ta σ H fun o H1 => tb σ H1 fun i H2 => st o i v H2 fun H3 => QS σ H3) : gSub ta tb st v σ H QS := k
theorem par {m l : Nat} (k : as σ H fun vs H1 => ∃ v w, vs = [v, w] ∧ D.nx ((σ.set m (some v)).set l (some w)) H1) : tPar m l as D σ H := k
theorem bm {T : String} {r : V → List V → Hp → VK → Prop} (k : te σ H fun x H1 => tyV K T x H1 ∧ as σ H1 fun xs H2 => r x xs H2 Q) : tBM K T r te as σ H Q := k
theorem bm0 {T : String} {r : V → List V → Hp → VK → Prop} (k : te σ H fun x H1 => tyV K T x H1 ∧ r x [] H1 Q) : tBM0 K T r te σ H Q := k
theorem app (h : H p = some (.lst xs)) (l : xs.length < sizeLine) (k : Q .non (upd H p (.lst (xs ++ [v])))) : rAppend (.ref p) [v] H Q := ⟨p, xs, v, rfl, rfl, h, l, k⟩
theorem ty_list (h : H p = some (.lst xs)) : tyV K "list" (.ref p) H := .inl ⟨rfl, xs, SqL.of h⟩
theorem int1 {R : Int → Prop} {R2 : Bool → Prop} (k : R i) : (∃ j, [V.int i] = [.int j] ∧ R j) ∨ ∃ k, [V.int i] = [.bl k] ∧ R2 k := .inl ⟨i, rfl, k⟩
theorem intB {R : Int → Prop} {R2 : Bool → Prop} (k : R2 b) : (∃ j, [V.bl b] = [.int j] ∧ R j) ∨ ∃ k, [V.bl b] = [.bl k] ∧ R2 k := .inr ⟨b, rfl, k⟩
theorem two {R : Int → Int → Prop} (k : R i j) : ∃ i' j', [V.int i, .int j] = [.int i', .int j'] ∧ R i' j' := ⟨i, j, rfl, k⟩
theorem one {R : Int → Prop} (k : R i) : ∃ i', [V.int i] = [.int i'] ∧ R i' := ⟨i, rfl, k⟩
theorem lenL {R : List V → Prop} (h : SqL K H p xs) (k : R xs) : ∃ p' ys, [V.ref p] = [.ref p'] ∧ (SqL K H p' ys ∨ SqT K H p' ys) ∧ R ys := ⟨p, xs, rfl, .inl h, k⟩
theorem lenS {R : Str → Prop} (h : z.length ≤ sizeLine) (k : R z) : ∃ z', [V.str z] = [.str z'] ∧ z'.length ≤ sizeLine ∧ R z' := ⟨z, rfl, h, k⟩
theorem andr {R : Prop} (k : R) : x = x ∧ R := ⟨rfl, k⟩
theorem str_ {R : Str → Prop} (k : R z) : ∃ c, V.str z = .str c ∧ R c := ⟨z, rfl, k⟩
theorem dec {c A B : Prop} [Decidable c] (h1 : c → A) (h2 : ¬ c → B) : if decide c = true then A else B := by
  by_cases h : c
  · rw [decide_eq_true h]; exact h1 h
  · rw [decide_eq_false h, if_neg Bool.false_ne_true]; exact h2 h
theorem ndec {c A B : Prop} [Decidable c] (h1 : ¬ c → A) (h2 : c → B) : if (!decide c) = true then A else B := by
  by_cases h : c
  · rw [decide_eq_true h]; exact h2 h
  · rw [decide_eq_false h]; exact h1 h
theorem tt_ {A B : Prop} (h : A) : if true = true then A else B := h
theorem ff_ {A B : Prop} (h : B) : if false = true then A else B := iteF h
theorem bool {b : Bool} {A B : Prop} (h1 : b = true → A) (h2 : b = false → B) : if b = true then A else B := by
  cases b with
  | true => exact h1 rfl
  | false => rw [if_neg Bool.false_ne_true]; exact h2 rfl
theorem fm {i m : Int} (m0 : 0 < m) : 0 ≤ i.fmod m ∧ i.fmod m < m := by
  rw [Int.fmod_eq_emod_of_nonneg i (Int.le_of_lt m0)]
  exact ⟨Int.emod_nonneg i (by omega), Int.emod_lt_of_pos i m0⟩
theorem atN {α : Type} {xs : List α} {i : Int} {v : α} (h0 : 0 ≤ i) (h : xs[i.toNat]? = some v) : atI xs i = some v := by
  have e : ((i.toNat : Nat) : Int) = i := Int.toNat_of_nonneg h0
  rw [← e]
  exact atI_nat h
theorem at0 {α : Type} {xs : List α} {v : α} : atI (v :: xs) 0 = some v := atN (Int.le_refl 0) rfl
theorem at_int {ns : List Int} {i : Int} (h0 : 0 ≤ i) (h : i < ((ns.map V.int).length : Int)) : ∃ c, atI (ns.map V.int) i = some (.int c) := by
  rw [List.length_map] at h
  have hk : i.toNat < ns.length := by omega
  exact ⟨ns[i.toNat], atN h0 (by simp [hk])⟩
theorem sz {n : Nat} (h : n ≤ 100000) : n ≤ sizeLine := Nat.le_trans h (by decide)
theorem szl {n : Nat} (h : n < 100000) : n < sizeLine := Nat.lt_of_lt_of_le h (by decide)
end
section
variable {X : Cx}
def rLenK (K : PySem.W.Frag) : List V → Hp → VK → Prop := fun xs H Q => ∃ p ys, xs = [.ref p] ∧ (SqL K H p ys ∨ SqT K H p ys) ∧ Q (.int ys.length) H
theorem callLen : CallR X (.builtin "len") (rLenK X.K) := call_len_seq
def rListK (K : PySem.W.Frag) : List V → Hp → VK → Prop := fun xs H Q => ∃ p ys, xs = [.ref p] ∧ (SqL K H p ys ∨ SqT K H p ys) ∧ ∀ l, H l = none → Q (.ref l) (upd H l (.lst ys))
theorem callList : CallR X (.type "list") (rListK X.K) := call_list_of
def tTru (K : PySem.W.Frag) (ta : TE) : TT := fun σ H Q => ta σ H fun x H' => ∃ k, TruV K x H' k ∧ Q k H'
theorem ptTru {K : PySem.W.Frag} {e : Expr} {ta : TE} (h : X.K = K) (p : PT X e fun σ H Q => ta σ H fun x H' => ∃ k, TruV X.K x H' k ∧ Q k H') : PT X e (tTru K ta) := by
  subst h
  exact p
variable {K : PySem.W.Frag} {σ : L2.St} {H : Hp} {Q : VK} {QB : Bool → Hp → Prop} {p : Addr} {xs : List V} {ta : TE}
theorem lenK (h : SqL K H p xs) (k : Q (.int xs.length) H) : rLenK K [.ref p] H Q := ⟨p, xs, rfl, .inl h, k⟩
theorem lenT (h : SqT K H p xs) (k : Q (.int xs.length) H) : rLenK K [.ref p] H Q := ⟨p, xs, rfl, .inr h, k⟩
theorem listK (h : SqL K H p xs) (k : ∀ l, H l = none → Q (.ref l) (upd H l (.lst xs))) : rListK K [.ref p] H Q := ⟨p, xs, rfl, .inl h, k⟩
theorem tru (k : ta σ H fun x H' => ∃ k, TruV K x H' k ∧ QB k H') : tTru K ta σ H QB := k
theorem truL {R : Bool → Prop} (h : SqL K H p xs) (k : R (!xs.isEmpty)) : ∃ k, TruV K (.ref p) H k ∧ R k := ⟨_, .inl ⟨xs, h, rfl⟩, k⟩
theorem any_ {bs : List Bool} (h : SqL K H p (bs.map V.bl)) (k : Q (.bl (bs.any id)) H) : rAny K [.ref p] H Q := ⟨p, bs, rfl, h, k⟩
theorem all_ {bs : List Bool} (h : SqL K H p (bs.map V.bl)) (k : Q (.bl (bs.all id)) H) : rAll K [.ref p] H Q := ⟨p, bs, rfl, h, k⟩
theorem repr_ {v : V} {d : PyData} (h : Dp K H v d) (h1 : d.showable = true) (h2 : d.hasDict = false) (h3 : d.depth ≤ 60) (h4 : d.shown.length ≤ sizeLine) (k : Q (.str d.shown) H) : rRepr K [v] H Q := ⟨v, d, rfl, h, h1, h2, h3, h4, k⟩
theorem eqD {x y : V} {d e : PyData} (hd : Dp K H x d) (he : Dp K H y e) (h1 : SeqAt.shaped d = true) (h2 : SeqAt.shaped e = true) (k : Q (.bl (PyData.eqv d e)) H) : rEqD K x y H Q := ⟨d, e, hd, he, h1, h2, k⟩
theorem neD {x y : V} {d e : PyData} (hd : Dp K H x d) (he : Dp K H y e) (h1 : SeqAt.shaped d = true) (h2 : SeqAt.shaped e = true) (k : Q (.bl (!PyData.eqv d e)) H) : rNeD K x y H Q := ⟨d, e, hd, he, h1, h2, k⟩
end
end Rd
set_option Elab.async false
set_option linter.all false
set_option maxRecDepth 100000
set_option maxHeartbeats 8000000
open PySem L2 Gk
local macro_rules | `(tactic| walk_at "look") => `(tactic| first
  | assumption
  | exact upd_same
  | exact SqL.of (by assumption)
  | exact SqL.of upd_same)
local macro_rules | `(tactic| walk_at "cond") => `(tactic| first | decide | (show _ ∨ _; right; split <;> decide) | (show _ ∧ _; constructor <;> omega) | (show _ ∨ _; left; constructor <;> omega) | (show _ ∨ _; right; constructor <;> omega) | (show _ ≠ _; omega) | (show _ < _; omega))
local macro_rules | `(tactic| walk_at "rd") => `(tactic| (with_reducible first
  | refine Rd.var rfl ?_ | refine Rd.cst ?_ | refine Rd.op ?_ | refine Rd.un ?_ | refine Rd.i0 ?_ | refine Rd.u1 ?_ | refine Rd.cons ?_ | refine Rd.nil ?_
  | refine Rd.seq ?_ | refine Rd.ifs ?_ | refine Rd.asg ?_ | refine Rd.gname ?_ | refine Rd.gsub ?_ | refine Rd.ret ?_ | refine Rd.retN ?_ | refine Rd.drop ?_ | refine Rd.next ?_
  | refine Rd.test ?_ | refine Rd.tb_ ?_ | refine Rd.not_ ?_ | refine Rd.or_ ?_ | refine Rd.and_ ?_ | refine Rd.orV ?_ | refine Rd.andV ?_ | refine Rd.notV ?_ | refine Rd.tif ?_ | refine Rd.yes ?_
  | refine Rd.cb ?_ | refine Rd.call ?_ | refine Rd.sl ?_ | refine Rd.noPart ?_ | refine Rd.part ?_ | refine Rd.int_ ?_ | refine Rd.bl_ ?_
  | refine Rd.eq rfl ?_ | refine Rd.ne rfl ?_ | refine Rd.lst ?_ | refine Rd.tup ?_ | refine Rd.par ?_ | refine Rd.bm ?_ | refine Rd.bm0 ?_
  | refine Rd.int1 ?_ | refine Rd.intB ?_ | refine Rd.two ?_ | refine Rd.one ?_ | refine Rd.andr ?_ | refine Rd.str_ ?_
  | (refine Rd.ic ?k1 ?_; (case k1 => with_unfolding_all walk_at "cond"))
  | (refine' Rd.ixL ?k1 ?k2 ?_; (case k1 => with_unfolding_all walk_at "look"); (case k2 => with_unfolding_all (first | rfl | exact Rd.at0)))
  | (refine' Rd.setL ?k1 ?k2 ?_; (case k1 => with_unfolding_all walk_at "look"); (case k2 => with_unfolding_all rfl))
  | (refine' Rd.lenL ?k1 ?_; (case k1 => with_unfolding_all walk_at "look"))
  | (refine' Rd.lenK ?k1 ?_; (case k1 => with_unfolding_all walk_at "look"))
  | refine Rd.tru ?_ | (refine' Rd.truL ?k1 ?_; (case k1 => with_unfolding_all walk_at "look"))))
namespace Rd
open PySem.Spec PyProof.Rows
section
variable {K : PySem.W.Frag} {σ : L2.St} {H H' : Hp} {α β : Type}
theorem sNew {p : Addr} {o : HO} (hp : H p = none) : Same H (upd H p o) := fun b u e => by
  rw [upd_ne (ne_of_none e hp)]
  exact e
theorem sMut {p : Addr} {o : HO} (h : Same H H') (hp : H p = none) : Same H (upd H' p o) := fun b u e => by
  rw [upd_ne (ne_of_none e hp)]
  exact h b u e
theorem pair_get {F : α → β → Prop} : ∀ {as : List α} {bs : List β} {i : Nat} {b : β}, Paired F as bs → bs[i]? = some b → ∃ a, as[i]? = some a ∧ F a b
  | _, _, i, b, .nil, h => by simp at h
  | a :: as, c :: bs, 0, b, .cons h hs, e => by
    obtain rfl : c = b := by simpa using e
    exact ⟨a, rfl, h⟩
  | a :: as, c :: bs, i + 1, b, .cons h hs, e => by
    have := pair_get hs (i := i) (b := b) (by simpa using e)
    simpa using this
theorem pair_len {F : α → β → Prop} : ∀ {as : List α} {bs : List β}, Paired F as bs → as.length = bs.length
  | _, _, .nil => rfl
  | _, _, .cons _ t => by simp [pair_len t]
theorem pair_imp {F G : α → β → Prop} (f : ∀ a b, F a b → G a b) : ∀ {as : List α} {bs : List β}, Paired F as bs → Paired G as bs
  | _, _, .nil => .nil
  | _, _, .cons h t => .cons (f _ _ h) (pair_imp f t)
theorem pair_map {f : α → V} : ∀ {as : List α} {ys : List V}, Paired (fun a y => y = f a) as ys → ys = as.map f
  | _, _, .nil => rfl
  | _, _, .cons h t => by rw [h, pair_map t]; rfl
/-- a relation of what is meant to a value in a heap that stays true as the heap grows -/
def Stays (B : β → V → Hp → Prop) : Prop := ∀ b x H H', Same H H' → B b x H → B b x H'
theorem take_succ {xs : List α} {i : Nat} {x : α} (h : xs[i]? = some x) : xs.take (i + 1) = xs.take i ++ [x] := by
  rw [List.take_succ, h]
  rfl
theorem sUpd {D : Addr} {o : HO} (s : Same H H') : Same (upd H D o) (upd H' D o) := fun b u e => by
  by_cases hb : b = D
  · subst hb; rw [upd_same] at e ⊢; exact e
  · rw [upd_ne hb] at e ⊢; exact s b u e
theorem upd_id {D : Addr} {o : HO} (h : H D = some o) : upd H D o = H := by
  funext b
  by_cases hb : b = D
  · subst hb; rw [upd_same, h]
  · rw [upd_ne hb]
/-- what holds of y in the heap behind, whatever the list in the making (which the heap ahead, H, does not know, and H1 does) holds -/
def Off (H H1 H2 : Hp) (B : V → Hp → Prop) (y : V) : Prop := ∀ D o, H D = none → H1 D ≠ none → B y (L2.upd H2 D o)
theorem off_old {H1 H2 : Hp} {B : V → Hp → Prop} {y : V} (hB : ∀ x H H', Same H H' → B x H → B x H') (s : Same H H2) (h : B y H) : Off H H1 H2 B y :=
  fun D o hD _ => hB _ _ _ (sMut s hD) h
theorem off_any {H1 H2 : Hp} {B : V → Prop} {y : V} (h : B y) : Off H H1 H2 (fun y _ => B y) y := fun D o hD _ => h
/-- a comprehension over a list of things -/
theorem lcL {tl te : TE} {tt : TT} {vs : List Nat} {j : Nat} {Q : VK} {a : Addr} {xs : List V} {bs : List α} (A : α → V → Hp → Prop) (B : β → V → Hp → Prop) (f : α → Bool) (g : α → β)
    (htl : ∀ R : V → Hp → Prop, R (.ref a) H → tl σ H R) (hl : SqL K H a xs) (hA : Stays A) (hB : Stays B) (pr : Paired (fun b x => A b x H) bs xs) (hz : xs.length ≤ 10000)
    (hw : ∀ x, wipe ((wipe σ vs).set j (some x)) vs = wipe σ vs)
    (turn : ∀ b x H1 (R : Bool → Hp → Prop), b ∈ bs → A b x H → A b x H1 → Same H H1 → (∀ H2, Same H1 H2 → R (f b) H2) → tt ((wipe σ vs).set j (some x)) H1 R)
    (elem : ∀ b x H1 (R : VK), b ∈ bs → f b = true → A b x H → A b x H1 → Same H H1 → (∀ y H2, Same H1 H2 → Off H H1 H2 (B (g b)) y → R y H2) → te ((wipe σ vs).set j (some x)) H1 R)
    (fin : ∀ D ys H1, H D = none → Same H H1 → H1 D = some (.lst ys) → Paired (fun c y => B c y H1) ((bs.filter f).map g) ys → Q (.ref D) H1) :
    tLc (iList K tl) (gName j) tt te vs σ H Q := by
  have hlen := pair_len pr
  refine htl _ ⟨a, rfl, ⟨xs, hl⟩, fun D hD => ?_⟩
  refine lc_list (K := K) (a := a) (xs := xs) (fun i H1 => ∃ ys, H1 D = some (.lst ys) ∧ ys.length ≤ i ∧ Same H H1 ∧ ∀ o, Paired (fun c y => B c y (upd H1 D o)) (((bs.take i).filter f).map g) ys) ?_ ?_ ?_ ?_
  · exact ⟨[], upd_same, Nat.le_refl _, sNew hD, fun _ => .nil⟩
  · rintro i H1 hi ⟨ys, _, _, s, _⟩
    exact s.seq hl
  · rintro i x H1 hx ⟨ys, hd, hy, s, pq⟩
    have hi : i < xs.length := (List.getElem?_eq_some_iff.mp hx).1
    obtain ⟨b, hb, hab⟩ := pair_get pr hx
    have mem : b ∈ bs := List.mem_of_getElem? hb
    have tk : bs.take (i + 1) = bs.take i ++ [b] := take_succ hb
    show wipe ((wipe σ vs).set j (some x)) vs = wipe σ vs ∧ _
    refine ⟨hw x, turn b x H1 _ mem hab (hA _ _ _ _ s hab) s fun H2 s2 => ?_⟩
    cases hf : f b with
    | false =>
      rw [if_neg Bool.false_ne_true]
      refine ⟨ys, s2 _ _ hd, by omega, s.trans s2, fun o => ?_⟩
      rw [tk, List.filter_append, List.filter_cons_of_neg (by simp [hf]), List.filter_nil, List.append_nil]
      exact pair_imp (fun c y => hB c y _ _ (sUpd s2)) (pq o)
    | true =>
      rw [if_pos rfl]
      refine elem b x H2 _ mem hf hab (hA _ _ _ _ (s.trans s2) hab) (s.trans s2) fun y H3 s3 hy3 => ?_
      have hd3 := s3 _ _ (s2 _ _ hd)
      have s4 : Same H H3 := (s.trans s2).trans s3
      refine ⟨ys, hd3, szl (by omega), ys ++ [y], upd_same, by rw [List.length_append]; simp; omega, sMut s4 hD, fun o => ?_⟩
      rw [tk, List.filter_append, List.filter_cons_of_pos (by simp [hf]), List.filter_nil, List.map_append, upd_upd]
      exact (pair_imp (fun c z h => hB c z _ _ (sUpd (s2.trans s3)) h) (pq o)).snoc (hy3 D o hD (by rw [s2 _ _ hd]; simp))
  · rintro H1 ⟨ys, hd, hy, s, pq⟩
    refine fin D ys H1 hD s hd ?_
    have pq := pq (.lst ys)
    rw [← hlen, List.take_length, upd_id hd] at pq
    exact pq
end
end Rd
namespace Rd
open PySem.Spec PyProof.Rows
section
variable {K : PySem.W.Frag} {σ : L2.St} {H H' : Hp} {Q : VK} {D : Ends} {z : Str}
/-! ### comprehensions and loops over ranges -/
def LcGo (J : It) (g : TG) (tt : TT) (te : TE) (vs : List Nat) (σ : L2.St) (Q : VK) (H1 : Hp) : Prop := ∀ D, H1 D = none → ∃ W : Nat → Nat → Hp → Prop, (∃ m, W 0 m (upd H1 D (.lst []))) ∧ ∀ i m H, W i m H →
  (J.stop i H ∧ Q (.ref D) H) ∨ (J.go i H ∧ ∃ Nx : Hp → Prop, (∀ H', Nx H' → ∃ m', m' < m ∧ W (i + 1) m' H') ∧ ∀ x H', J.yld i H x H' → g x (wipe σ vs) H' fun σ2 H2 => wipe σ2 vs = wipe σ vs ∧ tt σ2 H2 fun b H3 =>
    if b = true then te σ2 H3 fun y H4 => ∃ acc, H4 D = some (.lst acc) ∧ acc.length < sizeLine ∧ Nx (upd H4 D (.lst (acc ++ [y]))) else Nx H3)
theorem lcR {ta : TA} {g : TG} {tt : TT} {te : TE} {vs : List Nat} (k : ta σ H fun xs H1 => ∃ j : Int, xs = [.int j] ∧ -(2 ^ 62) ≤ j ∧ j < 2 ^ 62 ∧ LcGo (Itr 0 j.toNat) g tt te vs σ Q H1) : tLc (iRng1 ta) g tt te vs σ H Q := k
theorem rng {i : Int} {R : Prop} (h0 : 0 ≤ i) (h1 : i ≤ 100000) (k : R) : -(2 ^ 62) ≤ i ∧ i < 2 ^ 62 ∧ R := ⟨by omega, by omega, k⟩
/-- no test; each turn adds one thing -/
theorem goR {n j : Nat} {te : TE} {vs : List Nat} (Pv : Addr → Nat → List V → Hp → Prop) (h0 : ∀ D, H D = none → Pv D 0 [] (upd H D (.lst []))) (hw : ∀ x, wipe ((wipe σ vs).set j (some x)) vs = wipe σ vs) (hn : n ≤ 100000)
    (turn : ∀ D i acc H1, H D = none → i < n → acc.length = i → H1 D = some (.lst acc) → Pv D i acc H1 → ∀ R : VK, (∀ y H2, H2 D = some (.lst acc) → Pv D (i + 1) (acc ++ [y]) (upd H2 D (.lst (acc ++ [y]))) → R y H2) → te ((wipe σ vs).set j (some (.int (i : Int)))) H1 R)
    (fin : ∀ D acc H1, H D = none → acc.length = n → H1 D = some (.lst acc) → Pv D n acc H1 → Q (.ref D) H1) : LcGo (Itr 0 n) (gName j) tYes te vs σ Q H := by
  intro D hD
  refine lc_range (lo := 0) (n := n) (fun i H1 => ∃ acc, acc.length = i ∧ H1 D = some (.lst acc) ∧ Pv D i acc H1) ⟨[], rfl, upd_same, h0 D hD⟩ ?_ ?_
  · rintro i H1 hi ⟨acc, ha, hd, p⟩
    have e0 : (0 : Int) + (i : Int) = (i : Int) := Int.zero_add _
    rw [e0]
    refine ⟨hw _, ?_⟩
    refine turn D i acc H1 hD hi ha hd p _ fun y H2 h1 h2 => ?_
    exact ⟨acc, h1, szl (by omega), acc ++ [y], by simp [ha], upd_same, h2⟩
  · rintro H1 ⟨acc, ha, hd, p⟩
    exact fin D acc H1 hD ha hd p
def ForGo (J : It) (g : TG) (tb : TS) (D : Ends) (σ : L2.St) (H1 : Hp) : Prop := ∃ W : Nat → Nat → L2.St → Hp → Prop, (∃ m, W 0 m σ H1) ∧ ∀ i m σ H, W i m σ H →
  (J.stop i H ∧ D.nx σ H) ∨ (J.go i H ∧ ∃ N : L2.St → Hp → Prop, (∀ σ' H', N σ' H' → ∃ m', m' < m ∧ W (i + 1) m' σ' H') ∧ ∀ x H', J.yld i H x H' → g x σ H' fun σ2 H2 => tb { D with nx := N, ct := N, bk := D.nx } σ2 H2)
theorem forR {ta : TA} {g : TG} {tb : TS} (k : ta σ H fun xs H1 => ∃ j : Int, xs = [.int j] ∧ -(2 ^ 62) ≤ j ∧ j < 2 ^ 62 ∧ ForGo (Itr 0 j.toNat) g tb D σ H1) : tFor (iRng1 ta) g tb D σ H := k
theorem forGo {n j : Nat} {tb : TS} (Pv : Nat → L2.St → Hp → Prop) (h0 : Pv 0 σ H)
    (turn : ∀ i σ1 H1, i < n → Pv i σ1 H1 → tb { D with nx := Pv (i + 1), ct := Pv (i + 1), bk := D.nx } (σ1.set j (some (.int (i : Int)))) H1) (fin : ∀ σ1 H1, Pv n σ1 H1 → D.nx σ1 H1) : ForGo (Itr 0 n) (gName j) tb D σ H :=
  for_range (lo := 0) (n := n) Pv h0 (fun i σ1 H1 hi p => by
    show tb _ (σ1.set j (some (.int (0 + (i : Int))))) H1
    rw [Int.zero_add]
    exact turn i σ1 H1 hi p) fin
theorem adds {a b : Str} {R : Str → Str → Prop} (h : a.length + b.length ≤ 100000) (k : R a b) : ∃ i j, V.str a = .str i ∧ V.str b = .str j ∧ i.length + j.length ≤ sizeLine ∧ R i j := ⟨a, b, rfl, rfl, sz h, k⟩
theorem gtup {n : Nat} {t : TGs} {a : Addr} {xs : List V} {QS : L2.St → Hp → Prop} (h : SqT K H a xs) (hl : xs.length = n) (k : t xs σ H QS) : gTup K n t (.ref a) σ H QS := ⟨a, xs, rfl, h, hl, k⟩
theorem gcons {v : V} {r : List V} {t : TG} {u : TGs} {QS : L2.St → Hp → Prop} (k : t v σ H fun σ' H' => u r σ' H' QS) : gCons t u (v :: r) σ H QS := ⟨v, r, rfl, k⟩
theorem gnil {QS : L2.St → Hp → Prop} (k : QS σ H) : gNil [] σ H QS := ⟨rfl, k⟩
theorem cut {t u : TS} (Mid : L2.St → Hp → Prop) (h1 : t { D with nx := Mid } σ H) (h2 : ∀ σ' H', Mid σ' H' → u D σ' H') : C8.tCut t u D σ H := ⟨Mid, h1, h2⟩
/-- a method of a text -/
theorem m1 {r : V → List V → Hp → VK → Prop} {to te : TE} (k : to σ H fun x H1 => (∃ a, x = .str a) ∧ te σ H1 fun y H2 => r x [y] H2 Q) : tM1 r to te σ H Q := k
theorem isStr {R : Prop} (k : R) : (∃ a, V.str z = .str a) ∧ R := ⟨⟨z, rfl⟩, k⟩
end
end Rd
namespace W6
open L2 TL
/-! ### texts with a bound -/
structure W (n : Nat) (w : Str) : Prop where
  len : w.length ≤ n
  low : ∀ c ∈ tl w, c < 1000
theorem tl_len (w : Str) : (tl w).length = w.length := by show w.cps.toList.length = w.cps.size; simp
theorem W.app {n m : Nat} {a b : Str} (ha : W n a) (hb : W m b) : W (n + m) (a ++ b) := by
  have e : tl (a ++ b) = tl a ++ tl b := by show (a.cps ++ b.cps).toList = _; simp
  refine ⟨?_, fun c hc => ?_⟩
  · rw [← tl_len, e, List.length_append, tl_len, tl_len]
    exact Nat.add_le_add ha.len hb.len
  · rw [e, List.mem_append] at hc
    exact hc.elim (ha.low c) (hb.low c)
theorem W.cut {n : Nat} {a : Str} (ha : W n a) (lo hi : Option Int) : W n (cutS a lo hi) :=
  ⟨Nat.le_trans (cutS_length a lo hi) ha.len, fun c hc => ha.low c (by
    have hc : c ∈ ((a.cps.toList.drop (HT.sIx a.length 0 lo)).take (HT.sIx a.length a.length hi - HT.sIx a.length 0 lo)) := by simpa [cutS] using hc
    exact List.mem_of_mem_drop (List.mem_of_mem_take hc))⟩
theorem joinL_nil : ∀ ps : List (List Nat), joinL [] ps = ps.flatten
  | [] => rfl
  | [p] => by simp [joinL]
  | p :: q :: r => by rw [joinL, joinL_nil (q :: r)]; simp
theorem W.join {cs : List Str} (h : ∀ c ∈ cs, W 1 c) : W cs.length (Txt.join "" cs) := by
  have e : tl (Txt.join "" cs) = (cs.map tl).flatten := by
    rw [join_eq, tl_join]
    exact joinL_nil _
  refine ⟨?_, fun c hc => ?_⟩
  · rw [← tl_len, e]
    clear e
    induction cs with
    | nil => simp
    | cons a cs ih =>
      rw [List.map_cons, List.flatten_cons, List.length_append, List.length_cons, tl_len]
      have := ih fun c hc => h c (List.mem_cons_of_mem _ hc)
      have := (h a List.mem_cons_self).len
      omega
  · rw [e, List.mem_flatten] at hc
    obtain ⟨l, hl, hc⟩ := hc
    obtain ⟨s, hs, rfl⟩ := List.mem_map.mp hl
    exact (h s hs).low c hc
theorem W.mono {n m : Nat} {a : Str} (h : W n a) (l : n ≤ m) : W m a := ⟨Nat.le_trans h.len l, h.low⟩
theorem W.sum {cs : List Str} (h : ∀ c ∈ cs, W 1 c) : (cs.map (·.length)).sum ≤ cs.length := by
  induction cs with
  | nil => exact Nat.le_refl _
  | cons a cs ih =>
    rw [List.map_cons, List.sum_cons, List.length_cons]
    have := ih fun c hc => h c (List.mem_cons_of_mem _ hc)
    have := (h a List.mem_cons_self).len
    omega
theorem W.sign {n : Nat} {z : Str} {i : Int} (h : W n z) (h0 : 0 ≤ i) (h1 : i < (z.length : Int)) : ∃ c, atI z.cps.toList i = some c ∧ W 1 ⟨#[c]⟩ := by
  have l : i.toNat < z.cps.toList.length := by
    have e : z.cps.toList.length = z.length := tl_len z
    omega
  refine ⟨z.cps.toList[i.toNat], Rd.atN h0 (List.getElem?_eq_getElem l), Nat.le_refl _, fun c hc => ?_⟩
  have e : c = z.cps.toList[i.toNat] := by simpa using hc
  rw [e]
  exact h.low _ (List.getElem_mem l)
end W6
local macro_rules | `(tactic| walk_at "look") => `(tactic| first
  | assumption
  | exact upd_same
  | exact SqL.of (by assumption)
  | exact SqL.of upd_same)
local macro_rules | `(tactic| walk_at "cond") => `(tactic| first | decide | (show _ ∨ _; right; split <;> decide) | (show _ ∧ _; constructor <;> omega) | (show _ ∨ _; left; constructor <;> omega) | (show _ ∨ _; right; constructor <;> omega) | (show _ ≠ _; omega) | (show _ < _; omega))
local macro_rules | `(tactic| walk_at "rd") => `(tactic| (with_reducible first
  | refine Rd.var rfl ?_ | refine Rd.cst ?_ | refine Rd.op ?_ | refine Rd.un ?_ | refine Rd.i0 ?_ | refine Rd.u1 ?_ | refine Rd.cons ?_ | refine Rd.nil ?_
  | refine Rd.seq ?_ | refine Rd.ifs ?_ | refine Rd.asg ?_ | refine Rd.gname ?_ | refine Rd.gsub ?_ | refine Rd.ret ?_ | refine Rd.retN ?_ | refine Rd.drop ?_ | refine Rd.next ?_
  | refine Rd.test ?_ | refine Rd.tb_ ?_ | refine Rd.not_ ?_ | refine Rd.or_ ?_ | refine Rd.and_ ?_ | refine Rd.orV ?_ | refine Rd.andV ?_ | refine Rd.notV ?_ | refine Rd.tif ?_ | refine Rd.yes ?_
  | refine Rd.cb ?_ | refine Rd.call ?_ | refine Rd.sl ?_ | refine Rd.noPart ?_ | refine Rd.part ?_ | refine Rd.int_ ?_ | refine Rd.bl_ ?_
  | refine Rd.eq rfl ?_ | refine Rd.ne rfl ?_ | refine Rd.lst ?_ | refine Rd.tup ?_ | refine Rd.par ?_ | refine Rd.bm ?_ | refine Rd.bm0 ?_ | refine Rd.m1 ?_ | refine Rd.isStr ?_ | refine Rd.lcR ?_ | refine Rd.forR ?_ | refine Rd.gcons ?_ | refine Rd.gnil ?_
  | refine Rd.int1 ?_ | refine Rd.intB ?_ | refine Rd.two ?_ | refine Rd.one ?_ | refine Rd.andr ?_ | refine Rd.str_ ?_
  | (refine Rd.ic ?k1 ?_; (case k1 => with_unfolding_all walk_at "cond"))
  | (refine' Rd.ixL ?k1 ?k2 ?_; (case k1 => with_unfolding_all walk_at "look"); (case k2 => with_unfolding_all (first | rfl | exact Rd.at0)))
  | (refine' Rd.setL ?k1 ?k2 ?_; (case k1 => with_unfolding_all walk_at "look"); (case k2 => with_unfolding_all rfl))
  | (refine' Rd.lenL ?k1 ?_; (case k1 => with_unfolding_all walk_at "look"))
  | (refine' Rd.lenK ?k1 ?_; (case k1 => with_unfolding_all walk_at "look"))
  | refine Rd.tru ?_ | (refine' Rd.truL ?k1 ?_; (case k1 => with_unfolding_all walk_at "look"))))

namespace Ex
open PySem.Spec PyProof.Rows
/-! ### an own error with one field, f: def __init__(self, f): self.f = f -/
def spInit (C : Addr) (f : Str) : Sp := fun vs H Q _ => ∃ (a : Addr) (v : V), vs = [.ref a, v] ∧ H a = some (exo a C none) ∧ ∀ dx, H dx = none → dx ≠ a → Q .non (upd (upd H dx (exd dx [(f, v)])) a (exo a C (some dx)))
structure ErrC (K : PySem.W.Frag) (mg : Str → Option Value) (x f : Str) (C : Addr) : Prop where
  t : OexC K C
  xf : XfC K C
  ic : ExcC K C
  no : PySem.W.findIn K (.ref C) f = some none
  g : mg x = some (.ref C)
  te : PySem.W.exmOne K (.ref C) (.ref C) = some true
/-- its __init__ as a def that keeps its promise -/
def InitOk (P : Program) (w : World) (K : PySem.W.Frag) (mg : Str → Option Value) (base : Heap) (f : Str) (C : Addr) : Prop :=
  ∃ (fI : Addr) (fd : FuncData), PySem.W.findIn K (.ref C) "__init__" = some (some (.ref fI)) ∧ PySem.W.typeIn K (.ref fI) = some (.type "function") ∧ FnOk P w K mg base CX0 1 fI fd ["self", f] (spInit C f) ∧ Binds K fd ["self", f] []
theorem made_heap {H : Hp} {a d : Addr} {f : Str} {v : V} {C : Addr} (ha : H a = none) (hda : d ≠ a) :
    upd (L2.del (upd (upd (upd H a (exo a C none)) d (exd d [(f, v)])) a (exo a C (some d))) a) d (.xd [(f, v)]) = upd H d (.xd [(f, v)]) := by
  funext b
  by_cases hb : b = d
  · subst hb; rw [upd_same, upd_same]
  · rw [upd_ne hb, upd_ne hb]
    by_cases hba : b = a
    · subst hba; rw [del_same, ha]
    · rw [del_ne hba, upd_ne hba, upd_ne hb, upd_ne hba]
section
variable {X : Cx} {σ : L2.St} {H : Hp}
theorem pmkE {x f : Str} {C : Addr} {k : Nat} {e : Expr} {es : List Expr} {p pos : Pos} {ta : TA} (T : ErrC X.K X.mg x f C) (M : InitOk X.prog X.w X.K X.mg X.base f C) (hr : Room k X.A) (hk : 2 ≤ k) (ha : PA X (e :: es) ta) (hg : Gl X x := by rfl)
    (hdb : (x == ("__debug__" : Str)) = false := by decide) (he : starEach (e :: es) X.env = (false, eval e X.env) :: starEach es X.env := by rfl) (hpl : (backTo pos (starEach es X.env)).any (·.1) = false := by rfl) :
    PMk X (.Call (.Name x p) (e :: es) [] pos) (tMkO C (spInit C f) [] ta) := by
  obtain ⟨fI, fd, iC, tI, F, hb⟩ := M
  exact pmk_oex T.t iC tI F (hr.mono hk) hb .nil pass0 hg T.g ha hdb he hpl
theorem mk {C : Addr} {sp : Sp} {dvs : List V} {ta : TA} {Q : XK} (k : ta σ H fun vs H1 => vs.length ≤ 1000 ∧ ∀ a, H1 a = none → sp (.ref a :: (vs ++ dvs)) (upd H1 a (exo a C none)) (fun v H2 => v = .non ∧ ∃ (d : Addr) (fs : List (Str × V)), H2 a = some (exo a C (some d)) ∧ H2 d = some (exd d fs) ∧ H1 d = none ∧ Q (.ref C) (some d) (upd (L2.del (H2) a) d (.xd fs))) (fun _ _ _ => False)) :
    tMkO C sp dvs ta σ H Q := k
theorem made {C : Addr} {f : Str} {v : V} {Q : XK} (h : ∀ d, H d = none → Q (.ref C) (some d) (upd H d (.xd [(f, v)]))) :
    [v].length ≤ 1000 ∧ ∀ a, H a = none → spInit C f (.ref a :: ([v] ++ [])) (upd H a (exo a C none)) (fun u H2 => u = .non ∧ ∃ (d : Addr) (fs : List (Str × V)), H2 a = some (exo a C (some d)) ∧ H2 d = some (exd d fs) ∧ H d = none ∧ Q (.ref C) (some d) (upd (L2.del H2 a) d (.xd fs))) (fun _ _ _ => False) := by
  refine ⟨by simp, fun a ha => ⟨a, v, rfl, upd_same, fun d hd hda => ⟨rfl, d, [(f, v)], upd_same, ?_, ?_, ?_⟩⟩⟩
  · rw [upd_ne hda, upd_same]
  · rw [upd_ne hda] at hd; exact hd
  · rw [upd_ne hda] at hd
    rw [made_heap ha hda]
    exact h d hd
end
/-! ### defs that may raise -/
def CalX (P : Program) (w : World) (K : PySem.W.Frag) (mg : Str → Option Value) (base : Heap) (k : Nat) (x : Str) (sp : Sp) : Prop :=
  ∃ (f : Addr) (fd : FuncData) (ps : List Str), FnG P w K mg base (L2.CX P w) k f fd ps sp ∧ mg x = some (.ref f) ∧ PySem.W.keepIn K (.ref f) = true ∧ Binds K fd ps []
section
variable {P : Program} {w : World} {K : PySem.W.Frag} {mg : Str → Option Value} {base : Heap}
theorem byX {x : Str} {st : Stmt} {ps N : List Str} {k : Nat} {sp : Sp} (D : DefAt K mg x st ps) (S : FnScope N ps (defScope st)) (len : ∀ vs H Q E, sp vs H Q E → vs.length = ps.length)
    (inner : ∀ (f : Addr) (cd : Value) (A : Around), A.guards = some [] → ∀ (outer : List Env) (s : Shared) (H : Hp) (vs : List V) (Q : VK) (E : XK),
      Room k (A.deeper (envOfC x (defScope st) s.heap.objs.size f cd)) → sp vs H Q E →
      ∃ t, PSs (cxOf (L2.CX P w) P w K mg base N x (defScope st) f cd A outer s H E) (defBody st) t ∧ t { nx := fun _ H' => Q .non H', rt := Q } (start N vs) H) :
    CalX P w K mg base (k + 1) x sp := by
  obtain ⟨f, fd, hm, F, hb⟩ := D
  exact ⟨f, fd, ps, defG F S len (inner f), hm, F.kp, hb⟩
end
section
variable {X : Cx} {k j : Nat} {sp : Sp} {x : Str} {p pos : Pos} {e : Expr} {es : List Expr} {t : TA}
/-- called in a def that lets the same out -/
theorem pe_x {E : XK} (c : CalX X.prog X.w X.K X.mg X.base k x sp) (g : X.A.guards = some []) (hr : Room j X.A) (hk : k ≤ j) (tk : Takes X fun cls d _ H => E cls d H) (ha : PA X (e :: es) t) (hg : Gl X x := by rfl)
    (hdb : (x == ("__debug__" : Str)) = false := by decide) (he : starEach (e :: es) X.env = (false, eval e X.env) :: starEach es X.env := by rfl)
    (hpl : (backTo pos (starEach es X.env)).any (·.1) = false := by rfl) : PE X (.Call (.Name x p) (e :: es) [] pos) (tCall sp [] E t) := by
  obtain ⟨f, fd, ps, F, hm, hkp, hb⟩ := c
  exact pe_callG F g (hr.mono hk) hg hm hkp hb .nil (passes_call tk fun _ _ _ _ h => h) ha hdb he hpl
/-- called where nothing is raised -/
theorem pe_x0 (c : CalX X.prog X.w X.K X.mg X.base k x sp) (g : X.A.guards = some []) (hr : Room j X.A) (hk : k ≤ j) (ha : PA X (e :: es) t) (hg : Gl X x := by rfl)
    (hdb : (x == ("__debug__" : Str)) = false := by decide) (he : starEach (e :: es) X.env = (false, eval e X.env) :: starEach es X.env := by rfl)
    (hpl : (backTo pos (starEach es X.env)).any (·.1) = false := by rfl) : PE X (.Call (.Name x p) (e :: es) [] pos) (tCall sp [] E0 t) := by
  obtain ⟨f, fd, ps, F, hm, hkp, hb⟩ := c
  refine pe_callG F g (hr.mono hk) hg hm hkp hb .nil (fun pins σ H s u s' I z => ?_) ha hdb he hpl
  obtain ⟨_, _, _, _, _, _, _, _, _, _, _, _, z⟩ := z
  exact z.elim
/-- called in a try -/
theorem pe_xS {W : WX} (c : CalX X.prog X.w X.K X.mg X.base k x sp) (g : X.A.guards = some []) (hr : Room j X.A) (hk : k ≤ j) (tk : Takes X W) (ha : PA X (e :: es) t) (hg : Gl X x := by rfl)
    (hdb : (x == ("__debug__" : Str)) = false := by decide) (he : starEach (e :: es) X.env = (false, eval e X.env) :: starEach es X.env := by rfl)
    (hpl : (backTo pos (starEach es X.env)).any (·.1) = false := by rfl) : PE X (.Call (.Name x p) (e :: es) [] pos) (tCallS sp (WE W) t) := by
  obtain ⟨f, fd, ps, F, hm, hkp, hb⟩ := c
  refine ⟨fun pins s σ H Q I h => wpAny_Call_Name_kw (ld_glob I hg hm ?_ hdb)⟩
  refine PySem.W.callWith_K (h₀ := X.base) I.ok.mod.kin hkp (thn (ha.run pos pins s σ H _ I h) ?_) he hpl
  rintro us s1 ⟨vs, H1, I1, r, q⟩
  refine ⟨I1.kIn, ?_⟩
  have lens : us.length = ps.length := (r.length).symm.trans (F.len _ _ _ _ q)
  have body := F.go X.A g X.stack s1 H1 ⟨us, []⟩ us vs Q (WE W σ) (hr.mono hk) I1.env0 (by simpa using hb s1 us I1.kIn (by simpa using lens)) r q
  refine wpAny_call (codeAny_mono body ?_)
  intro res s' hres
  match res, hres with
  | .error e, z => exact passAt tk σ pins H1 s1 e s' I1 z
  | .ok (.ret u), z => exact I1.after z
  | .ok .next, z => exact z.elim
  | .ok .brk, z => exact z.elim
  | .ok .cont, z => exact z.elim
end
end Ex
namespace PySem.W
open PySem PySem.Calls PyProof.Rows
theorem clsIn_obj {K : Frag} {D : Addr} (h : hasDictIn K D = true) : ∃ c d cd sl, K.lookup D = some ⟨c, d, .cls cd, sl⟩ := by
  obtain ⟨cd, hc, _⟩ := any_some h
  unfold clsIn at hc
  split at hc
  · rename_i c d cd' sl ho
    exact ⟨c, d, cd', sl, ho⟩
  · cases hc
/-- an instance of an own exception class, with whatever dict, as isinstance asks it -/
theorem kitxD {K : Frag} {x D : Addr} {ox : Obj} {od : Option Obj} (C : L2.ExcC K D) : KitX K (.ref x) (.ref D) (fun h => InstAt h x ox D od) where
  ty := fun _ _ _ I => I.type
  it := fun _ _ X _ => by
    obtain ⟨c, d, cd, sl, ho⟩ := clsIn_obj C.hd
    intro A' Q' E' s' k q
    unfold isType loadHead
    exact wpAny_bind (wpAny_loadPart (k _ _ (X _ _ ho)) (wpAny_pure q))
  ne := fun h tp dd its n sl X htp => by
    obtain ⟨c, d, cd, sl', ho⟩ := clsIn_obj C.hd
    cases e : (Value.ref D == .ref tp) with
    | false => rfl
    | true =>
      obtain rfl : D = tp := Value.ref.inj (beq_iff_eq.mp e)
      have z := (X _ _ ho).symm.trans htp
      cases z
  ca := fun X I k => kx_classE X I C.hg C.hk C.hs (findObj_dataE (by obtain ⟨cd, hc, _⟩ := any_some C.hd; rw [hc]; rfl) C.ha C.hn C.ht) C.hm k
end PySem.W
namespace Ex
open PySem.Spec PyProof.Rows
/-- isinstance(e, c), e the exception that the suite holds, with its dict -/
def rIsD (K : PySem.W.Frag) (C a : Addr) (cls : Value) (d : Option Addr) : List V → Hp → VK → Prop := fun xs H Q => ∃ (c : V) (cv : Value) (b : Bool) (dd : Addr) (fs : List (Str × V)), xs = [.ref a, c] ∧ ClsV c cv ∧ cls = .ref C ∧ d = some dd ∧ H dd = some (.xd fs) ∧ PySem.W.kitOne K (.ref C) cv = some b ∧ Q (.bl b) H
theorem call_isD {X : Cx} {a C : Addr} {oe : Obj} {cls : Value} {d : Option Addr} {pn : List (Addr × Obj)} (T : ExcC X.K C) (hz : Zc cls d oe) (hf : ∃ vs, oe.data = .fields vs) : CallR (X.suite a ((a, oe) :: pn)) (.builtin "isinstance") (rIsD X.K C a cls d) := by
  intro pins s σ H xs us Q I r h
  obtain ⟨c, cv, b, dd, fs, rfl, kc, ec, ed, ea, e, q⟩ := h
  obtain ⟨u, t, rfl, ru, rt⟩ := vals2 r
  obtain rfl : u = Value.ref a := ru
  obtain rfl := kc.eq rt
  subst ec ed
  obtain ⟨hget, _⟩ := I.pin (a, oe) (List.mem_append.mpr (.inl List.mem_cons_self))
  obtain ⟨vs, hv⟩ := hf
  have hx : ObjOk X.prog X.w H s.heap dd (.xd fs) := I.hok dd _ ea
  obtain ⟨mA, hns, hr⟩ := hx
  obtain ⟨od, ho, hl⟩ := lookIn_ns hns
  have J : PySem.W.InstAt s.heap a oe C (some od) := ⟨hget, hz.1, by unfold PySem.W.notCls; rw [hv] <;> rfl, by rw [hz.2]; exact ho⟩
  exact PySem.W.kia_one (PySem.W.kitxD T) I.kIn J e (fun z => nomatch z) fun tk => ⟨.bl b, H, I.kept (t' := tk) fun _ _ z => z, rfl, q⟩
end Ex
namespace Gk
open PySem.Spec PyProof.Rows
section
variable {X : Cx}
def rReprX (K : PySem.W.Frag) : List V → Hp → VK → Prop := fun xs H Q => rRepr K xs H Q ∨ ∃ p, xs = [.ref p] ∧ H p = some (.dK []) ∧ Q (.str "{}") H
theorem call_reprX (hg : X.A.guards = some []) (hu : X.A.units + 64 < cLine) : CallR X (.builtin "repr") (rReprX X.K) := by
  intro pins s σ H xs us Q I r h
  rcases h with h | ⟨p, rfl, hp, q⟩
  · exact call_reprD hg hu pins s σ H xs us Q I r h
  · obtain ⟨u, rfl, ru⟩ := vals1 r
    obtain rfl : u = Value.ref p := ru
    obtain ⟨_, ns, vs, kv, dof⟩ := dk_of I.hok hp
    obtain rfl : vs = [] := by cases kv; rfl
    obtain ⟨o, es, ep, h1, h2, h3, _, h4, _⟩ := dof
    have he : es.toList = [] := by
      cases hz : es.toList with
      | nil => rfl
      | cons a l => rw [hz] at h4; cases h4
    have rd : Reads s.heap (.ref p) (.dict []) (p :: [] ++ []) := .dict h1 h2.1 h3 (by rw [he]; exact .nil) (by rw [he]; exact .nil)
    have e : (PyData.dict []).shown = "{}" := by decide +kernel
    have out : ∀ h' u' tk, (∀ b o, s.heap.get? b = some o → h'.get? b = some o) → EP X pins σ Q (.str (PyData.dict []).shown u') { s with heap := h', toks := tk } :=
      fun h' u' tk hk => ⟨.str "{}", H, I.kept hk, ⟨u', by rw [e]⟩, q⟩
    refine repr_of_reads' rd (by rfl) (fun _ m => ?_) hg (by show _ + (PyData.depth (.dict []) + 1) < _; have : PyData.depth (.dict []) = 1 := rfl; omega) (fun _ _ z => z) out (by rw [e]; decide +kernel)
    have : sysModules = p := by simpa using m
    rw [← this] at ns
    simp at ns
end
end Gk
namespace Gk
open PySem.Spec PyProof.Rows
section
variable {X : Cx} {k j : Nat} {sp : Sp} {x : Str} {p pos : Pos}
/-- a def without arguments -/
theorem pe_cG0 (c : CalG X.prog X.w X.K X.mg X.base k x sp) (g : X.A.guards = some []) (hr : Room j X.A) (hk : k ≤ j) (hg : Gl X x := by rfl) (hdb : (x == ("__debug__" : Str)) = false := by decide) :
    PE X (.Call (.Name x p) [] [] pos) (tCall sp [] E0 tNil) := by
  obtain ⟨f, fd, ps, F, hm, hkp, hb⟩ := c
  refine ⟨fun pins s σ H Q I h => wpAny_Call_Name_kw (ld_glob I hg hm ?_ hdb)⟩
  exact PySem.W.callWith_K0 I.kIn hkp (runG (us := []) F g (hr.mono hk) hb .nil pass0 I .nil h)
end
end Gk
namespace Ob
open PySem.Spec PyProof.Rows
/-! ### own classes: defs that keep their promise where no container is being shown -/
section
variable {X : Cx} {CX : CXT} {k : Nat} {f C : Addr} {fd : FuncData} {ps : List Str} {sp : Sp} {E : XK}
/-- nothing is raised there -/
theorem px0 : Passes (L2.CX X.prog X.w) X E0 := fun pins σ H s u s' I z => by
  obtain ⟨_, _, _, _, _, _, _, _, _, _, _, _, z⟩ := z
  exact z.elim
/-- the same goes out -/
theorem pxE {E : XK} (tk : Takes X fun cls d _ H => E cls d H) : Passes (L2.CX X.prog X.w) X E := passes_call tk fun _ _ _ _ h => h
theorem flow {pins : List (Addr × Obj)} {σ : L2.St} {H : Hp} {s : Shared} {Q : VK} {r : Result} {s' : Shared} (hx : Passes CX X E) (I : Inv X pins σ H s) (h : CR CX X.stack X.prog X.w H s Q E r s') : wants (EP X pins σ Q) X.xe r s' := by
  match r, h with
  | .error e, z => exact hx pins σ H s e s' I z
  | .ok (.ret u), z => exact I.after z
  | .ok .next, z => exact z.elim
  | .ok .brk, z => exact z.elim
  | .ok .cont, z => exact z.elim
/-- the call of such a def, A somewhere at this body or one step further in -/
theorem goG {A : Around} {H : Hp} {s : Shared} {Q : VK} {us : List Value} {vs : List V} (F : FnG X.prog X.w X.K X.mg X.base CX k f fd ps sp) (g : A.guards = some []) (hr : Room k A)
    (e0 : Env0 X.prog X.w X.K X.mg X.base A X.stack s H) (kn : X.K.In s.heap) (hb : Binds X.K fd ps []) (r : Vals vs us) (h : sp vs H Q E) :
    codeAny (model X.prog X.w) A (.call (.ref f) ⟨us, []⟩) (CR CX X.stack X.prog X.w H s Q E) s := by
  have lens : (us ++ []).length = ps.length := by rw [List.append_nil]; exact (r.length).symm.trans (F.len _ _ _ _ h)
  have b := hb s us kn lens
  rw [List.append_nil] at b
  exact F.go A g X.stack s H ⟨us, []⟩ us vs Q E hr e0 b r h
/-- a method m of the class at C -/
def MCal (P : Program) (w : World) (K : PySem.W.Frag) (mg : Str → Option Value) (base : Heap) (CX : CXT) (C : Addr) (k : Nat) (m : Str) (sp : Sp) : Prop :=
  ∃ (f : Addr) (fd : FuncData) (ps : List Str), FnG P w K mg base CX k f fd ps sp ∧ Meth K C m f ∧ Binds K fd ps []
section
variable {j : Nat} {m : Str} {o e : Expr} {es : List Expr} {apos pos : Pos} {ta : TE} {t : TA}
theorem meth {pl : Sem Bool} (he : PE X o ta) (c : L2.Cls X.K C) (M : MCal X.prog X.w X.K X.mg X.base CX C k m sp) (g : X.A.guards = some []) (hr : Room j X.A) (hk : k ≤ j) (hx : Passes CX X E) (ha : PA X (e :: es) t)
    (hst : starEach (e :: es) X.env = (false, eval e X.env) :: starEach es X.env := by rfl) (hpl : (backTo pos (starEach es X.env)).any (·.1) = false := by rfl)
    (ht : eval (.Call (.Attribute o m apos) (e :: es) [] pos) X.env = (do
      let ov ← eval o X.env
      standAt apos.atName
      let (f, first) ← holding [ov] (getMethod ov m pl)
      callWith pos f first (backTo pos (starEach (e :: es) X.env)) (backToKw pos (keywordEach [] X.env))) := by rfl) : PE X (.Call (.Attribute o m apos) (e :: es) [] pos) (tMeth C m sp [] E ta t) := by
  obtain ⟨f, fd, ps, F, hm, hb⟩ := M
  refine ⟨fun pins s σ H Q I h => PySem.W.methodCall_KW (pl := pl) (thn (he.run pins s σ H _ I h) fun u s1 ⟨x, H1, I1, rx, a, dx, fs, ex, ea, l, q⟩ => ?_) ht⟩
  subst ex
  obtain rfl : u = Value.ref a := rx
  refine getmeth_ok I1 ea c hm l (PySem.W.callWith_K (first := [.ref a]) (h₀ := X.base) I.ok.mod.kin hm.kp (thn (ha.run pos pins s1 σ H1 _ I1 q) fun us s2 ⟨vs, H2, I2, r, q2⟩ => ⟨I2.kIn, wpAny_call ?_⟩) hst hpl)
  have q2 : sp (V.ref a :: (vs ++ [])) H2 Q E := q2
  rw [List.append_nil] at q2
  exact codeAny_mono (goG F g (hr.mono hk) I2.env0 I2.kIn hb (.cons (show RelV (.ref a) (.ref a) from rfl) r) q2) fun r s' z => flow hx I2 z
theorem meth0 {pl : Sem Bool} (he : PE X o ta) (c : L2.Cls X.K C) (M : MCal X.prog X.w X.K X.mg X.base CX C k m sp) (g : X.A.guards = some []) (hr : Room j X.A) (hk : k ≤ j) (hx : Passes CX X E)
    (ht : eval (.Call (.Attribute o m apos) [] [] pos) X.env = (do
      let ov ← eval o X.env
      standAt apos.atName
      let (f, first) ← holding [ov] (getMethod ov m pl)
      callWith pos f first (backTo pos (starEach [] X.env)) (backToKw pos (keywordEach [] X.env))) := by rfl) : PE X (.Call (.Attribute o m apos) [] [] pos) (tMeth C m sp [] E ta tNil) := by
  obtain ⟨f, fd, ps, F, hm, hb⟩ := M
  refine ⟨fun pins s σ H Q I h => PySem.W.methodCall_KW (pl := pl) (thn (he.run pins s σ H _ I h) fun u s1 ⟨x, H1, I1, rx, a, dx, fs, ex, ea, l, q⟩ => ?_) ht⟩
  subst ex
  obtain rfl : u = Value.ref a := rx
  refine getmeth_ok I1 ea c hm l (PySem.W.callWith_K0 (first := [.ref a]) I1.kIn hm.kp (wpAny_call ?_))
  exact codeAny_mono (goG F g (hr.mono hk) I1.env0 I1.kIn hb (.cons (show RelV (.ref a) (.ref a) from rfl) .nil) q) fun r s' z => flow hx I1 z
end
/-- C() -/
def MkCal (P : Program) (w : World) (K : PySem.W.Frag) (mg : Str → Option Value) (base : Heap) (CX : CXT) (C : Addr) (k : Nat) (x : Str) (sp : Sp) : Prop :=
  ∃ (f : Addr) (fd : FuncData) (ps : List Str), FnG P w K mg base CX k f fd ps sp ∧ Mk K C f ∧ Binds K fd ps [] ∧ mg x = some (.ref C)
theorem guards_make {A : Around} {us : List Value} {kw : List (Str × Value)} : (A.under (.builtin "type.__call__" ⟨.ref C :: us, kw⟩)).guards = A.guards := by
  first
  | rfl
  | simp [Around.under, Code.isGuard, guardIds]
theorem runMk {pins : List (Addr × Obj)} {σ : L2.St} {H : Hp} {s : Shared} {Q : VK} {us : List Value} {vs : List V} (M : Mk X.K C f) (F : FnG X.prog X.w X.K X.mg X.base CX k f fd ps sp) (g : X.A.guards = some []) (hr : Room (k + 1) X.A) (hb : Binds X.K fd ps [])
    (hx : Passes CX X E) (I : Inv X pins σ H s) (r : Vals vs us)
    (h : ∀ x dx, H x = none → H dx = none → dx ≠ x → sp (.ref x :: (vs ++ [])) (upd (upd H dx (.own x)) x (.ins C dx [])) (fun v H2 => v = .non ∧ Q (.ref x) H2) E) :
    wpAny (model X.prog X.w) X.A (call (.ref C) us) (EP X pins σ Q) X.xe s := by
  have hq := h (s.heap.objs.size + 1) s.heap.objs.size (I.hok.fresh (Nat.le_succ _)) (I.hok.fresh (Nat.le_refl _)) (Nat.ne_of_lt (Nat.lt_succ_self _))
  rw [List.append_nil] at hq
  have I2 := Inv.made (C := C) I
  have run := goG F (A := X.A.under (.builtin "type.__call__" ⟨.ref C :: us, []⟩)) (guards_make.trans g) (hr.make C us []) (I2.env0.make C us []) I2.kIn hb (.cons (show RelV (.ref (s.heap.objs.size + 1)) (.ref (s.heap.objs.size + 1)) from rfl) r) hq
  refine wpAny_call (make_map (f := f) I.kIn M.makes M.init (beq_iff_eq.mp M.fn) (codeAny_mono run fun r s' hq' => ?_))
  match r, hq' with
  | .error e, z => exact hx pins σ _ _ e s' I2 z
  | .ok .next, z => exact z.elim
  | .ok .brk, z => exact z.elim
  | .ok .cont, z => exact z.elim
  | .ok (.ret u), z =>
    obtain ⟨v, H', I3, rv, ev, q3⟩ := I2.after z
    subst ev
    exact ⟨rv, ⟨V.ref (s.heap.objs.size + 1), H', I3, rfl, q3⟩⟩
section
variable {j : Nat} {x : Str} {e : Expr} {es : List Expr} {p pos : Pos} {t : TA}
theorem make (M : MkCal X.prog X.w X.K X.mg X.base CX C k x sp) (gd : X.A.guards = some []) (hr : Room j X.A) (hk : k + 1 ≤ j) (hx : Passes CX X E) (ha : PA X (e :: es) t) (hg : Gl X x := by rfl)
    (hdb : (x == ("__debug__" : Str)) = false := by decide) (he : starEach (e :: es) X.env = (false, eval e X.env) :: starEach es X.env := by rfl) (hpl : (backTo pos (starEach es X.env)).any (·.1) = false := by rfl) :
    PE X (.Call (.Name x p) (e :: es) [] pos) (tMake C sp [] E t) := by
  obtain ⟨f, fd, ps, F, M, hb, hm⟩ := M
  refine ⟨fun pins s σ H Q I h => wpAny_Call_Name_kw (ld_glob I hg hm ?_ hdb)⟩
  exact PySem.W.callWith_K (h₀ := X.base) I.ok.mod.kin M.kp (thn (ha.run pos pins s σ H _ I h) fun us s1 ⟨vs, H1, I1, r, q⟩ => ⟨I1.kIn, runMk M F gd (hr.mono hk) hb hx I1 r q⟩) he hpl
theorem make0 (M : MkCal X.prog X.w X.K X.mg X.base CX C k x sp) (gd : X.A.guards = some []) (hr : Room j X.A) (hk : k + 1 ≤ j) (hx : Passes CX X E) (hg : Gl X x := by rfl)
    (hdb : (x == ("__debug__" : Str)) = false := by decide) : PE X (.Call (.Name x p) [] [] pos) (tMake C sp [] E tNil) := by
  obtain ⟨f, fd, ps, F, M, hb, hm⟩ := M
  refine ⟨fun pins s σ H Q I h => wpAny_Call_Name_kw (ld_glob I hg hm ?_ hdb)⟩
  exact PySem.W.callWith_K0 I.kIn M.kp (runMk (us := []) M F gd (hr.mono hk) hb hx I .nil h)
end
/-- a property, read -/
def PCal (P : Program) (w : World) (K : PySem.W.Frag) (mg : Str → Option Value) (base : Heap) (CX : CXT) (C : Addr) (k : Nat) (m : Str) (sp : Sp) : Prop :=
  ∃ (p f : Addr) (fd : FuncData) (ps : List Str), FnG P w K mg base CX k f fd ps sp ∧ PropOf K C m p f ∧ Binds K fd ps []
theorem prop {m : Str} {e : Expr} {pos : Pos} {ta : TE} {j : Nat} (he : PE X e ta) (c : L2.Cls X.K C) (M : PCal X.prog X.w X.K X.mg X.base CX C k m sp) (g : X.A.guards = some []) (hr : Room j X.A) (hk : k + 1 ≤ j) (hx : Passes CX X.nox E)
    (hab : attributeBase e m X.env (eval e X.env) = eval e X.env := by rfl) : PE X (.Attribute e m pos) (tProp C sp [] E ta) := by
  obtain ⟨p, f, fd, ps, F, hp, hb⟩ := M
  refine ⟨fun pins s σ H Q I h => attr_of hab (thn (he.run pins s σ H _ I h) fun u s1 ⟨x, H1, I1, rx, a, dx, fs, ex, ea, q⟩ => ?_)⟩
  subst ex
  obtain rfl : u = Value.ref a := rx
  obtain ⟨mA, O, _, _, _, _⟩ := ins_get I1.hok ea
  obtain ⟨od, J, _⟩ := O.look
  obtain ⟨rest, hrec⟩ := hp.rec_
  have I3 := I1.tok (s1.toks + 1)
  have hc : (PySem.W.clsIn X.K C).isSome = true := by
    obtain ⟨cd, hc, _⟩ := PySem.W.any_some c.hd
    rw [hc]
    rfl
  refine PySem.W.get_bind I1.kIn J (PySem.W.plainGet_of (c.get m)).1 (PySem.W.findObj_data hc hp.at_ hp.get hp.tak) (PySem.W.plainGet_of (c.get m)).2 (wpAny_call (PySem.W.prop_get (s := { s1 with toks := s1.toks + 1 }) I1.kIn hrec ?_))
  refine codeAny_mono (goG F (A := X.A.in1) g (hr.mono hk).in1 I3.env0.in1 I3.kIn hb (.cons (show RelV (.ref a) (.ref a) from rfl) .nil) q) fun r s' z => ?_
  match r, z with
  | .error er, z => exact (show False from hx pins σ H1 { s1 with toks := s1.toks + 1 } er s' (I3.wish _) z).elim
  | .ok .next, z => exact z.elim
  | .ok .brk, z => exact z.elim
  | .ok .cont, z => exact z.elim
  | .ok (.ret u), z =>
    obtain ⟨v, H', I4, rv, q3⟩ := I3.after z
    show wpAny _ _ (handedOut u) _ _ _
    rw [PySem.W.handedOut_of (handed_of rv)]
    exact wpAny_pure ⟨v, H', I4, rv, q3⟩
/-! ### static methods, read off the class -/
structure CSta (K : PySem.W.Frag) (C : Addr) (mc : Value) (m : Str) (p g : Addr) : Prop where
  rd : PySem.W.readsIn K C mc = true
  ga : PySem.W.specialIn K (.ref C) "__getattribute__" = some (some (.builtin "type.__getattribute__"))
  at_ : PySem.W.findCls K (.ref C) mc m = some (.get (.builtin "staticmethod.__get__") (.ref p) .none (.ref C))
  rc : ∃ rest, PySem.W.recIn K p "staticmethod" = some (.ref g :: rest)
  kp : PySem.W.keepIn K (.ref g) = true
def SCal (P : Program) (w : World) (K : PySem.W.Frag) (mg : Str → Option Value) (base : Heap) (CX : CXT) (C : Addr) (k : Nat) (m : Str) (sp : Sp) : Prop :=
  ∃ (p f : Addr) (fd : FuncData) (ps : List Str) (mc : Value), FnG P w K mg base CX k f fd ps sp ∧ CSta K C mc m p f ∧ Binds K fd ps []
def tStat (C : Addr) (sp : Sp) (E : XK) (ta : TE) : TE := fun σ H Q => ta σ H fun x H1 => x = .ref C ∧ sp [] H1 Q E
theorem stat0 {m : Str} {o : Expr} {apos pos : Pos} {ta : TE} {j : Nat} {pl : Sem Bool} (he : PE X o ta) (M : SCal X.prog X.w X.K X.mg X.base CX C k m sp) (g : X.A.guards = some []) (hr : Room j X.A) (hk : k ≤ j) (hx : Passes CX X E)
    (ht : eval (.Call (.Attribute o m apos) [] [] pos) X.env = (do
      let ov ← eval o X.env
      standAt apos.atName
      let (f, first) ← holding [ov] (getMethod ov m pl)
      callWith pos f first (backTo pos (starEach [] X.env)) (backToKw pos (keywordEach [] X.env))) := by rfl) : PE X (.Call (.Attribute o m apos) [] [] pos) (tStat C sp E ta) := by
  obtain ⟨p, f, fd, ps, mc, F, cs, hb⟩ := M
  obtain ⟨rest, hp⟩ := cs.rc
  refine ⟨fun pins s σ H Q I h => PySem.W.methodCall_KW (pl := pl) (thn (he.run pins s σ H _ I h) fun u s1 ⟨x, H1, I1, rx, ex, q⟩ => ?_) ht⟩
  subst ex
  obtain rfl : u = Value.ref C := rx
  have I2 := I1.tok (s1.toks + 1)
  refine PySem.W.method_cls I1.kIn cs.ga (PySem.W.cls_bind I1.kIn cs.rd cs.at_ (wpAny_call (PySem.W.sm_get (s := { s1 with toks := s1.toks + 1 }) I1.kIn hp (PySem.W.handed_on rfl ?_))))
  refine PySem.W.callWith_K0 (first := []) I2.kIn cs.kp (wpAny_call ?_)
  exact codeAny_mono (goG F g (hr.mono hk) I2.env0 I2.kIn hb .nil q) fun r s' z => flow hx I2 z
end
end Ob
/-! special methods of own classes, called by signs: x[k], x[k] = v, len(x), ==, != -/
namespace Ow
open PySem.Spec PyProof.Rows PySem.W
/-- the method m of the class at C is the def at g -/
structure SpM (K : Frag) (C : Addr) (m : Str) (g : Addr) : Prop where
  at_ : findIn K (.ref C) m = some (some (.ref g))
  fn : typeIn K (.ref g) = some (.type "function")
/-- instances of the class at C are no deques -/
def NoDq (K : Frag) (C : Addr) : Prop := subIn K (.ref C) (.type "collections.deque") = some false
section
variable {prog : Program} {w : World} {A : Around} {E : Value → Shared → Prop} {s : Shared} {a C g : Addr} {K : Frag} {m : Str} {o : Obj}
theorem special (hk : K.In s.heap) (ho : s.heap.get? a = some o) (hc : o.cls = .ref C) (h : SpM K C m g) {args : List Value} {Q : Option Value → Shared → Prop}
    (k : wpAny (model prog w) A (call (.ref g) (.ref a :: args)) (fun v => Q (some v)) E s) : wpAny (model prog w) A (callSpecial? (.ref a) m args) Q E s := by
  unfold callSpecial? specialOf
  refine wpAny_bind (wpAny_bind (wpAny_typeOf_ref ho ?_))
  rw [hc]
  refine looks_findIn (M := model prog w) hk h.at_ A _ E s (fun _ _ e => e) ?_
  refine wpAny_holding ?_
  refine wpAny_bind (bind_fn (M := model prog w) hk (.ref a) h.fn A _ E s (fun _ _ e => e) ?_)
  exact wpAny_bind (wpAny_mono k (fun v s' q => wpAny_pure q) fun _ _ z => z)
theorem seqKey (hk : K.In s.heap) (ho : s.heap.get? a = some o) (hc : o.cls = .ref C) (hd : NoDq K C) {i : Value} {Q : Value → Shared → Prop} (q : Q i s) : wpAny (model prog w) A (sequenceKey (.ref a) i m) Q E s := by
  unfold sequenceKey
  refine wpAny_bind (wpAny_typeOf_ref ho ?_)
  rw [hc]
  show wpAny _ _ (List.anyM (fun n => isSubtype (.ref C) (.type n)) ["collections.deque"] >>= _) _ _ _
  refine wpAny_bind ?_
  show wpAny _ _ (isSubtype (.ref C) (.type "collections.deque") >>= _) _ _ _
  refine wpAny_bind (looks_subIn (M := model prog w) hk hd A _ E s (fun _ _ e => e) ?_)
  exact wpAny_pure (wpAny_pure q)
theorem get_own (hk : K.In s.heap) (ho : s.heap.get? a = some o) (hc : o.cls = .ref C) (hd : NoDq K C) (h : SpM K C "__getitem__" g) {i : Value} {Q : Value → Shared → Prop}
    (k : wpAny (model prog w) A (call (.ref g) [.ref a, i]) Q E s) : wpAny (model prog w) A (getItem (.ref a) i) Q E s := by
  unfold getItem
  refine wpAny_holding ?_
  refine wpAny_bind (seqKey hk ho hc hd ?_)
  refine wpAny_bind (special hk ho hc h ?_)
  exact wpAny_mono k (fun v s' q => wpAny_pure q) fun _ _ z => z
theorem set_own (hk : K.In s.heap) (ho : s.heap.get? a = some o) (hc : o.cls = .ref C) (hd : NoDq K C) (h : SpM K C "__setitem__" g) {i v : Value} {Q : Unit → Shared → Prop}
    (k : wpAny (model prog w) A (call (.ref g) [.ref a, i, v]) (fun _ => Q ()) E s) : wpAny (model prog w) A (setItem (.ref a) i v) Q E s := by
  unfold setItem
  refine wpAny_holding ?_
  refine wpAny_bind (seqKey hk ho hc hd ?_)
  refine wpAny_bind (special hk ho hc h ?_)
  exact wpAny_mono k (fun v s' q => wpAny_pure q) fun _ _ z => z
end
section
open L2
variable {X : Cx} {CX : CXT} {k : Nat} {g C : Addr} {fd : FuncData} {ps : List Str} {sp : Sp} {E : XK}
/-- a def called one step further in (by a built-in) -/
theorem runG1 {dvs : List V} {ds : List Value} {pins : List (Addr × Obj)} {σ : L2.St} {H : Hp} {s : Shared} {Q : VK} {us : List Value} {vs : List V} (F : FnG X.prog X.w X.K X.mg X.base CX k g fd ps sp) (gd : X.A.guards = some []) (hr : Room (k + 1) X.A)
    (hb : Binds X.K fd ps ds) (hd : Vals dvs ds) (hx : Passes CX X E) (I : Inv X pins σ H s) (r : Vals vs us) (h : sp (vs ++ dvs) H Q E) : wpAny (model X.prog X.w) X.A.in1 (call (.ref g) us) (EP X pins σ Q) X.xe s := by
  have rr := r.append hd
  have lens := (rr.length).symm.trans (F.len (vs ++ dvs) H Q E h)
  have body := F.go X.A.in1 gd X.stack s H ⟨us, []⟩ (us ++ ds) (vs ++ dvs) Q E hr.in1 I.env0.in1 (hb s us I.kIn lens) rr h
  refine wpAny_call (codeAny_mono body ?_)
  intro res s' hres
  match res, hres with
  | .error e, z => exact hx pins σ H s e s' I z
  | .ok (.ret u), z => exact I.after z
  | .ok .next, z => exact z.elim
  | .ok .brk, z => exact z.elim
  | .ok .cont, z => exact z.elim
/-- what a method called by a sign asks of its class -/
structure SpC (K : Frag) (C : Addr) (m : Str) (g : Addr) : Prop where
  sp : SpM K C m g
  dq : NoDq K C
  fi : fnIn K g = true
theorem instAt {pins : List (Addr × Obj)} {σ : L2.St} {H : Hp} {s : Shared} (I : Inv X pins σ H s) {a dx : Addr} {fs : List (Str × V)} (ha : H a = some (.ins C dx fs)) : ∃ od, W.InstAt s.heap a (W.instObj C dx) C (some od) := by
  obtain ⟨_, _, _, ho, mA, hns, _⟩ := I.hok a _ ha
  obtain ⟨od, hd, _⟩ := lookIn_ns hns
  exact ⟨od, ho, rfl, rfl, hd⟩
def tGetO (C : Addr) (sp : Sp) (E : XK) (ta tb : TE) : TE := fun σ H Q => ta σ H fun x H1 => tb σ H1 fun y H2 => ∃ a dx fs, x = .ref a ∧ H2 a = some (.ins C dx fs) ∧ sp [.ref a, y] H2 Q E
theorem pe_getO {a b : Expr} {ta tb : TE} {pos : Pos} (S : SpC X.K C "__getitem__" g) (F : FnG X.prog X.w X.K X.mg X.base CX k g fd ps sp) (gd : X.A.guards = some []) (hr : Room (k + 1) X.A) (hb : Binds X.K fd ps []) (hx : Passes CX X E) (ha : PE X a ta) (hb' : PE X b tb)
    (hs : ∀ (o i : Value), subscripted b true o i = runValue (.builtin "lifetime.subscript" ⟨[o, i], []⟩)) : PE X (.Subscript a b pos) (tGetO C sp E ta tb) := by
  refine ⟨fun pins s σ H Q I h => Subscript_ (binT ha hb' I h fun v u s2 x y H2 I2 rx ry q => ?_)⟩
  obtain ⟨p, dx, fs, rfl, hp, q⟩ := q
  obtain rfl : v = Value.ref p := rx
  obtain ⟨m, fr⟩ := I2.fr
  obtain ⟨od, J⟩ := instAt I2 hp
  have isf : isFn X.K (.ref g) = true := by show (typeIn X.K (.ref g) == some (.type "function")) = true; rw [S.sp.fn] <;> rfl
  exact sub_K fr I2.ok.mod.kin J S.sp.at_ S.fi isf (runG1 (dvs := []) F gd hr hb .nil hx I2 (.cons (show RelV (.ref p) (.ref p) from rfl) (.cons ry .nil)) q) (hs _ _)
def rSetO (C : Addr) (sp : Sp) (E : XK) : TSet := fun o i v H Q => ∃ a dx fs, o = .ref a ∧ H a = some (.ins C dx fs) ∧ sp [.ref a, i, v] H (fun _ H' => Q H') E
theorem set_ownR (S : SpC X.K C "__setitem__" g) (F : FnG X.prog X.w X.K X.mg X.base CX k g fd ps sp) (gd : X.A.guards = some []) (hr : Room k X.A) (hb : Binds X.K fd ps []) (hx : Passes CX X E) : PSet X (rSetO C sp E) := by
  intro pins s σ H o i v ov iv u Q I ro ri rv h
  obtain ⟨p, dx, fs, rfl, hp, q⟩ := h
  obtain rfl : ov = Value.ref p := ro
  obtain ⟨_, _, _, ho, _⟩ := I.hok p _ hp
  refine set_own I.kIn ho rfl S.dq S.sp ?_
  refine wpAny_mono (runG (dvs := []) F gd hr hb .nil hx I (.cons (show RelV (.ref p) (.ref p) from rfl) (.cons ri (.cons rv .nil))) q) ?_ (fun _ _ z => z)
  rintro r s' ⟨w, H', I', _, q'⟩
  exact ⟨H', I', q'⟩
end
end Ow
/-! == and != of an instance of an own class, by its own __eq__, and len by its own __len__ -/
namespace Ob
open PySem.Spec PyProof.Rows
section
variable {prog : Program} {w : World} {A : Around} {E : Value → Shared → Prop} {s : Shared} {K : PySem.W.Frag} {x C f L : Addr} {tb b : Value} {h₀ : Heap} {m : Str → Option Value} {ox : Obj} {od : Option Obj}
/-- the outcome of == as != asks it -/
def NeBack (Q : Value → Shared → Prop) (v : Value) (s' : Shared) : Prop := ∃ c : Bool, v = .bool c ∧ Q (.bool (!c)) s'
theorem ne_entry {Q : Fin → Shared → Prop} (hu : A.units < cLine) (X : K.In s.heap) (I : PySem.W.InstAt s.heap x ox C od) (hs : PySem.W.findIn K (.ref C) "__eq__" = some (some (.ref f))) (hf : PySem.W.isFn K (.ref f) = true)
    (h : wpAny (model prog w) A (call (.ref f) [.ref x, b]) (fun v s' => ∃ c : Bool, v = .bool c ∧ Q (.done (.ret (.bool (!c)))) s') E s) : wpAny (model prog w) A (Builtin.«object.__ne__» ⟨[.ref x, b], []⟩) Q E s := by
  unfold Builtin.«object.__ne__»
  refine wpAny_bind (wpAny_pure (wpAny_bind (wpAny_cRoomFor hu ?_)))
  refine wpAny_bind (PySem.W.ifBound_K X I hs hf (wpAny_mono h (fun v s' z => ?_) fun _ _ e => e))
  obtain ⟨c, rfl, q⟩ := z
  show wpAny _ _ (truthy (.bool c) >>= fun r => ret (.bool (!r))) _ _ _
  exact wpAny_bind (wpAny_truthy_bool (wpAny_pure q))
theorem ne_call {Q : Value → Shared → Prop} (hu : A.units + 1 < cLine) (X : K.In s.heap) (I : PySem.W.InstAt s.heap x ox C od) (hs : PySem.W.findIn K (.ref C) "__eq__" = some (some (.ref f))) (hf : PySem.W.isFn K (.ref f) = true) (hm : PySem.W.mroIn K C (.type "object") = some true)
    (h : wpAny (model prog w) A.in1 (call (.ref f) [.ref x, b]) (NeBack Q) E s) : wpAny (model prog w) A (call (.builtin "object.__ne__") [.ref x, b]) Q E s := by
  have sub : PySem.W.Looks (model prog w) s.heap (isInstance (.ref x) (.type "object")) true := I.type.andThen (PySem.W.looks_mroIn X hm)
  refine wpAny_call (codeAny_call_builtin F.cmp_object.ne.plain F.cmpEntry_ne (PySem.W.check_slot F.cmpKind_ne F.cmpSplit_ne sub (F.cmpArgs_ne _ _) ?_))
  exact ne_entry (A := A.in1) hu X I hs hf (wpAny_mono h (fun v s' z => z) fun _ _ e => e)
theorem ne_K {Q : Value → Shared → Prop} (hu : A.units + 1 < cLine) (X : K.In s.heap) (I : PySem.W.InstAt s.heap x ox C od) (hb : PySem.W.Looks (model prog w) s.heap (typeOf b) tb) (hn : PySem.W.notFirst K C tb = true)
    (hne : PySem.W.findIn K (.ref C) "__ne__" = some (some (.builtin "object.__ne__"))) (hs : PySem.W.findIn K (.ref C) "__eq__" = some (some (.ref f))) (hf : PySem.W.isFn K (.ref f) = true) (hm : PySem.W.mroIn K C (.type "object") = some true)
    (h : wpAny (model prog w) A.in1 (call (.ref f) [.ref x, b]) (NeBack Q) E s) : wpAny (model prog w) A (richCompare .NotEq (.ref x) b) Q E s := by
  have bnd : wpAny (model prog w) A (callSpecialIfBound? (.ref x) "__ne__" [b]) (fun r s' => ∃ c : Bool, r = some (.bool (!c)) ∧ Q (.bool (!c)) s') E s := by
    simp only [callSpecialIfBound?, bindSpecialIfBound?]
    refine wpAny_holding (wpAny_bind (wpAny_bind (wpAny_bind (I.type.here ((PySem.W.looks_findIn X hne).here ?_)))))
    simp only [F.cmp_object.ne.bind]
    refine wpAny_bind (wpAny_askSetting (wpAny_ite ?_))
    have fin : wpAny (model prog w) A (call (.builtin "object.__ne__") ([.ref x] ++ [b]) >>= fun v => pure (some v)) (fun r s' => ∃ c : Bool, r = some (.bool (!c)) ∧ Q (.bool (!c)) s') E s :=
      wpAny_bind (ne_call hu X I hs hf hm (wpAny_mono h (fun v s' ⟨c, e, q⟩ => ⟨c, e, wpAny_pure ⟨c, rfl, q⟩⟩) fun _ _ e => e))
    split
    · exact wpAny_bind (wpAny_pure (wpAny_pure fin))
    · exact wpAny_tryCatch (wpAny_bind (wpAny_pure (wpAny_pure fin)))
  have one : wpAny (model prog w) A (tryCompare (.ref x) "__ne__" b) (fun r s' => ∃ c : Bool, r = some (.bool (!c)) ∧ Q (.bool (!c)) s') E s := by
    unfold tryCompare
    refine wpAny_bind (wpAny_mono bnd (fun r s' z => ?_) fun _ _ e => e)
    obtain ⟨c, rfl, q⟩ := z
    exact wpAny_pure ⟨c, rfl, q⟩
  have hu0 : A.units < cLine := Nat.lt_of_succ_lt hu
  unfold richCompare
  simp only [oneThing_ref]
  refine wpAny_holding (wpAny_bind (wpAny_cRoomFor hu0 (wpAny_bind (I.type.here (wpAny_bind (hb.here ?_))))))
  split
  · rename_i q
    have e : PySem.W.subIn K tb (.ref C) = some false := (Bool.or_eq_true_iff.mp hn).elim (fun e => by rw [beq_iff_eq.mp e] at q; simp at q) (fun e => beq_iff_eq.mp e)
    refine wpAny_bind ((PySem.W.looks_subIn X e).here ?_)
    simp only [Bool.false_eq_true, if_false]
    refine wpAny_bind (wpAny_mono one (fun r s' z => ?_) fun _ _ e => e)
    obtain ⟨c, rfl, hq⟩ := z
    exact wpAny_pure hq
  · refine wpAny_bind (wpAny_pure ?_)
    simp only [Bool.false_eq_true, if_false]
    refine wpAny_bind (wpAny_mono one (fun r s' z => ?_) fun _ _ e => e)
    obtain ⟨c, rfl, hq⟩ := z
    exact wpAny_pure hq
end
section
variable {X : Cx} {CX : CXT} {k j : Nat} {C : Addr} {sp : Sp} {E : XK}
/-- the own == of the class at C -/
def EqCal (P : Program) (w : World) (K : PySem.W.Frag) (mg : Str → Option Value) (base : Heap) (CX : CXT) (C : Addr) (k : Nat) (sp : Sp) : Prop :=
  ∃ (f : Addr) (fd : FuncData) (ps : List Str), FnG P w K mg base CX k f fd ps sp ∧ PySem.W.findIn K (.ref C) "__eq__" = some (some (.ref f)) ∧ PySem.W.isFn K (.ref f) = true ∧ Binds K fd ps []
/-- what it promises must be a truth value -/
def rEqO (K : PySem.W.Frag) (C : Addr) (sp : Sp) (neg : Bool) : R2 := fun x y H Q => ∃ (a dx : Addr) (fs : List (Str × V)) (t : Value), x = .ref a ∧ H a = some (.ins C dx fs) ∧ TyX K H y t ∧ PySem.W.notFirst K C t = true ∧
  sp [.ref a, y] H (fun v H' => ∃ c : Bool, v = .bl c ∧ Q (.bl (if neg = true then !c else c)) H') E0
theorem op_eqO (M : EqCal X.prog X.w X.K X.mg X.base CX C k sp) (g : X.A.guards = some []) (hr : Room j X.A) (hk : k ≤ j) (hx : Passes CX X E0) : OpR X (compareOp .Eq) (rEqO X.K C sp false) := by
  obtain ⟨f, fd, ps, F, hs, hf, hb⟩ := M
  intro pins s σ H x y v u Q I rx ry h
  obtain ⟨a, dx, fs, t, rfl, ha, ty, hn, q⟩ := h
  obtain rfl : v = Value.ref a := rx
  obtain ⟨od, J⟩ := Ow.instAt I ha
  obtain ⟨m, hF⟩ := I.fr
  obtain ⟨Pk, Z, pk, _⟩ := kit_of I ry ty
  refine PySem.W.cmp_K (op := .Eq) (tb := t) hr.units0 hF I.ok.mod.kin J (Z.ty _ _ I.kIn pk) hn hs hf (wpAny_call (codeAny_mono (goG F g (hr.mono hk) I.env0 I.kIn hb (.cons (show RelV (.ref a) (.ref a) from rfl) (.cons ry .nil)) q) fun r s' z => ?_))
  match r, z with
  | .error er, z => exact hx pins σ H s er s' I z
  | .ok .next, z => exact z.elim
  | .ok .brk, z => exact z.elim
  | .ok .cont, z => exact z.elim
  | .ok (.ret u'), z =>
    obtain ⟨v, H', I', rv, c, rfl, q'⟩ := I.after z
    obtain rfl : u' = Value.bool c := rv
    exact ⟨.bl c, H', I', rfl, q'⟩
theorem op_neO (M : EqCal X.prog X.w X.K X.mg X.base CX C k sp) (hne : PySem.W.findIn X.K (.ref C) "__ne__" = some (some (.builtin "object.__ne__"))) (hm : PySem.W.mroIn X.K C (.type "object") = some true)
    (g : X.A.guards = some []) (hr : Room j X.A) (hk : k + 1 ≤ j) (hx : Passes CX X E0) : OpR X (compareOp .NotEq) (rEqO X.K C sp true) := by
  obtain ⟨f, fd, ps, F, hs, hf, hb⟩ := M
  intro pins s σ H x y v u Q I rx ry h
  obtain ⟨a, dx, fs, t, rfl, ha, ty, hn, q⟩ := h
  obtain rfl : v = Value.ref a := rx
  obtain ⟨od, J⟩ := Ow.instAt I ha
  obtain ⟨Pk, Z, pk, _⟩ := kit_of I ry ty
  refine ne_K (tb := t) (by have := hr.un; omega) I.kIn J (Z.ty _ _ I.kIn pk) hn hne hs hf hm (wpAny_call (codeAny_mono (goG F (A := X.A.in1) g (hr.mono hk).in1 I.env0.in1 I.kIn hb (.cons (show RelV (.ref a) (.ref a) from rfl) (.cons ry .nil)) q) fun r s' z => ?_))
  match r, z with
  | .error er, z => exact hx pins σ H s er s' I z
  | .ok .next, z => exact z.elim
  | .ok .brk, z => exact z.elim
  | .ok .cont, z => exact z.elim
  | .ok (.ret u'), z =>
    obtain ⟨v, H', I', rv, c, rfl, q'⟩ := I.after z
    obtain rfl : u' = Value.bool c := rv
    exact ⟨c, rfl, .bl (!c), H', I', rfl, q'⟩
/-- the own len -/
def LenCal (P : Program) (w : World) (K : PySem.W.Frag) (mg : Str → Option Value) (base : Heap) (CX : CXT) (C : Addr) (k : Nat) (sp : Sp) : Prop :=
  ∃ (f : Addr) (fd : FuncData) (ps : List Str), FnG P w K mg base CX k f fd ps sp ∧ PySem.W.findIn K (.ref C) "__len__" = some (some (.ref f)) ∧ PySem.W.isFn K (.ref f) = true ∧ Binds K fd ps []
def rLenO (C : Addr) (sp : Sp) : List V → Hp → VK → Prop := fun xs H Q => ∃ (a dx : Addr) (fs : List (Str × V)), xs = [.ref a] ∧ H a = some (.ins C dx fs) ∧ sp [.ref a] H (fun v H' => ∃ n : Int, v = .int n ∧ 0 ≤ n ∧ n < 2 ^ 63 ∧ Q (.int n) H') E0
theorem call_lenO (M : LenCal X.prog X.w X.K X.mg X.base CX C k sp) (g : X.A.guards = some []) (hr : Room j X.A) (hk : k + 1 ≤ j) (hx : Passes CX X E0) : CallR X (.builtin "len") (rLenO C sp) := by
  obtain ⟨f, fd, ps, F, hs, hf, hb⟩ := M
  intro pins s σ H xs us Q I r h
  obtain ⟨a, dx, fs, rfl, ha, q⟩ := h
  obtain ⟨u, rfl, ru⟩ := vals1 r
  obtain rfl : u = Value.ref a := ru
  obtain ⟨od, J⟩ := Ow.instAt I ha
  obtain ⟨m, hF⟩ := I.fr
  refine PySem.W.len_K hF I.ok.mod.kin J hs hf (wpAny_call (codeAny_mono (goG F (A := X.A.in1) g (hr.mono hk).in1 I.env0.in1 I.kIn hb (.cons (show RelV (.ref a) (.ref a) from rfl) .nil) q) fun r s' z => ?_))
  match r, z with
  | .error er, z => exact hx pins σ H s er s' I z
  | .ok .next, z => exact z.elim
  | .ok .brk, z => exact z.elim
  | .ok .cont, z => exact z.elim
  | .ok (.ret u'), z =>
    obtain ⟨v, H', I', rv, n, rfl, h0, h1, q'⟩ := I.after z
    obtain ⟨t, rfl⟩ := (show ∃ t, u' = Value.int n t from rv)
    exact ⟨⟨h0, h1⟩, .int n, H', I'.tok _, ⟨_, rfl⟩, q'⟩
end
end Ob
/-! == and != of dicts whose values are data, or dicts again: both outcomes -/
namespace Ob
open PySem.Spec PyProof.Rows
section
variable {prog : Program} {w : World} {Ky : Type} [DecidableEq Ky] {knd : KeyKind prog w Ky} {A : Around} {s : Shared} {a b : Addr} {ka kb : List (Ky × Value)} {r : Bool}
theorem neP_dicts (ha : (a == sysModules) = false) (hb : (b == sysModules) = false) (da : s.heap.DictOf knd a ka) (db : s.heap.DictOf knd b kb) (hu : A.units < cLine) (hits : ka.length = kb.length → PySem.W.KeqHitsP prog w A.in1 s kb ka r)
    (E Q : Value → Shared → Prop) (h : Q (.bool (!(ka.length == kb.length && r))) s) : wpAny (model prog w) A (richCompare .NotEq (.ref a) (.ref b)) Q E s := by
  refine wpAny_richCompare_same_room (op := .NotEq) da.typeIs db.typeIs PySem.F.slot_dict_ne ?_ hu
  refine wpAny_call_entry PySem.F.slot_dict_ne da.typeIs PySem.F.entry_dict_ne ?_ (PySem.F.args_dict_ne_2 _ _)
  show wpAny _ _ (Builtin.Dict.dictSlotArgs "__ne__" ⟨[.ref a, .ref b], []⟩ >>= fun p => _) _ _ s
  unfold Builtin.Dict.dictSlotArgs
  refine wpAny_bind (wpAny_bind (wpAny_notOrdered_dict da.typeIs (show wpAny _ _ (pure (Value.ref a, Value.ref b)) _ _ s from wpAny_pure ?_)))
  refine wpAny_bind (wpAny_isInstance (T := "dict") db.typeIs PySem.F.sub_dict_dict ?_)
  rw [show (!true) = false from rfl, if_neg Bool.false_ne_true]
  refine wpAny_bind (wpAny_pure (wpAny_bind (wpAny_pure (wpAny_bind (PySem.W.samePairsP ha hb da db hits ?_)))))
  exact wpAny_pure ⟨_, rfl, (fun x => nomatch x), by simpa using h⟩
end
/-- what the values under the keys of ks say, one after another, by those in ls -/
inductive HitF (F : V → V → Bool → Prop) (ls : List (Key × V)) : List (Key × V) → Bool → Prop
  | nil : HitF F ls [] true
  | miss {k : Key} {v : V} {r : List (Key × V)} : valV ls k = none → HitF F ls ((k, v) :: r) false
  | hit {k : Key} {v y : V} {r : List (Key × V)} {e b : Bool} : valV ls k = some y → F v y e → HitF F ls r b → HitF F ls ((k, v) :: r) (e && b)
def EqB (K : PySem.W.Frag) (H : Hp) : Nat → V → V → Bool → Prop
  | 0 => fun x y b => ∃ d e, Dp K H x d ∧ Dp K H y e ∧ SeqAt.shaped d = true ∧ SeqAt.shaped e = true ∧ b = PyData.eqv d e
  | n + 1 => fun x y b => (∃ d e, Dp K H x d ∧ Dp K H y e ∧ SeqAt.shaped d = true ∧ SeqAt.shaped e = true ∧ b = PyData.eqv d e) ∨
      ∃ a c ks ls r, x = .ref a ∧ y = .ref c ∧ a ≠ c ∧ H a = some (.dK ks) ∧ H c = some (.dK ls) ∧ HitF (EqB K H n) ls ks r ∧ b = (ks.length == ls.length && r)
theorem hitF_run {P : Program} {w : World} {A : Around} {s : Shared} {F : V → V → Bool → Prop} (ih : ∀ x y b v u, F x y b → RelV x v → RelV y u → SeqAt.EqP P w A s v u b) {ls : List (Key × V)} {vb : List (Key × Value)} (rb : KV ls vb) :
    ∀ {ks : List (Key × V)} {va : List (Key × Value)} {r : Bool}, KV ks va → HitF F ls ks r → PySem.W.KeqHitsP P w A s vb va r
  | [], _, _, .nil, .nil => .nil
  | (k, v) :: ks, (k', u) :: va, _, .cons h t, z => by
    obtain ⟨h1, h2⟩ := h
    obtain rfl : k = k' := h1
    have lk : RelO (valV ls k) (valueAt vb k) := rb.val k
    cases z with
    | miss hn =>
      rw [hn] at lk
      exact .miss (RelO.none_of lk)
    | hit hy hf hr =>
      rw [hy] at lk
      obtain ⟨y', ey, ry⟩ := lk.some_of
      exact .hit ey (ih _ _ _ _ _ hf h2 ry) (hitF_run ih rb t hr)
section
variable {X : Cx} {pins : List (Addr × Obj)} {σ : L2.St} {H : Hp} {s : Shared}
theorem eqB_run (I : Inv X pins σ H s) : ∀ (n : Nat) (A : Around), A.units + n + 66 < cLine → ∀ (x y : V) (b : Bool) (v u : Value), EqB X.K H n x y b → RelV x v → RelV y u → SeqAt.EqP X.prog X.w A s v u b := by
  have dat : ∀ (A : Around), A.units + 64 < cLine → ∀ (x y : V) (b : Bool) (v u : Value), (∃ d e, Dp X.K H x d ∧ Dp X.K H y e ∧ SeqAt.shaped d = true ∧ SeqAt.shaped e = true ∧ b = PyData.eqv d e) → RelV x v → RelV y u → SeqAt.EqP X.prog X.w A s v u b := by
    rintro A hu x y b v u ⟨d, e, hd, he, sd, se, rfl⟩ rx ry
    obtain ⟨as, r1⟩ := Dp.reads I d x v hd rx
    obtain ⟨bs, r2⟩ := Dp.reads I e y u he ry
    exact (SeqAt.eqAt_reads d e A s v u as bs r1 r2 (SeqAt.canLay_of_shaped sd) (SeqAt.canLay_of_shaped se) (SeqAt.room_of_shaped sd hu)).eqP
  intro n
  induction n with
  | zero => exact fun A hu x y b v u h rx ry => dat A (by omega) x y b v u h rx ry
  | succ n ih =>
    intro A hu x y b v u h rx ry
    rcases h with h | ⟨a, c, ks, ls, r, rfl, rfl, ne, ha, hc, hf, rfl⟩
    · exact dat A (by omega) x y b v u h rx ry
    · obtain rfl : v = Value.ref a := rx
      obtain rfl : u = Value.ref c := ry
      obtain ⟨_, ya, va, ra, da⟩ := (show ObjOk X.prog X.w H s.heap a (.dK ks) from I.hok a _ ha)
      obtain ⟨_, yb, vb, rb, db⟩ := (show ObjOk X.prog X.w H s.heap c (.dK ls) from I.hok c _ hc)
      have hit := hitF_run (ih A.in1 (by show A.units + 1 + n + 66 < cLine; omega)) rb ra hf
      have e1 : va.length = ks.length := (Paired.length ra).symm
      have e2 : vb.length = ls.length := (Paired.length rb).symm
      exact SeqAt.eqP_refs ne fun E Q q => PySem.W.rcP_dicts ya yb da db (by omega) (fun _ => hit) E Q (by rw [e1, e2]; exact q)
end
section
variable {X : Cx}
def rEqX (K : PySem.W.Frag) (neg : Bool) : R2 := fun x y H Q => ∃ a c ks ls r, x = .ref a ∧ y = .ref c ∧ H a = some (.dK ks) ∧ H c = some (.dK ls) ∧ HitF (EqB K H 2) ls ks r ∧ Q (.bl (if neg = true then !(ks.length == ls.length && r) else ks.length == ls.length && r)) H
theorem op_eqX (hu : X.A.units + 80 < cLine) : OpR X (compareOp .Eq) (rEqX X.K false) := by
  intro pins s σ H x y v u Q I rx ry h
  obtain ⟨a, c, ks, ls, r, rfl, rfl, ha, hc, hf, q⟩ := h
  obtain rfl : v = Value.ref a := rx
  obtain rfl : u = Value.ref c := ry
  obtain ⟨_, ya, va, ra, da⟩ := (show ObjOk X.prog X.w H s.heap a (.dK ks) from I.hok a _ ha)
  obtain ⟨_, yb, vb, rb, db⟩ := (show ObjOk X.prog X.w H s.heap c (.dK ls) from I.hok c _ hc)
  have hit := hitF_run (eqB_run I 2 X.A.in1 (by show X.A.units + 1 + 2 + 66 < cLine; omega)) rb ra hf
  have e1 : va.length = ks.length := (Paired.length ra).symm
  have e2 : vb.length = ls.length := (Paired.length rb).symm
  exact PySem.W.rcP_dicts ya yb da db (by omega) (fun _ => hit) _ _ ⟨_, H, I, (by rw [e1, e2]; rfl), q⟩
theorem op_neX (hu : X.A.units + 80 < cLine) : OpR X (compareOp .NotEq) (rEqX X.K true) := by
  intro pins s σ H x y v u Q I rx ry h
  obtain ⟨a, c, ks, ls, r, rfl, rfl, ha, hc, hf, q⟩ := h
  obtain rfl : v = Value.ref a := rx
  obtain rfl : u = Value.ref c := ry
  obtain ⟨_, ya, va, ra, da⟩ := (show ObjOk X.prog X.w H s.heap a (.dK ks) from I.hok a _ ha)
  obtain ⟨_, yb, vb, rb, db⟩ := (show ObjOk X.prog X.w H s.heap c (.dK ls) from I.hok c _ hc)
  have hit := hitF_run (eqB_run I 2 X.A.in1 (by show X.A.units + 1 + 2 + 66 < cLine; omega)) rb ra hf
  have e1 : va.length = ks.length := (Paired.length ra).symm
  have e2 : vb.length = ls.length := (Paired.length rb).symm
  exact neP_dicts ya yb da db (by omega) (fun _ => hit) _ _ ⟨_, H, I, (by rw [e1, e2]; rfl), q⟩
end
end Ob
/-! len(set(t)) of a tuple of texts: how many different ones -/
namespace Ss
open PySem.Spec PyProof.Rows
/-- how many different texts are among the first i -/
def dcN (xs : List Str) : Nat → Nat
  | 0 => 0
  | i + 1 => if (xs.take i).any (· == xs.getD i Str.empty) = true then dcN xs i else dcN xs i + 1
theorem dcN_le (xs : List Str) : ∀ i, dcN xs i ≤ i
  | 0 => Nat.le_refl _
  | i + 1 => by
    have := dcN_le xs i
    show (if (xs.take i).any (· == xs.getD i Str.empty) = true then dcN xs i else dcN xs i + 1) ≤ i + 1
    split <;> omega
theorem any_eq {xs : List Str} {x : Str} : xs.any (· == x) = true ↔ x ∈ xs := by
  rw [List.any_eq_true]
  exact ⟨fun ⟨y, m, e⟩ => by rw [← beq_iff_eq.mp e]; exact m, fun m => ⟨x, m, beq_self_eq_true x⟩⟩
theorem getD_at {xs : List Str} {i : Nat} (h : i < xs.length) : xs.getD i Str.empty = xs[i] := by
  rw [List.getD_eq_getElem?_getD, List.getElem?_eq_getElem h] <;> rfl
theorem dcN_nodup {xs : List Str} (nd : xs.Nodup) : ∀ i, i ≤ xs.length → dcN xs i = i
  | 0, _ => rfl
  | i + 1, h => by
    show (if (xs.take i).any (· == xs.getD i Str.empty) = true then dcN xs i else dcN xs i + 1) = i + 1
    have hi : i < xs.length := h
    have ne : ¬ (xs.take i).any (· == xs.getD i Str.empty) = true := fun z => by
      rw [any_eq, getD_at hi] at z
      obtain ⟨j, hj, e⟩ := List.mem_iff_getElem.mp z
      rw [List.getElem_take] at e
      rw [List.length_take] at hj
      have := (List.getElem_inj nd).mp e
      omega
    rw [if_neg ne, dcN_nodup nd i (Nat.le_of_lt hi)]
theorem nodup_dcN {xs : List Str} : ∀ i, i ≤ xs.length → dcN xs i = i → (xs.take i).Nodup
  | 0, _, _ => by simp
  | i + 1, h, e => by
    have hi : i < xs.length := h
    have e' : (if (xs.take i).any (· == xs.getD i Str.empty) = true then dcN xs i else dcN xs i + 1) = i + 1 := e
    have le := dcN_le xs i
    by_cases c : (xs.take i).any (· == xs.getD i Str.empty) = true
    · rw [if_pos c] at e'; omega
    · rw [if_neg c] at e'
      have ih := nodup_dcN i (Nat.le_of_lt hi) (by omega)
      have nm : xs[i] ∉ xs.take i := fun z => c (by rw [any_eq, getD_at hi]; exact z)
      rw [List.take_add_one, List.getElem?_eq_getElem hi]
      rw [List.nodup_append]
      refine ⟨ih, by simp, fun a ha b hb z => ?_⟩
      have hb : b = xs[i] := by simpa using hb
      subst z hb
      exact nm ha
theorem dc_iff {xs : List Str} : dcN xs xs.length = xs.length ↔ xs.Nodup := by
  refine ⟨fun e => ?_, fun nd => dcN_nodup nd _ (Nat.le_refl _)⟩
  have := nodup_dcN xs.length (Nat.le_refl _) e
  rwa [List.take_length] at this
section
variable {P : Program} {w : World} {A : Around} {E : Value → Shared → Prop} {s : Shared}
theorem upd_texts {I : Addr} {fp wr : List Addr} {G : Array GenState → Array GenState → Prop} {n : Nat} {Pv : Nat → Value → Prop} {St : Nat → Shared → Prop} {R : Result → Shared → Prop} (W : WalksS P w A.in1 I fp wr G n Pv St) (S : Addr) (hSf : S ∉ fp)
    (xs : List Str) (hn : n ≤ xs.length) (hb : n + 1 < scanBound) (hval : ∀ i v, Pv i v → ∃ t, v = .str (xs.getD i Str.empty) t) : ∀ (k i : Nat) (s : Shared), n - i = k → i ≤ n → St i s → s.heap.SetOf (PySem.strKind P w) S (fun z => (xs.take i).any (· == z)) (dcN xs i) →
      (∀ s', Moved (S :: wr) G s s' → s'.heap.SetOf (PySem.strKind P w) S (fun z => (xs.take n).any (· == z)) (dcN xs n) → R (.ok (.ret .none)) s') → codeAny (model P w) A (.builtin "set.update.loop" ⟨[.ref S, .ref I], []⟩) R s := by
  have hSw : S ∉ wr := fun h => hSf (W.sub _ h)
  have more : ∀ b ∈ wr, b ∈ S :: wr := fun b hb => List.mem_cons_of_mem _ hb
  have stay : ∀ {s1 s2 : Shared} {G' : Array GenState → Array GenState → Prop} {p : Str → Bool} {c : Nat}, Moved wr G' s1 s2 → s1.heap.SetOf (PySem.strKind P w) S p c → s2.heap.SetOf (PySem.strKind P w) S p c := fun hm ⟨o, es, ep, t, ho, rest⟩ => ⟨o, es, ep, t, hm.heap S _ hSw ho, rest⟩
  intro k
  induction k with
  | zero =>
    intro i s hk hi hst hS hR
    obtain rfl : i = n := by omega
    refine codeAny_builtin F.entry_set_update_loop ?_
    rw [Around.under_plainId F.plain_set_update_loop _]
    exact (show wpAny _ A.in1 (pyNext (.ref I) >>= _) _ _ s from wpAny_bind (W.done s _ _ hst fun s' hm => (show wpAny _ A.in1 (ret Value.none) _ _ s' from wpAny_pure (hR s' (hm.mono more) (stay hm hS)))))
  | succ k ih =>
    intro i s hk hi hst hS hR
    have hlt : i < n := by omega
    refine codeAny_builtin F.entry_set_update_loop ?_
    rw [Around.under_plainId F.plain_set_update_loop _]
    refine (show wpAny _ A.in1 (pyNext (.ref I) >>= _) _ _ s from wpAny_bind (W.item i s _ _ hlt hst fun v s' hP hst' hm => ?_))
    obtain ⟨t, rfl⟩ := hval i v hP
    have hS1 := stay hm hS
    refine (show wpAny _ A.in1 (holding [Value.str (xs.getD i Str.empty) t] (setAdd S (.str (xs.getD i Str.empty) t)) >>= _) _ _ s' from wpAny_bind (wpAny_holding ?_))
    unfold setAdd
    refine wpAny_holding (wpAny_bind ((PySem.strKind P w).pyHash (k := xs.getD i Str.empty) (strKind_is _ _ _ _) ?_))
    have hle := dcN_le xs i
    refine wpAny_setAddHashed_of (knd := PySem.strKind P w) (s := { s' with toks := s'.toks + 1 }) (strKind_is _ _ _ _) rfl hS1 (by omega) fun h' hsb hS2 => ?_
    have hS3 : h'.SetOf (PySem.strKind P w) S (fun z => (xs.take (i + 1)).any (· == z)) (dcN xs (i + 1)) := by
      refine SetOf_congr hS2 (fun z => ?_) rfl
      have hx : i < xs.length := by omega
      show ((xs.take i).any (· == z) || decide (z = xs.getD i Str.empty)) = (xs.take (i + 1)).any (· == z)
      rw [List.take_add_one, List.getElem?_eq_getElem hx, getD_at hx, List.any_append]
      congr 1
      show decide (z = xs[i]) = ((xs[i] == z) || false)
      rw [Bool.or_false, Bool.eq_iff_iff, decide_eq_true_iff, beq_iff_eq]
      exact eq_comm
    refine wpAny_pure ⟨plainId_quiet F.plain_set_update_loop _, ih (i + 1) _ (by omega) hlt (W.frame _ s' _ _ hst' (Nat.le_succ _) fun b hb o e => ?_) hS3 fun s'' hm2 hS4 => ?_⟩
    · exact (hsb.2 b (fun h : b = S => hSf (by rw [← h]; exact hb))).trans e
    · refine hR s'' (Moved.trans W.gtrans ((hm.mono more).then_heap (Nat.le_succ _) fun b o hb e => ?_) hm2) hS4
      exact (hsb.2 b (fun h : b = S => hb (by rw [h]; exact List.mem_cons_self))).trans e
abbrev setO (led : Bool) : Obj := { cls := .type "set", dict := none, data := .set #[] 0 (.fresh 0 0 led) }
set_option maxHeartbeats 8000000 in
theorem set_texts {l : Addr} {items : Array Value} {xs : List Str} {Q : Value → Shared → Prop} (hh : A.handled = none) (hl : s.heap.IsTuple l items) (hi : StrsAre items.toList xs) (hb : xs.length + 1 < scanBound)
    (h : ∀ (h' : Heap) (tk : Nat), h'.SetOf (PySem.strKind P w) s.heap.objs.size (fun z => xs.any (· == z)) (dcN xs xs.length) → (∀ b o, b < s.heap.objs.size → s.heap.get? b = some o → h'.get? b = some o) → Q (.ref s.heap.objs.size) { s with heap := h', toks := tk }) :
    wpAny (model P w) A (call (.type "set") [.ref l]) Q E s := by
  obtain ⟨c, tl, hmro⟩ := F.called_set.mro
  have hmade := F.called_set.made; have hsub := F.called_set.sub
  refine wpAny_call (codeAny_of_tree (show wpAny _ _ (callAny (.type "set") _) _ _ _ from wpAny_pure ⟨Code.quiet_builtin _ (by decide +kernel), codeAny_builtin F.entry_type_call ?_⟩))
  rw [Around.under_plain (weight_type_call_type "set" [.ref l] []) rfl]
  have h1 := F.called_set.notType; have h2 := F.called_set.canCreate; have hct := F.typeCall_set_1 (.ref l)
  repeat (any_goals (first | assumption | wp_step))
  have hsz : xs.length = items.size := by rw [← StrsAre.len_eq hi, Array.length_toList]
  refine codeAny_mono (code_set_new_1 (.ref l) (E := E) (Q₁ := fun obj s₁ => ∃ led : Bool, obj = .ref s.heap.objs.size ∧ s₁ = { s with heap := s.heap.push (setO led) }) fun led => ⟨led, rfl, rfl⟩) fun r s₁ hr => ?_
  match r, hr with
  | .error e, hr => exact hr
  | .ok .next, hr => exact hr.elim
  | .ok .brk, hr => exact hr.elim
  | .ok .cont, hr => exact hr.elim
  | .ok (.ret obj), hr =>
    obtain ⟨led, rfl, rfl⟩ := hr
    have hS : (s.heap.push (setO led)).get? s.heap.objs.size = some (setO led) := Heap.get?_push_size _ rfl
    have hT : Shared.TypeIs { s with heap := s.heap.push (setO led) } (.ref s.heap.objs.size) "set" := ⟨_, hS, rfl⟩
    have hli := F.called_set.init.lookup; have hbi := F.called_set.init.bind (.ref s.heap.objs.size)
    repeat (any_goals (first | assumption | wp_step))
    refine codeAny_mono (codeAny_call_builtin (R := wants (fun r s₂ => r = .none ∧ ∃ h' tk, s₂ = { s with heap := h', toks := tk } ∧ h'.SetOf (PySem.strKind P w) s.heap.objs.size (fun z => xs.any (· == z)) (dcN xs xs.length) ∧ (∀ b o, b < s.heap.objs.size → s.heap.get? b = some o → h'.get? b = some o)) E)
      F.called_set.init.plain F.entry_set_init (check_set_init_1 hT ?_)) fun r₂ s₂ hr₂ => ?_
    · obtain ⟨⟨ocls, odict, odata, oslots⟩, hol, hcl, nl, hdl⟩ := hl
      simp only at hcl hdl
      subst hcl hdl
      have hol' : (s.heap.push (setO led)).get? l = some { cls := .type "tuple", dict := odict, data := .seq items nl, slots := oslots } := Heap.get?_push_of_some _ hol
      have hsls := F.sub_tuple_set; have hslf := F.sub_tuple_frozenset; have hne : (Value.type "tuple" == Value.type "dict") = false := by decide
      have hl1 : (s.heap.push (setO led)).IsTuple l items := ⟨_, hol', rfl, nl, rfl⟩
      unfold Builtin.«set.__init__» noKeywords Builtin.Frozenset.updateFrom
      generalize hPI : pyIter = PI
      wp_walk
      subst hPI
      refine wpAny_pyIter_tuple hl1 (wpAny_bind (wpAny_runValue ?_))
      have hlS : l < s.heap.objs.size := Heap.lt_size hol
      have pz : (s.heap.push (setO led)).objs.size = s.heap.objs.size + 1 := Heap.size_push ..
      have hh3 : A.in1.in1.in1.handled = none := by simp [hh]
      have hneI : l ≠ (s.heap.push (setO led)).objs.size := by rw [Heap.size_push]; exact Nat.ne_of_lt (Nat.lt_succ_of_lt hlS)
      have hSf : s.heap.objs.size ∉ [(s.heap.push (setO led)).objs.size, l] := by
        rw [Heap.size_push]; simp only [List.mem_cons, List.not_mem_nil, or_false, not_or]
        exact ⟨Nat.ne_of_lt (Nat.lt_succ_self _), Nat.ne_of_gt hlS⟩
      have hval : ∀ (i : Nat) (v : Value), items[i]? = some v → ∃ t, v = .str (xs.getD i Str.empty) t := fun i v hv => SS.strs_at hi i v (by rw [Array.getElem?_toList]; exact hv)
      refine upd_texts ((Walks.tuple hh3 _ l hneI items).toS) s.heap.objs.size hSf xs (by omega) (by omega) hval (items.size - 0) 0 _ (by omega) (Nat.zero_le _) ⟨⟨_, Heap.get?_push_size _ rfl, rfl, rfl⟩, (hl1.push _)⟩ ?hS0 ?hR
      case hS0 =>
        have hget : ((s.heap.push (setO led)).push { cls := .type "tuple_iterator", data := .fields #[.ref l, .int 0 0] }).get? s.heap.objs.size = some (setO led) := Heap.get?_push_of_some _ hS
        exact SetOf_congr ((setObjOf_fresh (knd := PySem.strKind P w) led).setOf hget (by unfold scanBound; omega)) (fun _ => rfl) rfl
      case hR =>
        intro s' hm hS'
        obtain ⟨h', g', d', tk', os'⟩ := s'
        obtain rfl : g' = s.gens := hm.gens
        obtain rfl : d' = s.drawn := hm.drawn
        obtain rfl : os' = s.os := hm.os
        refine (show wpAny _ _ _ _ _ _ from wpAny_pure (show wpAny _ _ (ret Value.none) _ _ _ from wpAny_pure ⟨rfl, h', tk', rfl, ?_, fun b o hb e => ?_⟩))
        · rw [← hsz, List.take_length] at hS'
          exact hS'
        · refine hm.heap b o ?_ (Heap.get?_push_of_some _ (Heap.get?_push_of_some _ e))
          rw [Heap.size_push]; simp only [List.mem_cons, List.not_mem_nil, or_false, not_or]
          exact ⟨Nat.ne_of_lt hb, Nat.ne_of_lt (Nat.lt_succ_of_lt hb)⟩
    · match r₂, hr₂ with
      | .error e, hr₂ => exact hr₂
      | .ok .next, hr₂ => exact hr₂.elim
      | .ok .brk, hr₂ => exact hr₂.elim
      | .ok .cont, hr₂ => exact hr₂.elim
      | .ok (.ret r), hr₂ =>
        obtain ⟨rfl, h', tk, rfl, hS', hk'⟩ := hr₂
        repeat (any_goals (first | assumption | wp_step))
        exact h _ _ hS' hk'
end
section
variable {X : Cx}
def tLenSetT (K : PySem.W.Frag) (ta : TE) : TE := fun σ H Q => ta σ H fun x H1 => ∃ (l : Addr) (xs : List Str), x = .ref l ∧ SqT K H1 l (xs.map V.str) ∧ xs.length ≤ 1000 ∧ Q (.int (dcN xs xs.length : Nat)) H1
theorem pe_lenSetT {a : Expr} {ta : TE} {p p2 q pos : Pos} (hc : X.calm = true) (hm : X.mg "len" = none) (hm2 : X.mg "set" = none) (ha : PE X a ta) (hg : Gl X "len" := by rfl) (hg2 : Gl X "set" := by rfl)
    (na : starEach [a] X.env = (false, eval a X.env) :: starEach [] X.env := by rfl) : PE X (.Call (.Name "len" p) [.Call (.Name "set" p2) [a] [] q] [] pos) (tLenSetT X.K ta) := by
  refine ⟨fun pins s σ H Q I h => Call_ (ld_blt I hg hm boot_len (callWith_builtin1 (args_cons ?_ rfl) rfl rfl))⟩
  refine Call_ (ld_blt I hg2 hm2 boot_set (callWith_type1 (args_cons (thn (ha.run pins s σ H _ I h) fun v s1 ⟨x, H1, I1, r1, q1⟩ => args_nil ?_) na) na rfl))
  obtain ⟨l, xs, rfl, hq, hl, q1⟩ := q1
  cases r1
  obtain ⟨its, r, pl, hz⟩ := I1.tuple hq
  have sb : (1000 : Nat) + 1 < scanBound := by decide +kernel
  refine set_texts (I1.ok.hd hc) pl (by simpa using strsAre_of r) (by omega) fun h' tk hS hk => args_nil ?_
  obtain ⟨o, es, ep, t, ho, hex, hd, _, _, _, hf, hn⟩ := hS
  have I2 : Inv X pins σ H1 { s1 with heap := h', toks := tk } := I1.kept fun b o e => hk b o (Heap.lt_size e) e
  have le := dcN_le xs xs.length
  exact call_len_set ho hex hd hf (by rw [hn] <;> omega) ⟨.int (dcN xs xs.length : Nat), H1, I2.tok _, ⟨_, by rw [hn]⟩, q1⟩
end
end Ss
namespace Rd
open PySem.Spec PyProof.Rows
section
variable {K : PySem.W.Frag} {σ : L2.St} {H H' : Hp} {α β : Type}
theorem tupS {a : Addr} {xs : List V} (s : Same H H') (h : SqT K H a xs) : SqT K H' a xs := h.imp (fun r => r.imp (s _ _) (fun ⟨o, e⟩ => ⟨o, s _ _ e⟩)) id
theorem lcW {tl te : TE} {g : TG} {tt : TT} {vs : List Nat} {Q : VK} (k : tl σ H fun x H1 => tLc (iTup K (tC x)) g tt te vs σ H1 Q) : tLc (iTup K tl) g tt te vs σ H Q := k
/-- a comprehension over a tuple of things -/
theorem lcT {tl te : TE} {tt : TT} {vs : List Nat} {j : Nat} {Q : VK} {a : Addr} {xs : List V} {bs : List α} (A : α → V → Hp → Prop) (B : β → V → Hp → Prop) (f : α → Bool) (g : α → β)
    (htl : ∀ R : V → Hp → Prop, R (.ref a) H → tl σ H R) (hl : SqT K H a xs) (hA : Stays A) (hB : Stays B) (pr : Paired (fun b x => A b x H) bs xs) (hz : xs.length ≤ 10000)
    (hw : ∀ x, wipe ((wipe σ vs).set j (some x)) vs = wipe σ vs)
    (turn : ∀ b x H1 (R : Bool → Hp → Prop), b ∈ bs → A b x H → A b x H1 → Same H H1 → (∀ H2, Same H1 H2 → R (f b) H2) → tt ((wipe σ vs).set j (some x)) H1 R)
    (elem : ∀ b x H1 (R : VK), b ∈ bs → f b = true → A b x H → A b x H1 → Same H H1 → (∀ y H2, Same H1 H2 → Off H H1 H2 (B (g b)) y → R y H2) → te ((wipe σ vs).set j (some x)) H1 R)
    (fin : ∀ D ys H1, H D = none → Same H H1 → H1 D = some (.lst ys) → Paired (fun c y => B c y H1) ((bs.filter f).map g) ys → Q (.ref D) H1) :
    tLc (iTup K tl) (gName j) tt te vs σ H Q := by
  have hlen := pair_len pr
  refine htl _ ⟨a, rfl, ⟨xs, hl⟩, fun D hD => ?_⟩
  refine lc_tup (K := K) (a := a) (xs := xs) (fun i H1 => ∃ ys, H1 D = some (.lst ys) ∧ ys.length ≤ i ∧ Same H H1 ∧ ∀ o, Paired (fun c y => B c y (upd H1 D o)) (((bs.take i).filter f).map g) ys) ?_ ?_ ?_ ?_
  · exact ⟨[], upd_same, Nat.le_refl _, sNew hD, fun _ => .nil⟩
  · rintro i H1 hi ⟨ys, _, _, s, _⟩
    exact tupS s hl
  · rintro i x H1 hx ⟨ys, hd, hy, s, pq⟩
    have hi : i < xs.length := (List.getElem?_eq_some_iff.mp hx).1
    obtain ⟨b, hb, hab⟩ := pair_get pr hx
    have mem : b ∈ bs := List.mem_of_getElem? hb
    have tk : bs.take (i + 1) = bs.take i ++ [b] := take_succ hb
    show wipe ((wipe σ vs).set j (some x)) vs = wipe σ vs ∧ _
    refine ⟨hw x, turn b x H1 _ mem hab (hA _ _ _ _ s hab) s fun H2 s2 => ?_⟩
    cases hf : f b with
    | false =>
      rw [if_neg Bool.false_ne_true]
      refine ⟨ys, s2 _ _ hd, by omega, s.trans s2, fun o => ?_⟩
      rw [tk, List.filter_append, List.filter_cons_of_neg (by simp [hf]), List.filter_nil, List.append_nil]
      exact pair_imp (fun c y => hB c y _ _ (sUpd s2)) (pq o)
    | true =>
      rw [if_pos rfl]
      refine elem b x H2 _ mem hf hab (hA _ _ _ _ (s.trans s2) hab) (s.trans s2) fun y H3 s3 hy3 => ?_
      have hd3 := s3 _ _ (s2 _ _ hd)
      have s4 : Same H H3 := (s.trans s2).trans s3
      refine ⟨ys, hd3, szl (by omega), ys ++ [y], upd_same, by rw [List.length_append]; simp; omega, sMut s4 hD, fun o => ?_⟩
      rw [tk, List.filter_append, List.filter_cons_of_pos (by simp [hf]), List.filter_nil, List.map_append, upd_upd]
      exact (pair_imp (fun c z h => hB c z _ _ (sUpd (s2.trans s3)) h) (pq o)).snoc (hy3 D o hD (by rw [s2 _ _ hd]; simp))
  · rintro H1 ⟨ys, hd, hy, s, pq⟩
    refine fin D ys H1 hD s hd ?_
    have pq := pq (.lst ys)
    rw [← hlen, List.take_length, upd_id hd] at pq
    exact pq
end
end Rd
namespace Dt
open PyProof.Rows W6
def dS (r : List Str) : PyData := .list (r.map PyData.str)
def dR (rows : List (List Str)) : PyData := .list (rows.map dS)
def dO : Option (List Str) → PyData
  | none => .none
  | some l => dS l
/-- texts as the laws make them -/
structure Ts (r : List Str) : Prop where
  n : r.length ≤ 100
  w : ∀ w ∈ r, W 100 w
structure Rs (rows : List (List Str)) : Prop where
  n : rows.length ≤ 100
  r : ∀ r ∈ rows, Ts r
theorem strOk_of {n : Nat} {w : Str} (h : W n w) : PyData.strOk w = true := by
  unfold PyData.strOk
  rw [Array.all_eq_true']
  intro c hc
  have := h.low c (by simpa using hc)
  exact decide_eq_true (by omega)
theorem lay_strs : ∀ {r : List Str}, (∀ w ∈ r, W 100 w) → PyData.canLayAll0 (r.map PyData.str) = true
  | [], _ => rfl
  | a :: r, h => by
    have := strOk_of (h a (by simp))
    simp [PyData.canLayAll0, PyData.canLay0, this, lay_strs (r := r) fun w hw => h w (by simp [hw])]
theorem lay_rows : ∀ {rows : List (List Str)}, (∀ r ∈ rows, Ts r) → PyData.canLayAll0 (rows.map dS) = true
  | [], _ => rfl
  | a :: r, h => by
    have := lay_strs (h a (by simp)).w
    simp [PyData.canLayAll0, PyData.canLay0, dS, this]
    exact lay_rows (rows := r) fun w hw => h w (by simp [hw])
theorem dep_strs : ∀ r : List Str, PyData.depthAll (r.map PyData.str) ≤ 1
  | [] => by simp [PyData.depthAll]
  | a :: r => by simp [PyData.depthAll, PyData.depth]; exact dep_strs r
theorem dep_rows : ∀ rows : List (List Str), PyData.depthAll (rows.map dS) ≤ 2
  | [] => by simp [PyData.depthAll]
  | a :: r => by
    have := dep_rows r
    have := dep_strs a
    simp [PyData.depthAll, PyData.depth, dS]
    omega
theorem shaped_dS {r : List Str} (h : ∀ w ∈ r, W 100 w) : SeqAt.shaped (dS r) = true := by
  have := dep_strs r
  simp [SeqAt.shaped, dS, PyData.canLay0, lay_strs h, PyData.depth]
  omega
theorem shaped_dR {r : List (List Str)} (h : ∀ x ∈ r, Ts x) : SeqAt.shaped (dR r) = true := by
  have := dep_rows r
  simp [SeqAt.shaped, dR, PyData.canLay0, lay_rows h, PyData.depth]
  omega
theorem shaped_dO {o : Option (List Str)} (h : ∀ l, o = some l → ∀ w ∈ l, W 100 w) : SeqAt.shaped (dO o) = true := by
  cases o with
  | none => rfl
  | some l => exact shaped_dS (h l rfl)
theorem show_strs : ∀ r : List Str, PyData.showableAll (r.map PyData.str) = true
  | [] => rfl
  | a :: r => by simp [PyData.showableAll, PyData.showable, show_strs r]
theorem show_rows : ∀ rows : List (List Str), PyData.showableAll (rows.map dS) = true
  | [] => rfl
  | a :: r => by simp [PyData.showableAll, PyData.showable, dS, show_strs]; exact show_rows r
theorem nodict_strs : ∀ r : List Str, PyData.hasDictAll (r.map PyData.str) = false
  | [] => rfl
  | a :: r => by simp [PyData.hasDictAll, PyData.hasDict, nodict_strs r]
theorem nodict_rows : ∀ rows : List (List Str), PyData.hasDictAll (rows.map dS) = false
  | [] => rfl
  | a :: r => by simp [PyData.hasDictAll, PyData.hasDict, dS, nodict_strs]; exact nodict_rows r
theorem show_dR (r : List (List Str)) : (dR r).showable = true := by simp [dR, PyData.showable, show_rows]
theorem nodict_dR (r : List (List Str)) : (dR r).hasDict = false := by simp [dR, PyData.hasDict, nodict_rows]
theorem deep_dR (r : List (List Str)) : (dR r).depth ≤ 60 := by
  have := dep_rows r
  simp [dR, PyData.depth]
  omega
theorem show_dO (o : Option (List Str)) : (dO o).showable = true := by
  cases o with
  | none => rfl
  | some l => simp [dO, dS, PyData.showable, show_strs]
theorem nodict_dO (o : Option (List Str)) : (dO o).hasDict = false := by
  cases o with
  | none => rfl
  | some l => simp [dO, dS, PyData.hasDict, nodict_strs]
theorem deep_dO (o : Option (List Str)) : (dO o).depth ≤ 60 := by
  cases o with
  | none => simp [dO, PyData.depth]
  | some l =>
    have := dep_strs l
    simp [dO, dS, PyData.depth]
    omega
theorem from_le : ∀ (ts : List Str) (k : Nat) (acc : Str), (textFrom k acc ts).length ≤ acc.length + (ts.map fun t => t.length + 2).sum
  | [], k, acc => Nat.le_refl _
  | t :: r, k, acc => by
    have ih := from_le r (k + 1) (acc ++ (if k > 0 then ", " else "" : String) ++ t)
    have e : (acc ++ (if k > 0 then ", " else "" : String) ++ t).length ≤ acc.length + 2 + t.length := by
      rw [strLen_append, strLen_append]
      have : (Str.ofString (if k > 0 then ", " else "")).length ≤ 2 := by split <;> decide +kernel
      omega
    rw [List.map_cons, List.sum_cons]
    show (textFrom (k + 1) _ r).length ≤ _
    omega
theorem list_le {ts : List Str} {m : Nat} (h : ∀ t ∈ ts, t.length + 2 ≤ m) : (listText ts).length ≤ 2 + ts.length * m := by
  have s : ∀ l : List Str, (∀ t ∈ l, t.length + 2 ≤ m) → (l.map fun t => t.length + 2).sum ≤ l.length * m := by
    intro l
    induction l with
    | nil => intro _; simp
    | cons a l ih =>
      intro h
      have h1 := h a (by simp)
      have h2 := ih fun t ht => h t (by simp [ht])
      simp only [List.map_cons, List.sum_cons, List.length_cons, Nat.succ_mul]
      omega
  have a := from_le ts 0 "["
  have b := s ts h
  have e : (listText ts).length = (textFrom 0 "[" ts).length + 1 := by
    unfold listText
    rw [strLen_append]
    rfl
  have e1 : Str.length "[" = 1 := by decide +kernel
  omega
theorem shownAll_map : ∀ ds : List PyData, PyData.shownAll ds = ds.map PyData.shown
  | [] => rfl
  | d :: ds => by rw [PyData.shownAll, shownAll_map ds]; rfl
theorem shown_str {w : Str} (h : W 100 w) : (PyData.shown (.str w)).length ≤ 1002 := by
  have := StrLaws.reprText_len w fun c hc => Nat.lt_of_lt_of_le (h.low c hc) (by decide)
  have := h.len
  rw [PyData.shown]
  omega
theorem shown_dS {r : List Str} (h : Ts r) : (dS r).shown.length ≤ 100402 := by
  unfold dS
  rw [PyData.shown, shownAll_map]
  have := list_le (ts := (r.map PyData.str).map PyData.shown) (m := 1004) (by
    intro t ht
    simp only [List.map_map, List.mem_map, Function.comp] at ht
    obtain ⟨w, hw, rfl⟩ := ht
    have := shown_str (h.w w hw)
    omega)
  rw [List.length_map, List.length_map] at this
  have := h.n
  omega
theorem shown_dR {rows : List (List Str)} (h : Rs rows) : (dR rows).shown.length ≤ sizeLine := by
  unfold dR
  rw [PyData.shown, shownAll_map]
  have := list_le (ts := (rows.map dS).map PyData.shown) (m := 100404) (by
    intro t ht
    simp only [List.map_map, List.mem_map, Function.comp] at ht
    obtain ⟨w, hw, rfl⟩ := ht
    have := shown_dS (h.r w hw)
    omega)
  rw [List.length_map, List.length_map] at this
  have := h.n
  have e : sizeLine = 16777216 := sizeLine_eq
  omega
theorem eqv_strs : ∀ a b : List Str, PyData.eqvAll (a.map PyData.str) (b.map PyData.str) = decide (a = b)
  | [], [] => rfl
  | [], _ :: _ => by simp [PyData.eqvAll]
  | _ :: _, [] => by simp [PyData.eqvAll]
  | x :: a, y :: b => by
    have ih := eqv_strs a b
    simp only [List.map_cons, PyData.eqvAll, PyData.eqv, ih]
    by_cases e : x = y
    · subst e; simp
    · simp [e]
theorem eqv_dS (a b : List Str) : PyData.eqv (dS a) (dS b) = decide (a = b) := by
  show PyData.eqv (.list _) (.list _) = _
  rw [PyData.eqv, eqv_strs]
theorem eqv_rows : ∀ a b : List (List Str), PyData.eqvAll (a.map dS) (b.map dS) = decide (a = b)
  | [], [] => rfl
  | [], _ :: _ => by simp [PyData.eqvAll]
  | _ :: _, [] => by simp [PyData.eqvAll]
  | x :: a, y :: b => by
    have ih := eqv_rows a b
    simp only [List.map_cons, PyData.eqvAll, eqv_dS, ih]
    by_cases e : x = y
    · subst e; simp
    · simp [e]
theorem eqv_dR (a b : List (List Str)) : PyData.eqv (dR a) (dR b) = decide (a = b) := by
  show PyData.eqv (.list _) (.list _) = _
  rw [PyData.eqv, eqv_rows]
theorem eqv_dO (a b : Option (List Str)) : PyData.eqv (dO a) (dO b) = decide (a = b) := by
  cases a with
  | none =>
    cases b with
    | none => rfl
    | some l => show PyData.eqv .none (.list _) = _; simp [PyData.eqv]
  | some k =>
    cases b with
    | none => show PyData.eqv (.list _) .none = _; simp [PyData.eqv]
    | some l => rw [show dO (some k) = dS k from rfl, show dO (some l) = dS l from rfl, eqv_dS]; simp
section
variable {K : PySem.W.Frag} {H : Hp}
theorem dp_strs : ∀ r : List Str, DpAll K H (r.map V.str) (r.map PyData.str)
  | [] => .nil
  | a :: r => .cons (.str a) (dp_strs r)
theorem dp_S {p : Addr} {r : List Str} (h : SqL K H p (r.map V.str)) : Dp K H (.ref p) (dS r) := .lst h (dp_strs r)
end
theorem shown_dO {o : Option (List Str)} (h : ∀ l, o = some l → Ts l) : (dO o).shown.length ≤ sizeLine := by
  cases o with
  | none => show (PyData.shown .none).length ≤ _; rw [PyData.shown]; exact Nat.le_trans (by decide +kernel : Str.length "None" ≤ 4) (by decide)
  | some l => exact Nat.le_trans (shown_dS (h l rfl)) (by decide)
end Dt
/-! a, *b = t : a target with a star, the value a tuple -/
namespace Sr
open PySem PySem.Spec PySem.Calls PyProof.Rows PySem.W
section
variable {prog : Program} {w : World} {A : Around} {E : Value → Shared → Prop} {s : Shared}
theorem star_tup {a : Addr} {us : Array Value} {n i : Nat} {Q : List Value → Shared → Prop} (ha : IsTup s.heap a us) (hh : A.handled = none) (hi : i < n) (hn : n ≤ us.size + 1) (hz : us.size ≤ 16384)
    (q : ∀ (g : Heap) (tk : Nat), (∀ b o, s.heap.get? b = some o → g.get? b = some o) → Q (us.toList.take i ++ [.ref g.objs.size] ++ (us.toList.drop i).drop (us.size + 1 - n)) { s with heap := g.push { cls := .type "list", data := .seq ((us.toList.drop i).take (us.size + 1 - n)).toArray }, toks := tk }) :
    wpAny (model prog w) A (unpackItems (.ref a) n (some i)) Q E s := by
  obtain ⟨oa, eoa, _⟩ := id ha
  have lt_a := Heap.lt_size eoa
  have ne_a : a ≠ s.heap.objs.size := Nat.ne_of_lt lt_a
  unfold unpackItems notIterableAtAll
  refine wpAny_bind (wpAny_bind (wpAny_specialOf ha.typeIs slot_tuple_iter.lookup (wpAny_pure ?_)))
  refine wpAny_bind (wpAny_holding (iter_tuple ha ?_))
  refine wpAny_bind (wpAny_holding (draw_tuple ne_a i 0 _ _ ⟨_, Heap.get?_push_size _ rfl, rfl, rfl⟩ (ha.push _) (by omega) fun g1 it1 keep1 => ?_))
  have ha1 : IsTup g1 a us := (ha.push _).extBut keep1.extBut ne_a
  rw [Nat.zero_add] at it1
  obtain ⟨o1, eo1, _⟩ := id it1
  obtain ⟨o2, eo2, _⟩ := id ha1
  rw [List.drop_zero]
  have len1 : (us.toList.take i).length = i := by
    rw [List.length_take, Array.length_toList]
    omega
  rw [if_neg (show ¬ (us.toList.take i).length < i by omega)]
  refine wpAny_bind (wpAny_holding (kun_collect (s := { s with heap := g1 }) (T := "tuple_iterator") (.inr (.inr (.inr rfl))) (Walks.tuple (A := A.in1) hh s.heap.objs.size a ne_a us) (fun j u st => st.1.typeIs) (k := i) (by omega) ⟨it1, ha1⟩ (Heap.lt_size eo1) (Heap.lt_size eo2)
    (fun g2 tk keep2 => ?_) (by rw [sizeLine_eq]; omega)))
  have len2 : (us.toList.drop i).length = us.size - i := by
    rw [List.length_drop, Array.length_toList]
  have mid : (us.toList.drop i).length - (n - 1 - i) = us.size + 1 - n := by omega
  show wpAny _ _ (if (us.toList.drop i).length < n - 1 - i then _ else _) _ _ _
  rw [if_neg (by omega)]
  show wpAny _ _ (newList ((us.toList.drop i).take ((us.toList.drop i).length - (n - 1 - i))) >>= fun d => pure (us.toList.take i ++ [d] ++ (us.toList.drop i).drop ((us.toList.drop i).length - (n - 1 - i)))) _ _ _
  rw [mid]
  refine wpAny_bind (wpAny_newList (s := { s with heap := g2, toks := tk }) (wpAny_pure (q g2 tk fun b o e => ?_)) ?_)
  · have hb : b ≠ s.heap.objs.size := Nat.ne_of_lt (Heap.lt_size e)
    exact keep2 b o hb (keep1.extBut b o hb (Heap.get?_push_of_some _ e))
  · rw [List.length_take, len2, sizeLine_eq]
    omega
end
section
open L2
variable {X : Cx} {pos : Pos}
def gStar (K : Frag) (n i : Nat) (t : TGs) : TG := fun v τ G Q => ∃ a xs, v = .ref a ∧ SqT K G a xs ∧ i < n ∧ n ≤ xs.length + 1 ∧ xs.length ≤ 10000 ∧
  ∀ D, G D = none → t (xs.take i ++ [.ref D] ++ (xs.drop i).drop (xs.length + 1 - n)) τ (upd G D (.lst ((xs.drop i).take (xs.length + 1 - n)))) Q
theorem pg_star {es es0 : List Expr} {k n i : Nat} {t : TGs} (hc : X.calm = true) (h : PGs X es0 t) (he : (assignEach es X.env).map (·.2) = (assignEach es0 X.env).map (·.2) := by rfl) (hn : (assignEach es X.env).length = n := by rfl)
    (hi : (assignEach es X.env).findIdx? (·.1) = some i := by rfl) : PG X (.Tuple es k pos) (gStar X.K n i t) := by
  refine ⟨fun pins s τ G v u Q I r hw => ?_⟩
  obtain ⟨a, xs, rfl, hq, h1, h2, h3, hw⟩ := hw
  cases r
  obtain ⟨us, rv, ht, hz⟩ := I.tuple hq
  have len := rv.length
  have sz : us.toArray.size = xs.length := by rw [List.size_toArray]; exact len.symm
  rw [assign_Tuple]
  refine wpAny_bind (wpAny_standAt ?_)
  unfold unpack
  rw [hn, hi]
  refine wpAny_bind (wpAny_holding (star_tup ht (I.ok.hd hc) h1 (by rw [sz]; exact h2) (by rw [sz]; omega) fun g tk keep => ?_))
  have no : s.heap.get? g.objs.size = none := by
    cases z : s.heap.get? g.objs.size with
    | none => rfl
    | some o => exact absurd (Heap.lt_size (keep _ _ z)) (Nat.lt_irrefl _)
  have nD := I.hok.gone no
  rw [he, sz]
  have I1 : Inv X pins τ (upd G g.objs.size (.lst ((xs.drop i).take (xs.length + 1 - n)))) { s with heap := g.push { cls := .type "list", data := .seq ((us.toArray.toList.drop i).take (xs.length + 1 - n)).toArray }, toks := tk } := by
    refine I.laidN (t' := tk) (fun b o e => Heap.get?_push_of_some _ (keep b o e)) no nD ⟨?_, _, 0, ?_, Heap.get?_push_size _ rfl⟩
    · rw [List.length_take, List.length_drop]
      exact Nat.le_trans (Nat.min_le_right _ _) (Nat.le_trans (Nat.sub_le _ _) hz)
    · exact (rv.drop i).take _
  refine h.run pins _ τ _ _ _ Q I1 ?_ (hw _ nD)
  exact ((rv.take i).append (.cons (show RelV (.ref g.objs.size) (.ref g.objs.size) from rfl) .nil)).append ((rv.drop i).drop _)
end
end Sr
/-! t * 0 and t * 1 of a tuple that is not empty -/
namespace Rt
open PySem PySem.Spec PyProof.Rows L2
theorem mul_one_ (l : Addr) (us : Array Value) (n : Nat) (dd : Option Addr) (sl : Array (Option Value)) (u : Tok) :
    Meets (Builtin.«tuple.__mul__» ⟨[.ref l, .int 1 u], []⟩) (fun _ R s => s.heap.get? l = some { cls := .type "tuple", dict := dd, data := .seq us n, slots := sl } ∧ R (.ok (.ret (Value.ref l))) s) :=
  .of_wp fun prog w A R s h => by
    obtain ⟨hp, g, d, tk, os⟩ := s
    obtain ⟨hl, h⟩ := h
    have f1 := AutoSeq1.idx_int
    have c0 : (decide ((1 : Int) < -(2 ^ 63)) || decide ((1 : Int) ≥ 2 ^ 63)) = false := by decide
    have c1 : (us.isEmpty || (1 : Int) == 1) = true := by simp
    wp_walk using AutoSeq1.wpAny_loadPart' hl
    repeat (first
      | (refine wpAny_ite_false (decide_eq_false (by rw [c0]; exact Bool.false_ne_true)) ?_; wp_walk using AutoSeq1.wpAny_loadPart' hl)
      | (refine wpAny_ite_true (decide_eq_true c1) ?_; wp_walk using AutoSeq1.wpAny_loadPart' hl)
      | (refine wpAny_ite_true (decide_eq_true (by decide)) ?_; wp_walk using AutoSeq1.wpAny_loadPart' hl))
    exact ⟨_, rfl, h⟩
theorem mul_zero_ (l : Addr) (us : Array Value) (n : Nat) (dd : Option Addr) (sl : Array (Option Value)) (u : Tok) (hus : us.isEmpty = false) :
    Meets (Builtin.«tuple.__mul__» ⟨[.ref l, .int 0 u], []⟩) (fun _ R s => s.heap.get? l = some { cls := .type "tuple", dict := dd, data := .seq us n, slots := sl } ∧
      R (.ok (.ret (Value.ref s.heap.objs.size))) { s with heap := s.heap.push { cls := Value.type "tuple", data := Data.seq #[] }, toks := s.toks }) :=
  .of_wp fun prog w A R s h => by
    obtain ⟨hp, g, d, tk, os⟩ := s
    obtain ⟨hl, h⟩ := h
    have f1 := AutoSeq1.idx_int
    have c0 : (decide ((0 : Int) < -(2 ^ 63)) || decide ((0 : Int) ≥ 2 ^ 63)) = false := by decide
    have c1 : (us.isEmpty || (0 : Int) == 1) = false := by rw [hus]; rfl
    have c2 : (decide ((0 : Int) ≤ 0) || us.isEmpty) = true := by simp
    have c5 : ¬ (#[] : Array Value).size > sizeLine := Nat.not_lt.mpr (Nat.zero_le _)
    wp_walk using AutoSeq1.wpAny_loadPart' hl
    repeat (first
      | (refine wpAny_ite_false (decide_eq_false (by rw [c0]; exact Bool.false_ne_true)) ?_; wp_walk using AutoSeq1.wpAny_loadPart' hl)
      | (refine wpAny_ite_false (decide_eq_false (by rw [c1]; exact Bool.false_ne_true)) ?_; wp_walk using AutoSeq1.wpAny_loadPart' hl)
      | (refine wpAny_ite_true (decide_eq_true c2) ?_; wp_walk using AutoSeq1.wpAny_loadPart' hl)
      | (refine wpAny_ite_false (decide_eq_false c5) ?_; wp_walk using AutoSeq1.wpAny_loadPart' hl))
    exact ⟨_, rfl, h⟩
def rMul1 (K : PySem.W.Frag) : R2 := fun x y G Q => ∃ l xs, x = .ref l ∧ SqT K G l xs ∧ xs ≠ [] ∧ ((y = .int 1 ∧ Q (.ref l) G) ∨ (y = .int 0 ∧ ∀ p, G p = none → Q (.ref p) (upd G p (.tup []))))
theorem op_mul1 {X : Cx} : OpR X (binaryOp .Mult) (rMul1 X.K) := by
  intro pins s τ G x y v u Q I rx ry h
  obtain ⟨l, xs, rfl, hT, hne, h⟩ := h
  cases rx
  obtain ⟨us, r, ⟨⟨cl, dd, dt, sl⟩, ho, hc, n, hd⟩, _⟩ := I.tuple hT
  simp only at hc hd
  subst hc hd
  have full : us.toArray.isEmpty = false := by
    cases us with
    | nil => exact absurd (List.eq_nil_of_length_eq_zero r.length) hne
    | cons a b => rfl
  rcases h with ⟨rfl, q⟩ | ⟨rfl, q⟩
  · obtain ⟨t, rfl⟩ := ry
    have step := int_rmul_tuple 1 t l us.toArray n dd sl
    exact wpAny_binaryOp_repeat_ref (T := "tuple") (U := "int") (by decide) ⟨_, ho, rfl⟩ (fun s' => typeIs_int s' 1 t) noFill_tuple_mul F.fills_int_mul F.slot_int_rmul repeat_tuple F.slot_int_index.lookup
      (call_meets F.slot_int_rmul (typeIs_int s 1 t) F.entry_int_rmul (F.args_int_rmul_2 _ _) step ⟨ho, rfl, ⟨_, ho, rfl⟩, call_meets F.slot_tuple_mul ⟨_, ho, rfl⟩ F.entry_tuple_mul (F.args_tuple_mul_2 _ _)
        (mul_one_ l us.toArray n dd sl t) ⟨ho, ⟨.ref l, G, I, rfl, q⟩⟩⟩)
  · obtain ⟨t, rfl⟩ := ry
    have step := int_rmul_tuple 0 t l us.toArray n dd sl
    exact wpAny_binaryOp_repeat_ref (T := "tuple") (U := "int") (by decide) ⟨_, ho, rfl⟩ (fun s' => typeIs_int s' 0 t) noFill_tuple_mul F.fills_int_mul F.slot_int_rmul repeat_tuple F.slot_int_index.lookup
      (call_meets F.slot_int_rmul (typeIs_int s 0 t) F.entry_int_rmul (F.args_int_rmul_2 _ _) step ⟨ho, rfl, ⟨_, ho, rfl⟩, call_meets F.slot_tuple_mul ⟨_, ho, rfl⟩ F.entry_tuple_mul (F.args_tuple_mul_2 _ _)
        (mul_zero_ l us.toArray n dd sl t full) ⟨ho, ⟨.ref s.heap.objs.size, _, I.laid (t' := s.toks) (o := .tup []) (fun _ _ z => Heap.get?_push_of_some _ z) (Nat.le_refl _) ⟨Nat.zero_le _, _, .nil, IsTup.new _ _⟩, rfl, q _ (I.hok.fresh (Nat.le_refl _))⟩⟩⟩)
end Rt
namespace Od2
open PySem.Spec PyProof.Rows
def rDictD : List V → Hp → VK → Prop := fun xs H Q => ∃ (a : Addr) (kvs : List (Key × V)), xs = [.ref a] ∧ L2.Rd H a (.dK kvs) ∧ ∀ p, H p = none → Q (.ref p) (upd H p (.dK kvs))
theorem call_dict {X : Cx} : CallR X (.type "dict") rDictD := call_dictD
end Od2
namespace Ob
open PySem.Spec PyProof.Rows
section
variable {X : Cx} {CX : CXT} {k j : Nat} {C : Addr} {sp : Sp} {E : XK}
/-- x[k] and x[k] = v of the class at C -/
def GetCal (P : Program) (w : World) (K : PySem.W.Frag) (mg : Str → Option Value) (base : Heap) (CX : CXT) (C : Addr) (k : Nat) (m : Str) (sp : Sp) : Prop :=
  ∃ (g : Addr) (fd : FuncData) (ps : List Str), FnG P w K mg base CX k g fd ps sp ∧ Ow.SpC K C m g ∧ Binds K fd ps []
theorem getO {a b : Expr} {ta tb : TE} {pos : Pos} (M : GetCal X.prog X.w X.K X.mg X.base CX C k "__getitem__" sp) (g : X.A.guards = some []) (hr : Room j X.A) (hk : k + 1 ≤ j) (hx : Passes CX X E) (ha : PE X a ta) (hb : PE X b tb)
    (hs : ∀ (o i : Value), subscripted b true o i = runValue (.builtin "lifetime.subscript" ⟨[o, i], []⟩)) : PE X (.Subscript a b pos) (Ow.tGetO C sp E ta tb) := by
  obtain ⟨f, fd, ps, F, S, bd⟩ := M
  exact Ow.pe_getO S F g (hr.mono hk) bd hx ha hb hs
theorem setO (M : GetCal X.prog X.w X.K X.mg X.base CX C k "__setitem__" sp) (g : X.A.guards = some []) (hr : Room j X.A) (hk : k ≤ j) (hx : Passes CX X E) : PSet X (Ow.rSetO C sp E) := by
  obtain ⟨f, fd, ps, F, S, bd⟩ := M
  exact Ow.set_ownR S F g (hr.mono hk) bd hx
end
/-- what of the text an own class has -/
structure CF (K : PySem.W.Frag) (mg : Str → Option Value) (x : Str) (C : Addr) : Prop where
  cl : L2.Cls K C
  g : mg x = some (.ref C)
  ne : PySem.W.findIn K (.ref C) "__ne__" = some (some (.builtin "object.__ne__"))
  ob : PySem.W.mroIn K C (.type "object") = some true
/-- a method as the top has left it -/
def MethAt (K : PySem.W.Frag) (x qual : Str) (st : Stmt) (ps : List Str) (f : Addr) (fd : FuncData) : Prop := Fun K x qual st f fd ∧ Binds K fd ps []
section
variable {P : Program} {w : World} {K : PySem.W.Frag} {mg : Str → Option Value} {base : Heap}
theorem byG {x qual : Str} {st : Stmt} {ps N : List Str} {f : Addr} {fd : FuncData} {k : Nat} {sp : Sp} (D : MethAt K x qual st ps f fd) (S : FnScope N ps (defScope st)) (len : ∀ vs H Q E, sp vs H Q E → vs.length = ps.length)
    (inner : ∀ (cd : Value) (A : Around), A.guards = some [] → ∀ (outer : List Env) (s : Shared) (H : Hp) (vs : List V) (Q : VK) (E : XK),
      Room k (A.deeper (envOfC qual (defScope st) s.heap.objs.size f cd)) → sp vs H Q E →
      ∃ t, PSs (cxOf CX0 P w K mg base N qual (defScope st) f cd A outer s H E).nox (defBody st) t ∧ t { nx := fun _ H' => Q .non H', rt := Q } (start N vs) H) : FnG P w K mg base CX0 (k + 1) f fd ps sp :=
  defG0 D.1 S len inner
theorem byGX {x qual : Str} {st : Stmt} {ps N : List Str} {f : Addr} {fd : FuncData} {k : Nat} {sp : Sp} (D : MethAt K x qual st ps f fd) (S : FnScope N ps (defScope st)) (len : ∀ vs H Q E, sp vs H Q E → vs.length = ps.length)
    (inner : ∀ (cd : Value) (A : Around), A.guards = some [] → ∀ (outer : List Env) (s : Shared) (H : Hp) (vs : List V) (Q : VK) (E : XK),
      Room k (A.deeper (envOfC qual (defScope st) s.heap.objs.size f cd)) → sp vs H Q E →
      ∃ t, PSs (cxOf (L2.CX P w) P w K mg base N qual (defScope st) f cd A outer s H E) (defBody st) t ∧ t { nx := fun _ H' => Q .non H', rt := Q } (start N vs) H) : FnG P w K mg base (L2.CX P w) (k + 1) f fd ps sp :=
  defG D.1 S len inner
end
end Ob
namespace Ab
open PySem L2 Gk
def top (i : Nat) : Stmt := PySem.Challenge.pw_answersby_k88_bodies_written.main.body.getD i (.Pass ⟨0, 0, 0, 0⟩)
def clsBody : Stmt → List Stmt
  | .ClassDef _ _ _ b _ _ _ _ _ _ _ => b
  | _ => []
def meth (i j : Nat) : Stmt := (clsBody (top i)).getD j (.Pass ⟨0, 0, 0, 0⟩)
structure Txt (K : PySem.W.Frag) (mg : Str → Option Value) : Prop where
  int : mg "int" = none
  len : mg "len" = none
  max : mg "max" = none
  min : mg "min" = none
  isinstance : mg "isinstance" = none
  range : mg "range" = none
  list : mg "list" = none
  dict : mg "dict" = none
  tuple : mg "tuple" = none
  set : mg "set" = none
  str : mg "str" = none
  bool : mg "bool" = none
  repr : mg "repr" = none
  all : mg "all" = none
  sum : mg "sum" = none
  zip : mg "zip" = none

theorem one_ {n : Nat} (h : n + 64 < cLine) : n + 1 < cLine := by omega
theorem un80 {k : Nat} {A : Around} (r : Room k A) : A.units + 80 < cLine := by have := r.un; omega
/-! ### tables -/
def tab (l : List Str) (f : Str → V) : List (Key × V) := l.map fun o => (.inr o, f o)
theorem val_tab (l : List Str) (f : Str → V) {o : Str} (h : o ∈ l) : valV (tab l f) (.inr o) = some (f o) := by
  induction l with
  | nil => cases h
  | cons a l ih =>
    by_cases e : a = o
    · subst e
      simp [valV, tab]
    · have hm : o ∈ l := (List.mem_cons.mp h).resolve_left fun z => e z.symm
      have := ih hm
      simp only [valV, tab, List.map_cons] at this ⊢
      rw [List.find?_cons_of_neg (by simpa using e)]
      exact this
theorem none_tab (l : List Str) (f : Str → V) {o : Str} (h : o ∉ l) : valV (tab l f) (.inr o) = none := by
  induction l with
  | nil => rfl
  | cons a l ih =>
    have e : a ≠ o := fun z => h (by rw [z]; exact List.mem_cons_self)
    have := ih fun z => h (List.mem_cons_of_mem _ z)
    simp only [valV, tab, List.map_cons] at this ⊢
    rw [List.find?_cons_of_neg (by simpa using e)]
    exact this
def put (f : Str → V) (o : Str) (v : V) : Str → V := fun x => if x = o then v else f x
theorem put_tab (l : List Str) (f : Str → V) {o : Str} (v : V) (h : o ∈ l) : putK (tab l f) (.inr o) v = tab l (put f o v) := by
  have e : ((tab l f).any fun kv => decide (kv.1 = .inr o)) = true := by
    rw [List.any_eq_true]
    exact ⟨(.inr o, f o), List.mem_map.mpr ⟨o, h, rfl⟩, by simp⟩
  rw [putK, if_pos e]
  simp only [tab, List.map_map]
  refine List.map_congr_left fun x _ => ?_
  by_cases c : x = o
  · subst c; simp [put]
  · simp [put, c]
theorem putK_new (l : List Str) (f : Str → V) {o : Str} (v : V) (h : o ∉ l) : putK (tab l f) (.inr o) v = tab l f ++ [(.inr o, v)] := by
  have e : ¬ ((tab l f).any fun kv => decide (kv.1 = .inr o)) = true := by
    rw [List.any_eq_true]
    rintro ⟨kv, hm, hk⟩
    obtain ⟨x, hx, rfl⟩ := List.mem_map.mp hm
    have : x = o := by simpa using hk
    exact h (this ▸ hx)
  rw [putK, if_neg e]
theorem tab_snoc (l : List Str) (f : Str → V) (o : Str) : tab l f ++ [(.inr o, f o)] = tab (l ++ [o]) f := by simp [tab]
theorem tab_congr {l : List Str} {f g : Str → V} (h : ∀ o ∈ l, f o = g o) : tab l f = tab l g := List.map_congr_left fun o ho => by rw [h o ho]
theorem tab_len (l : List Str) (f : Str → V) : (tab l f).length = l.length := List.length_map ..
/-- the tables of the document -/
def ops : List Str := ["truth", "size", "each", "turned", "hash", "call", "member", "like", "unlike", "before", "behind", "grow"]
def menus : List (Str × List Str) := [("truth", ["truth", "length"]), ("size", ["length"]), ("each", ["walk", "item"]), ("turned", ["back", "count"]), ("hash", ["hash"]), ("call", ["call"]), ("member", ["has", "walk", "item"]), ("like", ["own", "turned"]),
  ("unlike", ["own", "like", "turned", "turned_like"]), ("before", ["own", "turned"]), ("behind", ["own", "turned"]), ("grow", ["grow", "plus"])]
def menu (o : Str) : List Str := (menus.lookup o).getD []
def flagsW : List Str := ["bars_hash", "ends_same", "ends_true"]
/-! ### heaps that go on -/
theorem sqT_same {K : PySem.W.Frag} {H H' : Hp} {p : Addr} {xs : List V} (s : Same H H') (h : SqT K H p xs) : SqT K H' p xs := Rd.tupS s h
/-- what stands at a is no tuple -/
def NoTup (H : Hp) (a : Addr) : Prop := ∀ u, H a = some u → (∀ xs, u ≠ .tup xs) ∧ ∀ o xs, u ≠ .frz o (.tup xs)
theorem sqT_upd {K : PySem.W.Frag} {H : Hp} {a p : Addr} {z : HO} {xs : List V} (n : NoTup H a) (h : SqT K H p xs) : SqT K (upd H a z) p xs := by
  rcases h with (h | ⟨o, h⟩) | h
  · refine .inl (.inl ?_)
    rw [upd_ne (fun e => by subst e; exact (n _ h).1 _ rfl)]
    exact h
  · refine .inl (.inr ⟨o, ?_⟩)
    rw [upd_ne (fun e => by subst e; exact (n _ h).2 _ _ rfl)]
    exact h
  · exact .inr h
theorem nt_dK {H : Hp} {a : Addr} {kvs : List (Key × V)} (h : H a = some (.dK kvs)) : NoTup H a := fun u e => by
  rw [h] at e; cases e; exact ⟨fun _ => by simp, fun _ _ => by simp⟩
theorem nt_lst {H : Hp} {a : Addr} {xs : List V} (h : H a = some (.lst xs)) : NoTup H a := fun u e => by
  rw [h] at e; cases e; exact ⟨fun _ => by simp, fun _ _ => by simp⟩
theorem nt_ins {H : Hp} {a C dx : Addr} {fs : List (Str × V)} (h : H a = some (.ins C dx fs)) : NoTup H a := fun u e => by
  rw [h] at e; cases e; exact ⟨fun _ => by simp, fun _ _ => by simp⟩
theorem nt_none {H : Hp} {a : Addr} (h : H a = none) : NoTup H a := fun u e => by rw [h] at e; cases e
theorem tup_ty {K : PySem.W.Frag} {H : Hp} {p : Addr} {xs : List V} (h : SqT K H p xs) : TyX K H (.ref p) (.type "tuple") := by
  rcases h with (h | ⟨o, h⟩) | ⟨o, its, n, h, c, _⟩
  · exact .base (.tup h)
  · exact .fTuple h
  · exact .kTuple h c
end Ab
/-! a try whose clauses name what they catch, one after the other; own methods and signs within a try -/
namespace Et
open PySem.Spec PyProof.Rows
abbrev Clause := Value × (Addr → Value → Option Addr → TS)
/-- the ends behind a suite: the name is gone -/
def goneE (i : Nat) (D : Ends) : Ends := { nx := fun u K => D.nx (u.set i none) K, rt := D.rt, bk := fun u K => D.bk (u.set i none) K, ct := fun u K => D.ct (u.set i none) K }
/-- what the clauses wish of an exception; slot i is the name's -/
def wAsN (K : PySem.W.Frag) (i : Nat) (out : WX) (D : Ends) : List Clause → WX
  | [] => out
  | (c, t) :: r => fun cls d τ G => ∃ y, PySem.W.exmOne K cls c = some y ∧ (y = true → ∀ e, G e = none → t e cls d (goneE i D) (τ.set i (some (.ref e))) G) ∧ (y = false → wAsN K i out D r cls d τ G)
inductive Clauses (X : Cx) (n : Str) : List ExceptHandler → List Clause → Prop
  | nil : Clauses X n [] []
  | cons {x : Str} {c : Value} {t : Addr → Value → Option Addr → TS} {b : Stmt} {bs : List Stmt} {p q : Pos} {hs : List ExceptHandler} {l : List Clause} (hc : Names X x c)
      (hb : ∀ (e : Addr) (oe : Obj) (cls : Value) (d : Option Addr) (pn : List (Addr × Obj)), Zc cls d oe → (∃ vs, oe.data = .fields vs) → PSs (X.suite e ((e, oe) :: pn)) (b :: bs) (t e cls d)) (r : Clauses X n hs l) :
      Clauses X n (.ExceptHandler (some (.Name x p)) (some n) (b :: bs) q :: hs) ((c, t) :: l)
/-- an exception at e that has come down to the frame of X: sI is the state without it -/
structure Down (X : Cx) (B : Heap) (pins : List (Addr × Obj)) (τ : L2.St) (G : Hp) (sI : Shared) (e : Addr) (cls : Value) (d : Option Addr) (s : Shared) : Prop where
  inv : Inv X pins τ G sI
  nb : ∀ b o, sI.heap.get? b = some o → b ∉ frs X.stack → B.get? b = some o
  up : sI.heap.UpToSlots s.heap
  fl : HandSPX.FlyingZ B (X.env :: X.outer) e (Zc cls d) s.heap
  na : G e = none
  os : s.os = sI.os
  ag : AllBare s.gens
section
variable {X : Cx} {B : Heap} {pins : List (Addr × Obj)} {τ : L2.St} {G : Hp} {sI s : Shared} {e : Addr} {cls : Value} {d : Option Addr}
theorem Down.here (z : Down X B pins τ G sI e cls d s) : Inv X pins τ G s := Inv.landed z.inv z.nb z.fl.1 z.up z.os z.ag
theorem Down.held (z : Down X B pins τ G sI e cls d s) (hf : X.env.frame = some X.env.locals) :
    ∃ oe vs, s.heap.get? e = some oe ∧ Zc cls d oe ∧ oe.data = .fields vs ∧ Inv (X.suite e ((e, oe) :: (X.pn ++ pins))) [] τ G s := by
  obtain ⟨oe, vs, h1, h2, h3⟩ := z.fl.there
  have no : e ∉ frs (X.env :: X.outer) := fun m => by
    obtain ⟨_, o, ho, hn⟩ := z.fl.2.2.1.mem m
    rw [ho] at h1
    exact hn vs (by rw [Option.some.inj h1]; exact h3)
  refine ⟨oe, vs, h1, h2, h3, z.here.suite h1 h3 z.na (fun q => no ?_) fun m => no ?_⟩
  · exact List.mem_filterMap.mpr ⟨X.env, List.mem_cons_self, by rw [q]; exact hf⟩
  · obtain ⟨v, hv, w⟩ := List.mem_filterMap.mp m
    exact List.mem_filterMap.mpr ⟨v, List.mem_cons_of_mem _ hv, w⟩
/-- no clause is left: it goes on -/
theorem Down.out {W : WX} {D : Ends} (z : Down X B pins τ G sI e cls d s) (hs : X.stack = X.env :: X.outer) (hf : X.env.frame = some X.env.locals) (tk : Takes X W) (w : W cls d τ G) :
    wpAny (model X.prog X.w) X.A (handleBy (.ref e) X.env []) (SP X pins D) X.xe s := by
  have fl := z.fl
  obtain ⟨_, _, _, oe, vs, T, oT, ts, h1, _, h3, h4, _⟩ := id fl
  have off : wpAny (model X.prog X.w) X.A (setFlight (.ref e) X.env.frame) (fun _ s' => wpAny (model X.prog X.w) X.A (throw (.ref e) : Sem Flow) (SP X pins D) X.xe s') X.xe s := by
    rw [hf]
    refine HandSPX.setFlight_upZ fl fun h4 hh up => wpAny_throw (tk _ _ ⟨e, B, sI, pins, τ, G, cls, d, rfl, z.inv, z.nb, z.up.trans up, ?_, z.na, z.os, z.ag, w⟩)
    rw [hs]
    exact .inr (.inr hh)
  refine wpAny_handleBy_nil ?_
  unfold PySem.passOn
  refine wpAny_bind (wpAny_field h1 h3 h4 ?_)
  rw [if_neg (show ¬ ((Value.ref T == Value.none) = true) by simp)]
  first
    | exact wpAny_bind (wpAny_pure (wpAny_bind off))
    | exact wpAny_bind off
/-- the clauses, one after the other -/
theorem Down.asked {i : Nat} {n : Str} {W : WX} {D : Ends} (hs : X.stack = X.env :: X.outer) (hf : X.env.frame = some X.env.locals) (hN : X.N.Nodup) (hi : X.N[i]? = some n) (hl : X.env.kindOf n = some .local) (tk : Takes X W)
    {hds : List ExceptHandler} {l : List Clause} (hc : Clauses X n hds l) : ∀ {s : Shared}, Down X B pins τ G sI e cls d s → wAsN X.K i W D l cls d τ G → wpAny (model X.prog X.w) X.A (handleBy (.ref e) X.env hds) (SP X pins D) X.xe s := by
  induction hc with
  | nil => exact fun z w => z.out hs hf tk w
  | @cons x c t b bs p q r l' names su _ ih =>
    rintro s z ⟨y, ym, yes, no⟩
    obtain ⟨oe, vs, h1, h2, h3, S⟩ := z.held hf
    have kind : PySem.W.Looks (model X.prog X.w) s.heap (typeOf (.ref e)) cls := fun A Q E s' k q => wpAny_typeOf_ref (k _ _ h1) (by rw [h2.1]; exact q)
    have asks := PySem.W.exm_one (M := model X.prog X.w) z.here.kIn kind ym
    refine wpAny_handleBy_cons (codeAny_handlers_test ?_) (by intro q; cases q)
    have nm : ∀ {Q : Value → Shared → Prop} {E : Value → Shared → Prop}, Q c s → wpAny (model X.prog X.w) (X.A.mark (some (.ref e))) (eval (.Name x p) X.env) Q E s := fun {Q E} k => by
      obtain ⟨g1, g2, g3⟩ := names
      rcases g3 with m | ⟨m, v, nn⟩
      · exact ld_glob (X := X.suite e ((e, oe) :: (X.pn ++ pins))) S g1 m k g2
      · exact ld_blt (X := X.suite e ((e, oe) :: (X.pn ++ pins))) S g1 m v k nn g2
    refine nm (asks.here ?_)
    cases y with
    | false => exact ih z (no rfl)
    | true =>
      refine codeAny_handlers_suite_as (HandSPX.lands_againZ z.fl fun h4 fl4 up4 => ?_)
      have z4 : Down X B pins τ G sI e cls d { s with heap := h4 } := ⟨z.inv, z.nb, z.up.trans up4, fl4, z.na, z.os, z.ag⟩
      obtain ⟨oe4, vs4, k1, k2, k3, S4⟩ := z4.held hf
      refine store_ok (X := X.suite e ((e, oe4) :: (X.pn ++ pins))) (v := .ref e) S4 hN hi (.inl hl) rfl (fun s5 S5 => ?_) (.inr hl)
      refine wpAny_mono ((su e oe4 cls d (X.pn ++ pins) k2 ⟨_, k3⟩).run [] s5 _ G _ S5 (yes rfl e z.na)) (fun f s6 q6 => ?_) (fun _ _ bad => False.elim bad)
      have leave : ∀ {τ' : L2.St} {G' : Hp} {R : Shared → Prop}, Inv (X.suite e ((e, oe4) :: (X.pn ++ pins))) [] τ' G' s6 → (∀ s7, Inv X pins (τ'.set i none) G' s7 → R s7) →
          wpAny (model X.prog X.w) X.A (do bindName X.env n .none; unbindBehindTheSuite X.env n q) (fun _ s7 => R s7) X.xe s6 := fun a k => gone_ok (a.unsuite z.inv.ok) hN hi hl k
      match f, q6 with
      | .next, q6 => obtain ⟨_, _, a, k⟩ := q6; exact leave a fun _ J => ⟨_, _, J, k⟩
      | .brk, q6 => obtain ⟨_, _, a, k⟩ := q6; exact leave a fun _ J => ⟨_, _, J, k⟩
      | .cont, q6 => obtain ⟨_, _, a, k⟩ := q6; exact leave a fun _ J => ⟨_, _, J, k⟩
      | .ret _, q6 => obtain ⟨_, _, _, a, v, k⟩ := q6; exact leave a fun _ J => ⟨_, _, _, J, v, k⟩
end
section
variable {X : Cx} {n : Str} {i : Nat} {body : List Stmt} {h0 : ExceptHandler} {hds : List ExceptHandler} {l : List Clause} {pos : Pos} {tb : WX → TS} {out : WX}
theorem ps_tryN (hs : X.stack = X.env :: X.outer) (hf : X.env.frame = some X.env.locals) (hN : X.N.Nodup) (hi : X.N[i]? = some n) (hl : X.env.kindOf n = some .local) (tk : Takes X out)
    (hb : ∀ (W : WX) (pn : List (Addr × Obj)) (xe : Value → Shared → Prop), Takes (X.tr pn xe) W → PassesOwn (model X.prog X.w) X.A X.env xe → PSs (X.tr pn xe) body (tb W))
    (hc : Clauses X n (h0 :: hds) l) : PS X (.Try body (h0 :: hds) [] [] pos) (fun D τ G => tb (wAsN X.K i out D l) D τ G) := by
  refine ⟨fun pins s τ G D I q => wpAny_Try_except (wpAny_mono ((hb (wAsN X.K i out D l) (X.pn ++ pins) (fun u t => wpAny (model X.prog X.w) X.A (noteFrame u X.env) (fun _ t' => wpAny (model X.prog X.w) X.A (setFlight u none)
    (fun _ t'' => wpAny (model X.prog X.w) X.A (handleBy u X.env (h0 :: hds)) (SP X pins D) X.xe t'') X.xe t') X.xe t) ?_ PassesOwn.looking).run [] s τ G D (I.toTry _) q) ?_ fun _ _ z => z)⟩
  · rintro u t ⟨e, B, sI, pins', τ', G', cls, d, rfl, J, nb, up, sky, na, os, ag, w⟩
    have J' : Inv X pins τ' G' sI := J.ofTry I.ok
    have sky' : Sky B (X.env :: X.outer) e (Zc cls d) X.env.locals t.heap := by rw [← hs]; exact sky
    exact Sky.land Zc.steady (by rw [I.ok.frames, hs]) hf sky' fun h3 fl3 up3 => Down.asked hs hf hN hi hl tk hc (s := { t with heap := h3 }) ⟨J', nb, up.trans up3, fl3, na, os, ag⟩ w
  · intro f t z
    match f, z with
    | .next, z => obtain ⟨_, _, J, k⟩ := z; exact wpAny_execs_nil ⟨_, _, J.ofTry I.ok, k⟩
    | .brk, z => obtain ⟨_, _, J, k⟩ := z; exact ⟨_, _, J.ofTry I.ok, k⟩
    | .cont, z => obtain ⟨_, _, J, k⟩ := z; exact ⟨_, _, J.ofTry I.ok, k⟩
    | .ret _, z => obtain ⟨_, _, _, J, v, k⟩ := z; exact ⟨_, _, _, J.ofTry I.ok, v, k⟩
end
/-! ### within a try -/
section
variable {X : Cx} {W : WX} {k j : Nat} {f C : Addr} {fd : FuncData} {ps : List Str} {sp : Sp}
theorem flowS {pins : List (Addr × Obj)} {τ : L2.St} {G : Hp} {s : Shared} {Q : VK} {r : Result} {s' : Shared} (tk : Takes X W) (I : Inv X pins τ G s) (h : CR (L2.CX X.prog X.w) X.stack X.prog X.w G s Q (WE W τ) r s') : wants (EP X pins τ Q) X.xe r s' := by
  match r, h with
  | .error e, z => exact passAt tk τ pins G s e s' I z
  | .ok (.ret u), z => exact I.after z
  | .ok .next, z => exact z.elim
  | .ok .brk, z => exact z.elim
  | .ok .cont, z => exact z.elim
def tMethS (m : Str) (C : Addr) (sp : Sp) (E : L2.St → XK) (ta : TE) (t : TA) : TE := fun τ G Q => ta τ G fun x G1 => ∃ a dx fs, x = .ref a ∧ G1 a = some (.ins C dx fs) ∧ fs.lookup m = none ∧ t τ G1 fun vs G2 => sp (x :: vs) G2 Q (E τ)
theorem methS {m : Str} {o e : Expr} {es : List Expr} {apos pos : Pos} {ta : TE} {t : TA} {pl : Sem Bool} (tk : Takes X W) (he : PE X o ta) (c : L2.Cls X.K C) (M : Ob.MCal X.prog X.w X.K X.mg X.base (L2.CX X.prog X.w) C k m sp) (g : X.A.guards = some []) (hr : Room j X.A) (hk : k ≤ j) (ha : PA X (e :: es) t)
    (hst : starEach (e :: es) X.env = (false, eval e X.env) :: starEach es X.env := by rfl) (hpl : (backTo pos (starEach es X.env)).any (·.1) = false := by rfl)
    (ht : eval (.Call (.Attribute o m apos) (e :: es) [] pos) X.env = (do
      let ov ← eval o X.env
      standAt apos.atName
      let (f, first) ← holding [ov] (getMethod ov m pl)
      callWith pos f first (backTo pos (starEach (e :: es) X.env)) (backToKw pos (keywordEach [] X.env))) := by rfl) : PE X (.Call (.Attribute o m apos) (e :: es) [] pos) (tMethS m C sp (WE W) ta t) := by
  obtain ⟨f, fd, ps, F, hm, hb⟩ := M
  refine ⟨fun pins s τ G Q I h => PySem.W.methodCall_KW (pl := pl) (thn (he.run pins s τ G _ I h) fun u s1 ⟨x, G1, I1, rx, a, dx, fs, ex, ea, l, q⟩ => ?_) ht⟩
  subst ex
  obtain rfl : u = Value.ref a := rx
  refine getmeth_ok I1 ea c hm l (PySem.W.callWith_K (first := [.ref a]) (h₀ := X.base) I.ok.mod.kin hm.kp (thn (ha.run pos pins s1 τ G1 _ I1 q) fun us s2 ⟨vs, G2, I2, r, q2⟩ => ⟨I2.kIn, wpAny_call ?_⟩) hst hpl)
  exact codeAny_mono (Ob.goG F g (hr.mono hk) I2.env0 I2.kIn hb (.cons (show RelV (.ref a) (.ref a) from rfl) r) q2) fun r s' z => flowS tk I2 z
/-- x[k] -/
def tGetS (C : Addr) (sp : Sp) (E : L2.St → XK) (ta tb : TE) : TE := fun τ G Q => ta τ G fun x G1 => tb τ G1 fun y G2 => ∃ a dx fs, x = .ref a ∧ G2 a = some (.ins C dx fs) ∧ sp [.ref a, y] G2 Q (E τ)
theorem getS {a b : Expr} {ta tb : TE} {pos : Pos} (tk : Takes X W) (M : Ob.GetCal X.prog X.w X.K X.mg X.base (L2.CX X.prog X.w) C k "__getitem__" sp) (gd : X.A.guards = some []) (hr : Room j X.A) (hk : k + 1 ≤ j) (ha : PE X a ta) (hb' : PE X b tb)
    (hs : ∀ (o i : Value), subscripted b true o i = runValue (.builtin "lifetime.subscript" ⟨[o, i], []⟩)) : PE X (.Subscript a b pos) (tGetS C sp (WE W) ta tb) := by
  obtain ⟨f, fd, ps, F, S, hb⟩ := M
  refine ⟨fun pins s τ G Q I h => Subscript_ (binT ha hb' I h fun v u s2 x y G2 I2 rx ry q => ?_)⟩
  obtain ⟨p, dx, fs, rfl, hp, q⟩ := q
  obtain rfl : v = Value.ref p := rx
  obtain ⟨m, fr⟩ := I2.fr
  obtain ⟨od, J⟩ := Ow.instAt I2 hp
  have isf : PySem.W.isFn X.K (.ref f) = true := by show (PySem.W.typeIn X.K (.ref f) == some (.type "function")) = true; rw [S.sp.fn] <;> rfl
  refine PySem.W.sub_K fr I2.ok.mod.kin J S.sp.at_ S.fi isf (wpAny_call ?_) (hs _ _)
  exact codeAny_mono (Ob.goG F (A := X.A.in1) gd (hr.mono hk).in1 I2.env0.in1 I2.kIn hb (.cons (show RelV (.ref p) (.ref p) from rfl) (.cons ry .nil)) q) fun r s' z => flowS tk I2 z
/-- x[k] = v -/
def gSetS (C : Addr) (sp : Sp) (E : L2.St → XK) (to ti : TE) : TG := fun v τ G Q => to τ G fun x G1 => ti τ G1 fun y G2 => ∃ a dx fs, x = .ref a ∧ G2 a = some (.ins C dx fs) ∧ sp [.ref a, y, v] G2 (fun _ G3 => Q τ G3) (E τ)
theorem pg_setS {o i : Expr} {to ti : TE} {pos : Pos} (tk : Takes X W) (M : Ob.GetCal X.prog X.w X.K X.mg X.base (L2.CX X.prog X.w) C k "__setitem__" sp) (gd : X.A.guards = some []) (hr : Room j X.A) (hk : k ≤ j) (ho : PE X o to) (hi : PE X i ti)
    (ha : ∀ v, assign (.Subscript o i pos) X.env v = (do
      let b ← holding [v] (eval o X.env)
      let c ← holding [v, b] (eval i X.env)
      standAt pos
      holding [v, b, c] (setItem b c v)
      release [v, b, c] []) := by intro _; rfl) : PG X (.Subscript o i pos) (gSetS C sp (WE W) to ti) := by
  obtain ⟨f, fd, ps, F, S, hb⟩ := M
  refine ⟨fun pins s τ G v u Q I r h => ?_⟩
  rw [ha]
  refine wpAny_bind (wpAny_holding (thn (ho.run pins s τ G _ I h) fun b s1 ⟨x, G1, I1, r1, q1⟩ => ?_))
  refine wpAny_bind (wpAny_holding (thn (hi.run pins s1 τ G1 _ I1 q1) fun c s2 ⟨y, G2, I2, r2, p, dx, fs, ep, hp, q2⟩ => ?_))
  subst ep
  obtain rfl : b = Value.ref p := r1
  obtain ⟨_, _, _, hob, _⟩ := I2.hok p _ hp
  refine wpAny_bind (wpAny_standAt (wpAny_bind (wpAny_holding (Ow.set_own I2.kIn hob rfl S.dq S.sp (wpAny_call ?_)))))
  refine codeAny_mono (Ob.goG F gd (hr.mono hk) I2.env0 I2.kIn hb (.cons (show RelV (.ref p) (.ref p) from rfl) (.cons r2 (.cons r .nil))) q2) fun z s' zz => ?_
  have := flowS tk I2 zz
  match z, this with
  | .error _, t => exact t
  | .ok (.ret w), t =>
    obtain ⟨_, G3, I3, _, q3⟩ := t
    exact wpAny_release ⟨τ, G3, I3, q3⟩
  | .ok .next, t => exact t.elim
  | .ok .brk, t => exact t.elim
  | .ok .cont, t => exact t.elim
end
end Et
/-! C(..) within a try -/
namespace Mt
open PySem.Spec PyProof.Rows
section
variable {X : Cx} {W : WX} {k j : Nat} {f C : Addr} {fd : FuncData} {ps : List Str} {sp : Sp} {x : Str} {e : Expr} {es : List Expr} {p pos : Pos} {t : TA}
def tMakeS (C : Addr) (sp : Sp) (E : L2.St → XK) (t : TA) : TE := fun σ H Q => t σ H fun vs H1 => ∀ x dx, H1 x = none → H1 dx = none → dx ≠ x → sp (.ref x :: vs) (upd (upd H1 dx (.own x)) x (.ins C dx [])) (fun v H2 => v = .non ∧ Q (.ref x) H2) (E σ)
theorem runS {pins : List (Addr × Obj)} {σ : L2.St} {H : Hp} {s : Shared} {Q : VK} {us : List Value} {vs : List V} (M : Mk X.K C f) (F : FnG X.prog X.w X.K X.mg X.base (L2.CX X.prog X.w) k f fd ps sp) (g : X.A.guards = some []) (hr : Room (k + 1) X.A) (hb : Binds X.K fd ps []) (tk : Takes X W) (I : Inv X pins σ H s) (r : Vals vs us)
    (h : ∀ x dx, H x = none → H dx = none → dx ≠ x → sp (.ref x :: vs) (upd (upd H dx (.own x)) x (.ins C dx [])) (fun v H2 => v = .non ∧ Q (.ref x) H2) (WE W σ)) : wpAny (model X.prog X.w) X.A (call (.ref C) us) (EP X pins σ Q) X.xe s := by
  have hq := h (s.heap.objs.size + 1) s.heap.objs.size (I.hok.fresh (Nat.le_succ _)) (I.hok.fresh (Nat.le_refl _)) (Nat.ne_of_lt (Nat.lt_succ_self _))
  have I2 := Inv.made (C := C) I
  have run := Ob.goG F (A := X.A.under (.builtin "type.__call__" ⟨.ref C :: us, []⟩)) (Ob.guards_make.trans g) (hr.make C us []) (I2.env0.make C us []) I2.kIn hb (.cons (show RelV (.ref (s.heap.objs.size + 1)) (.ref (s.heap.objs.size + 1)) from rfl) r) hq
  refine wpAny_call (make_map (f := f) I.kIn M.makes M.init (beq_iff_eq.mp M.fn) (codeAny_mono run fun r s' hq' => ?_))
  match r, hq' with
  | .error er, z => exact passAt tk σ pins _ _ er s' I2 z
  | .ok .next, z => exact z.elim
  | .ok .brk, z => exact z.elim
  | .ok .cont, z => exact z.elim
  | .ok (.ret u), z =>
    obtain ⟨v, H', I3, rv, ev, q3⟩ := I2.after z
    subst ev
    exact ⟨rv, ⟨V.ref (s.heap.objs.size + 1), H', I3, rfl, q3⟩⟩
theorem makeS (tk : Takes X W) (M : Ob.MkCal X.prog X.w X.K X.mg X.base (L2.CX X.prog X.w) C k x sp) (gd : X.A.guards = some []) (hr : Room j X.A) (hk : k + 1 ≤ j) (ha : PA X (e :: es) t) (hg : Gl X x := by rfl)
    (hdb : (x == ("__debug__" : Str)) = false := by decide) (he : starEach (e :: es) X.env = (false, eval e X.env) :: starEach es X.env := by rfl) (hpl : (backTo pos (starEach es X.env)).any (·.1) = false := by rfl) :
    PE X (.Call (.Name x p) (e :: es) [] pos) (tMakeS C sp (WE W) t) := by
  obtain ⟨f, fd, ps, F, M, hb, hm⟩ := M
  refine ⟨fun pins s σ H Q I h => wpAny_Call_Name_kw (ld_glob I hg hm ?_ hdb)⟩
  exact PySem.W.callWith_K (h₀ := X.base) I.ok.mod.kin M.kp (thn (ha.run pos pins s σ H _ I h) fun us s1 ⟨vs, H1, I1, r, q⟩ => ⟨I1.kIn, runS M F gd (hr.mono hk) hb tk I1 r q⟩) he hpl
end
theorem makeR {C : Addr} {sp : Sp} {E : L2.St → XK} {t : TA} {σ : L2.St} {H : Hp} {Q : VK} (k : t σ H fun vs H1 => ∀ x dx, H1 x = none → H1 dx = none → dx ≠ x → sp (.ref x :: vs) (upd (upd H1 dx (.own x)) x (.ins C dx [])) (fun v H2 => v = .non ∧ Q (.ref x) H2) (E σ)) : tMakeS C sp E t σ H Q := k
end Mt
namespace Ab
open PySem.Spec PyProof.Rows
def isStr : V → Bool
  | .str _ => true
  | _ => false
def isBl : V → Bool
  | .bl _ => true
  | _ => false
def isInt : V → Bool
  | .int _ => true
  | .bl _ => true
  | _ => false
/-- a value's own kind, as isinstance tells it -/
structure Kd (K : PySem.W.Frag) (H : Hp) (v : V) (tn : String) : Prop where
  ty : TyX K H v (.type tn)
  s : kitB tn "str" = some (isStr v)
  i : kitB tn "int" = some (isInt v)
  b : kitB tn "bool" = some (isBl v)
def isIn (v : V) (ws : List Str) : Bool := match v with
  | .str s => decide (s ∈ ws)
  | _ => false
def isNum : V → Bool
  | .int _ => true
  | _ => false
theorem isi {K : PySem.W.Frag} {H : Hp} {v : V} {tn c : String} {b : Bool} {Q : VK} (h : TyX K H v (.type tn)) (k : kitB tn c = some b) (q : Q (.bl b) H) : rIsi K [v, .ty c] H Q :=
  ⟨v, .ty c, .type tn, .type c, b, rfl, .ty c, h, kit_ty k, q⟩
theorem inT {K : PySem.W.Frag} {H : Hp} {x : V} {p : Addr} {xs : List V} {Q : VK} {neg : Bool} (h : SqT K H p xs) (hx : flatV x = true) (ha : xs.all flatV = true) (k : Q (.bl (if neg then !inV x xs else inV x xs)) H) : rIn K neg x (.ref p) H Q := ⟨p, xs, rfl, .inr h, hx, ha, k⟩
theorem inV_str (w : Str) (l : List Str) : inV (.str w) (l.map V.str) = decide (w ∈ l) := by
  induction l with
  | nil => rfl
  | cons a l ih =>
    show (eqV (.str a) (.str w) || inV (.str w) (l.map V.str)) = _
    rw [ih]
    show ((a == w) || _) = _
    by_cases e : a = w
    · subst e; simp
    · have e' : ¬ w = a := fun z => e z.symm
      simp [e, e']
theorem flat_strs (l : List Str) : (l.map V.str).all flatV = true := by
  rw [List.all_eq_true]
  intro x hx
  obtain ⟨s, _, rfl⟩ := List.mem_map.mp hx
  rfl
section
variable {P : Program} {w : World} {K : PySem.W.Frag} {mg : Str → Option Value} {base : Heap}
abbrev sIs_number : Stmt := top 7
abbrev nIs_number : List Str := ["value"]
theorem scIs_number : FnScope nIs_number ["value"] (defScope sIs_number) := ⟨rfl, rfl, rfl, by decide +kernel, rfl, by decide +kernel, by decide +kernel⟩
def spNum (K : PySem.W.Frag) : Sp := fun vs H Q _ => ∃ (v : V) (tn : String), vs = [v] ∧ Kd K H v tn ∧ Q (.bl (isNum v)) H
theorem ok_number (T : Txt K mg) (D : DefAt K mg "is_number" sIs_number ["value"]) : CalG P w K mg base 1 "is_number" (spNum K) := by
  refine D.by scIs_number (fun vs H Q E h => ?_) (fun f cd A hg outer s H vs Q E hr h => ?_)
  · obtain ⟨v, tn, rfl, _⟩ := h
    rfl
  · obtain ⟨v, tn, rfl, k, q⟩ := h
    refine ⟨_, (pss_one (ps_ret (pe_and (pe_callB (r := rIsi K) call_isi (by rfl) T.isinstance (by decide +kernel) (pa_cons (pv 0) (pa_cons (pe_bltn (v := .ty "int") (by rfl) T.int (by decide +kernel) rfl) pa_nil))) (pe_one (pe_not (pe_callB (r := rIsi K) call_isi (by rfl) T.isinstance (by decide +kernel) (pa_cons (pv 0) (pa_cons (pe_bltn (v := .ty "bool") (by rfl) T.bool (by decide +kernel) rfl) pa_nil)))))))), ?_⟩
    repeat walk_at "rd"
    refine isi k.ty k.i ?_
    repeat walk_at "rd"
    refine Rd.bool (fun c => ?_) (fun c => ?_)
    · repeat walk_at "rd"
      refine isi k.ty k.b ?_
      repeat walk_at "rd"
      have e : isNum v = !isBl v := by cases v <;> first | rfl | cases c
      rw [← e]
      exact q
    · have e : isNum v = false := by cases v <;> first | rfl | cases c
      rw [e] at q
      exact q
abbrev sIs_one_of : Stmt := top 8
abbrev nIs_one_of : List Str := ["value", "words"]
theorem scIs_one_of : FnScope nIs_one_of ["value", "words"] (defScope sIs_one_of) := ⟨rfl, rfl, rfl, by decide +kernel, rfl, by decide +kernel, by decide +kernel⟩
def spOneOf (K : PySem.W.Frag) : Sp := fun vs H Q _ => ∃ (v : V) (p : Addr) (tn : String) (ws : List Str), vs = [v, .ref p] ∧ Kd K H v tn ∧ SqT K H p (ws.map V.str) ∧ Q (.bl (isIn v ws)) H
theorem ok_one_of (T : Txt K mg) (D : DefAt K mg "is_one_of" sIs_one_of ["value", "words"]) : CalG P w K mg base 1 "is_one_of" (spOneOf K) := by
  refine D.by scIs_one_of (fun vs H Q E h => ?_) (fun f cd A hg outer s H vs Q E hr h => ?_)
  · obtain ⟨v, p, tn, ws, rfl, _⟩ := h
    rfl
  · obtain ⟨v, p, tn, ws, rfl, k, hp, q⟩ := h
    refine ⟨_, (pss_one (ps_ret (pe_and (pe_callB (r := rIsi K) call_isi (by rfl) T.isinstance (by decide +kernel) (pa_cons (pv 0) (pa_cons (pe_bltn (v := .ty "str") (by rfl) T.str (by decide +kernel) rfl) pa_nil))) (pe_one (pe_cmpR (r := rIn K false) op_in_seq (pv 0) (pv 1) (by rfl)))))), ?_⟩
    repeat walk_at "rd"
    refine isi k.ty k.s ?_
    repeat walk_at "rd"
    refine Rd.bool (fun c => ?_) (fun c => ?_)
    · obtain ⟨z, rfl⟩ : ∃ z, v = .str z := by cases v <;> first | exact ⟨_, rfl⟩ | cases c
      repeat walk_at "rd"
      refine inT hp rfl (flat_strs _) ?_
      have e : (if (false : Bool) = true then !inV (.str z) (ws.map V.str) else inV (.str z) (ws.map V.str)) = decide (z ∈ ws) := by rw [inV_str]; rfl
      rw [e]
      exact q
    · have e : isIn v ws = false := by cases v <;> first | rfl | cases c
      rw [e] at q
      exact q
abbrev sCheck_method : Stmt := top 15
abbrev nCheck_method : List Str := ["method"]
theorem scCheck_method : FnScope nCheck_method ["method"] (defScope sCheck_method) := ⟨rfl, rfl, rfl, by decide +kernel, rfl, by decide +kernel, by decide +kernel⟩
def spCheck (K : PySem.W.Frag) (C : Addr) (ws : List Str) : Sp := fun vs H Q E => ∃ (v : V) (tn : String), vs = [v] ∧ Kd K H v tn ∧ (isIn v ws = true → Q .non H) ∧ (isIn v ws = false → ∀ d, H d = none → E (.ref C) (some d) (upd H d (.xd [(("value" : Str), v)])))
theorem ok_check_method (T : Txt K mg) {C p_METHODS : Addr} {ws : List Str} (g_METHODS : mg "METHODS" = some (.ref p_METHODS)) (tM : ∀ H, SqT K H p_METHODS (ws.map V.str)) (T_NoName : Ex.ErrC K mg "NoName" "value" C) (M_NoName : Ex.InitOk P w K mg base "value" C)
    (D : DefAt K mg "check_method" sCheck_method ["method"]) (CIs_one_of : CalG P w K mg base 1 "is_one_of" (spOneOf K)) : Ex.CalX P w K mg base 3 "check_method" (spCheck K C ws) := by
  refine Ex.byX D scCheck_method (fun vs H Q E h => ?_) (fun f cd A hg outer s H vs Q E hr h => ?_)
  · obtain ⟨v, tn, rfl, _⟩ := h
    rfl
  · obtain ⟨v, tn, rfl, k, q1, q2⟩ := h
    refine ⟨_, (pss_one (ps_if (pt_not (pt_val (pe_cG CIs_one_of hg hr (by decide) (pa_cons (pv 0) (pa_cons (pe_glob (v := .ref p_METHODS) (by rfl) g_METHODS rfl) pa_nil)))))
  (pss_one (ps_raise rfl (takes_of rfl rfl rfl rfl) (Ex.pmkE T_NoName M_NoName hr (by decide) (pa_cons (pv 0) pa_nil))))
  pss_nil)), ?_⟩
    repeat walk_at "rd"
    refine ⟨v, p_METHODS, tn, ws, rfl, k, tM H, ?_⟩
    repeat walk_at "rd"
    refine Rd.bool (fun c => ?_) (fun c => ?_)
    · have c' : isIn v ws = false := by simpa using c
      refine Ex.mk ?_
      repeat walk_at "rd"
      exact Ex.made (q2 c')
    · have c' : isIn v ws = true := by simpa using c
      repeat walk_at "rd"
      exact q1 c'
end
end Ab
namespace Ab
open PySem.Spec PyProof.Rows
/-! ### the table of the document -/
def methods : List Str := ["truth", "length", "item", "walk", "back", "has", "like", "unlike", "before", "behind", "hash", "grow", "plus", "call"]
def operations : List Str := ["truth", "size", "each", "turned", "hash", "call", "member", "like", "unlike", "before", "behind", "grow"]
def kinds : List (Str × Str) := [("truth", "flag"), ("length", "count"), ("item", "item"), ("walk", "walker"), ("back", "walker"), ("has", "flag"), ("like", "flag"), ("unlike", "flag"), ("before", "flag"), ("behind", "flag"), ("hash", "count"), ("grow", "any"), ("plus", "any"), ("call", "any")]
def kindOf (s : Str) : Str := (kinds.lookup s).getD Str.empty
def others : List Str := ["has", "like", "unlike", "before", "behind", "grow", "plus"]
def decliners : List Str := ["like", "unlike", "before", "behind", "grow", "plus"]
def ones : List Str := ["truth", "size", "each", "turned", "hash", "call"]
/-- an error out of the class at C, that keeps v -/
def Out (C : Addr) (v : V) (H : Hp) (E : XK) : Prop := ∀ d, H d = none → E (.ref C) (some d) (upd H d (.xd [(("value" : Str), v)]))
section
variable {P : Program} {w : World} {K : PySem.W.Frag} {mg : Str → Option Value} {base : Heap}
abbrev sKind_of : Stmt := top 16
abbrev nKind_of : List Str := ["method"]
theorem scKind_of : FnScope nKind_of ["method"] (defScope sKind_of) := ⟨rfl, rfl, rfl, by decide +kernel, rfl, by decide +kernel, by decide +kernel⟩
def spKind (K : PySem.W.Frag) (C : Addr) : Sp := fun vs H Q E => ∃ (v : V) (tn : String), vs = [v] ∧ Kd K H v tn ∧ (∀ s, v = .str s → s ∈ methods → Q (.str (kindOf s)) H) ∧ (isIn v methods = false → Out C v H E)
theorem isIn_str {v : V} {ws : List Str} (h : isIn v ws = true) : ∃ s, v = .str s ∧ s ∈ ws := by
  cases v <;> first | (rename_i s; exact ⟨s, rfl, of_decide_eq_true h⟩) | cases h
theorem ok_kind_of (T : Txt K mg) {C p_KINDS : Addr} (g_KINDS : mg "KINDS" = some (.ref p_KINDS)) (tK : ∀ s ∈ methods, KDct K w p_KINDS s (.str (kindOf s)))
    (D : DefAt K mg "kind_of" sKind_of ["method"]) (CCheck_method : Ex.CalX P w K mg base 3 "check_method" (spCheck K C methods)) : Ex.CalX P w K mg base 4 "kind_of" (spKind K C) := by
  refine Ex.byX D scKind_of (fun vs H Q E h => ?_) (fun f cd A hg outer s H vs Q E hr h => ?_)
  · obtain ⟨v, tn, rfl, _⟩ := h
    rfl
  · obtain ⟨v, tn, rfl, k, q1, q2⟩ := h
    refine ⟨_, (pss_cons (ps_expr (Ex.pe_x CCheck_method hg hr (by decide) (takes_of rfl rfl rfl rfl) (pa_cons (pv 0) pa_nil)))
  (pss_one (ps_ret (pe_ix (r := rIxD K w) ix_kdict (pe_glob (v := .ref p_KINDS) (by rfl) g_KINDS rfl) (pv 0) (fun _ _ => rfl))))), ?_⟩
    repeat walk_at "rd"
    refine ⟨v, tn, rfl, k, fun c => ?_, q2⟩
    obtain ⟨s, rfl, hs⟩ := isIn_str c
    repeat walk_at "rd"
    exact ⟨p_KINDS, s, _, rfl, rfl, tK s hs, q1 s rfl hs⟩
def spIn (K : PySem.W.Frag) (C : Addr) (ms ws : List Str) : Sp := fun vs H Q E => ∃ (v : V) (tn : String), vs = [v] ∧ Kd K H v tn ∧ (∀ s, v = .str s → s ∈ ms → Q (.bl (decide (s ∈ ws))) H) ∧ (isIn v ms = false → Out C v H E)
abbrev sTakes_other : Stmt := top 17
abbrev nTakes_other : List Str := ["method"]
theorem scTakes_other : FnScope nTakes_other ["method"] (defScope sTakes_other) := ⟨rfl, rfl, rfl, by decide +kernel, rfl, by decide +kernel, by decide +kernel⟩
theorem ok_takes_other (T : Txt K mg) {C p_OTHER_TAKERS : Addr} {ws : List Str} (g_OTHER_TAKERS : mg "OTHER_TAKERS" = some (.ref p_OTHER_TAKERS)) (tO : ∀ H, SqT K H p_OTHER_TAKERS (ws.map V.str))
    (D : DefAt K mg "takes_other" sTakes_other ["method"]) (CCheck_method : Ex.CalX P w K mg base 3 "check_method" (spCheck K C methods)) : Ex.CalX P w K mg base 4 "takes_other" (spIn K C methods ws) := by
  refine Ex.byX D scTakes_other (fun vs H Q E h => ?_) (fun f cd A hg outer s H vs Q E hr h => ?_)
  · obtain ⟨v, tn, rfl, _⟩ := h
    rfl
  · obtain ⟨v, tn, rfl, k, q1, q2⟩ := h
    refine ⟨_, (pss_cons (ps_expr (Ex.pe_x CCheck_method hg hr (by decide) (takes_of rfl rfl rfl rfl) (pa_cons (pv 0) pa_nil)))
  (pss_one (ps_ret (pe_cmpR (r := rIn K false) op_in_seq (pv 0) (pe_glob (v := .ref p_OTHER_TAKERS) (by rfl) g_OTHER_TAKERS rfl) (by rfl))))), ?_⟩
    repeat walk_at "rd"
    refine ⟨v, tn, rfl, k, fun c => ?_, q2⟩
    obtain ⟨s, rfl, hs⟩ := isIn_str c
    repeat walk_at "rd"
    refine inT (tO H) rfl (flat_strs _) ?_
    have e : (if (false : Bool) = true then !inV (.str s) (ws.map V.str) else inV (.str s) (ws.map V.str)) = decide (s ∈ ws) := by rw [inV_str]; rfl
    rw [e]
    exact q1 s rfl hs
abbrev sMay_decline : Stmt := top 18
abbrev nMay_decline : List Str := ["method"]
theorem scMay_decline : FnScope nMay_decline ["method"] (defScope sMay_decline) := ⟨rfl, rfl, rfl, by decide +kernel, rfl, by decide +kernel, by decide +kernel⟩
theorem ok_may_decline (T : Txt K mg) {C p_DECLINERS : Addr} {ws : List Str} (g_DECLINERS : mg "DECLINERS" = some (.ref p_DECLINERS)) (tO : ∀ H, SqT K H p_DECLINERS (ws.map V.str))
    (D : DefAt K mg "may_decline" sMay_decline ["method"]) (CCheck_method : Ex.CalX P w K mg base 3 "check_method" (spCheck K C methods)) : Ex.CalX P w K mg base 4 "may_decline" (spIn K C methods ws) := by
  refine Ex.byX D scMay_decline (fun vs H Q E h => ?_) (fun f cd A hg outer s H vs Q E hr h => ?_)
  · obtain ⟨v, tn, rfl, _⟩ := h
    rfl
  · obtain ⟨v, tn, rfl, k, q1, q2⟩ := h
    refine ⟨_, (pss_cons (ps_expr (Ex.pe_x CCheck_method hg hr (by decide) (takes_of rfl rfl rfl rfl) (pa_cons (pv 0) pa_nil)))
  (pss_one (ps_ret (pe_cmpR (r := rIn K false) op_in_seq (pv 0) (pe_glob (v := .ref p_DECLINERS) (by rfl) g_DECLINERS rfl) (by rfl))))), ?_⟩
    repeat walk_at "rd"
    refine ⟨v, tn, rfl, k, fun c => ?_, q2⟩
    obtain ⟨s, rfl, hs⟩ := isIn_str c
    repeat walk_at "rd"
    refine inT (tO H) rfl (flat_strs _) ?_
    have e : (if (false : Bool) = true then !inV (.str s) (ws.map V.str) else inV (.str s) (ws.map V.str)) = decide (s ∈ ws) := by rw [inV_str]; rfl
    rw [e]
    exact q1 s rfl hs
end
end Ab
namespace Ab
open PySem.Spec PyProof.Rows
section
variable {K : PySem.W.Frag} {H : Hp}
theorem kd_str (z : Str) : Kd K H (.str z) "str" := ⟨.base (.str z), (by show kitB "str" "str" = some true; decide +kernel), (by show kitB "str" "int" = some false; decide +kernel), (by show kitB "str" "bool" = some false; decide +kernel)⟩
theorem kd_int (i : Int) : Kd K H (.int i) "int" := ⟨.base (.int i), rfl, rfl, rfl⟩
theorem kd_bl (b : Bool) : Kd K H (.bl b) "bool" := ⟨.base (.bl b), rfl, rfl, rfl⟩
theorem kd_non : Kd K H .non "NoneType" := ⟨.base .non, rfl, rfl, rfl⟩
theorem kd_tup {p : Addr} {xs : List V} (h : SqT K H p xs) : Kd K H (.ref p) "tuple" := ⟨tup_ty h, rfl, rfl, rfl⟩
theorem lst_ty {p : Addr} {xs : List V} (h : SqL K H p xs) : TyX K H (.ref p) (.type "list") := by
  rcases h with (h | ⟨o, h⟩) | ⟨o, its, n, h, c, _⟩
  · exact .base (.lst h)
  · exact .base (.frz h)
  · exact .kList h c
theorem kd_lst {p : Addr} {xs : List V} (h : SqL K H p xs) : Kd K H (.ref p) "list" := ⟨lst_ty h, rfl, rfl, rfl⟩
theorem dp_kd {v : V} {d : PyData} (h : Dp K H v d) : ∃ tn, Kd K H v tn := by
  cases h with
  | non => exact ⟨_, kd_non⟩
  | bl b => exact ⟨_, kd_bl b⟩
  | int i => exact ⟨_, kd_int i⟩
  | str z => exact ⟨_, kd_str z⟩
  | lst a b => exact ⟨_, kd_lst a⟩
  | tup a b => exact ⟨_, kd_tup a⟩
end
theorem tyX_mono {K : PySem.W.Frag} {H H' : Hp} {v : V} {t : Value} (s : Same H H') (h : TyX K H v t) : TyX K H' v t := by
  cases h with
  | base b =>
    refine .base ?_
    cases b with
    | non => exact .non
    | bl x => exact .bl x
    | int x => exact .int x
    | str x => exact .str x
    | flt x => exact .flt x
    | lst e => exact .lst (s _ _ e)
    | frz e => exact .frz (s _ _ e)
    | tup e => exact .tup (s _ _ e)
    | dK e => exact .dK (s _ _ e)
    | dT e => exact .dT (s _ _ e)
    | ins e a b c d f => exact .ins (s _ _ e) a b c d f
  | byt b => exact .byt b
  | set e => exact .set (s _ _ e)
  | kList e c => exact .kList e c
  | kTuple e c => exact .kTuple e c
  | kDict e c => exact .kDict e c
  | fTuple e => exact .fTuple (s _ _ e)
  | fDict e => exact .fDict (s _ _ e)
theorem Kd.mono {K : PySem.W.Frag} {H H' : Hp} {v : V} {tn : String} (s : Same H H') (k : Kd K H v tn) : Kd K H' v tn := ⟨tyX_mono s k.ty, k.s, k.i, k.b⟩
def rolesOf (m : Str) : List Str := if m ∈ others then ["self", "other"] else ["self"]
def answerW : List Str := ["yes", "no", "raise"]
def askOne : List Str := ["truth", "size", "hash"]
def askTwo : List Str := ["member", "like", "unlike", "before", "behind"]
def bodyKinds : List Str := ["flag", "count"]
def partW : List Str := ["not", "if"]
def aloneD (m z : Str) (t : Bool) : Bool := if z = "further" then t else if z = "decline" then t && decide (m ∈ decliners) else decide (z ∈ answerW)
def roleD (m : Str) : PyData → Bool
  | .str z => decide (z ∈ rolesOf m)
  | _ => false
def inD (ws : List Str) : PyData → Bool
  | .str z => decide (z ∈ ws)
  | _ => false
def cntD : PyData → Bool
  | .int i => decide (0 ≤ i) && decide (i ≤ 4)
  | _ => false
def askD (m : Str) : List PyData → Bool
  | [o, r] => inD askOne o && roleD m r
  | [o, r, q] => inD askTwo o && roleD m r && roleD m q && !(PyData.eqv r q)
  | _ => false
def cntL : List PyData → Bool
  | [c] => cntD c
  | _ => false
/-- a node by itself: its word w, what is behind it -/
def wordD (m w : Str) (ds : List PyData) (t : Bool) : Bool :=
  if w = "not" then ds.length == 1 else if w = "if" then ds.length == 3
  else if w = "count" then cntL ds
  else if w = "ask" then askD m ds else ds.isEmpty && aloneD m w t
def nodeD (m : Str) (t : Bool) : PyData → Bool
  | .tuple (.str w :: ds) => wordD m w ds t
  | _ => false
def kidsD : PyData → List PyData
  | .tuple (.str w :: ds) => if w ∈ partW then ds else []
  | _ => []
def tailsW (w : Str) (t : Bool) : List Bool := if w = "if" then [false, t, t] else if w = "not" then [false] else []
def tailsD (t : Bool) : PyData → List Bool
  | .tuple (.str w :: _) => tailsW w t
  | _ => []
/-- a node that waits: its depth, and whether it is at a tail -/
abbrev Wt := PyData × Nat × Bool
def kidsZ (z : Wt) : List Wt := ((kidsD z.1).zip (tailsD z.2.2 z.1)).map fun p => (p.1, z.2.1 + 1, p.2)
/-- the first wrong node, k numbers are left -/
def goW (m : Str) : Nat → List Wt → Option Nat
  | _, [] => none
  | 0, _ :: _ => some 16
  | k + 1, z :: st => if z.2.1 ≤ 6 ∧ nodeD m z.2.2 z.1 = true then goW m k (kidsZ z ++ st) else some (16 - (k + 1))
mutual
/-- the things that the law makes -/
def okU : PyData → Bool
  | .none => true
  | .bool _ => true
  | .int i => decide (0 ≤ i) && decide (i ≤ 5)
  | .str z => PyData.strOk z
  | .list xs => okUA xs
  | .tuple xs => okUA xs
  | .dict _ => false
def okUA : List PyData → Bool
  | [] => true
  | x :: xs => okU x && okUA xs
end
theorem okUA_iff : ∀ {xs : List PyData}, okUA xs = true ↔ ∀ x ∈ xs, okU x = true
  | [] => by simp [okUA]
  | x :: xs => by
    rw [okUA, Bool.and_eq_true, okUA_iff (xs := xs)]
    simp
theorem dpT {K : PySem.W.Frag} {H : Hp} {v : V} {ds : List PyData} (h : Dp K H v (.tuple ds)) : ∃ p xs, v = .ref p ∧ SqT K H p xs ∧ DpAll K H xs ds := by
  cases h with
  | tup a b => exact ⟨_, _, rfl, a, b⟩
theorem dpS {K : PySem.W.Frag} {H : Hp} {v : V} {z : Str} (h : Dp K H v (.str z)) : v = .str z := by cases h; rfl
theorem dpI {K : PySem.W.Frag} {H : Hp} {v : V} {i : Int} (h : Dp K H v (.int i)) : v = .int i := by cases h; rfl
theorem dpC {K : PySem.W.Frag} {H : Hp} {xs : List V} {d : PyData} {ds : List PyData} (h : DpAll K H xs (d :: ds)) : ∃ x r, xs = x :: r ∧ Dp K H x d ∧ DpAll K H r ds := by
  cases h with
  | cons a b => exact ⟨_, _, rfl, a, b⟩
theorem dpN {K : PySem.W.Frag} {H : Hp} {xs : List V} (h : DpAll K H xs []) : xs = [] := by cases h; rfl
theorem dpa_len {K : PySem.W.Frag} {H : Hp} : ∀ {xs : List V} {ds : List PyData}, DpAll K H xs ds → xs.length = ds.length
  | _, _, .nil => rfl
  | _, _, .cons _ b => by rw [List.length_cons, List.length_cons, dpa_len b]
mutual
theorem dp_mono {K : PySem.W.Frag} {H H' : Hp} (s : Same H H') : ∀ {v : V} {d : PyData}, Dp K H v d → Dp K H' v d
  | _, _, .non => .non
  | _, _, .bl b => .bl b
  | _, _, .int i => .int i
  | _, _, .str x => .str x
  | _, _, .lst a b => .lst (s.seq a) (dpa_mono s b)
  | _, _, .tup a b => .tup (sqT_same s a) (dpa_mono s b)
theorem dpa_mono {K : PySem.W.Frag} {H H' : Hp} (s : Same H H') : ∀ {vs : List V} {ds : List PyData}, DpAll K H vs ds → DpAll K H' vs ds
  | _, _, .nil => .nil
  | _, _, .cons a b => .cons (dp_mono s a) (dpa_mono s b)
end
theorem dp_isIn {K : PySem.W.Frag} {H : Hp} {v : V} {d : PyData} (ws : List Str) (h : Dp K H v d) : isIn v ws = inD ws d := by cases h <;> rfl
theorem dp_isStr {K : PySem.W.Frag} {H : Hp} {v : V} {d : PyData} (h : Dp K H v d) : isStr v = (match d with | .str _ => true | _ => false) := by cases h <;> rfl
theorem role_inD (m : Str) (d : PyData) : inD (rolesOf m) d = roleD m d := by cases d <;> rfl
def isCnt (v : V) : Bool := match v with
  | .int i => decide (0 ≤ i) && decide (i ≤ 4)
  | _ => false
theorem dp_isCnt {K : PySem.W.Frag} {H : Hp} {v : V} {d : PyData} (h : Dp K H v d) : isCnt v = cntD d := by cases h <;> rfl
theorem offI {A B : Prop} (h : B) : if false = true then A else B := by
  rw [if_neg Bool.false_ne_true]
  exact h
theorem cut_tail {x : V} {r : List V} : cutV (x :: r) (some 1) none = r := by
  unfold cutV
  have e1 : HT.sIx (x :: r).length 0 (some 1) = 1 := by simp [HT.sIx]
  have e2 : HT.sIx (x :: r).length (x :: r).length none = r.length + 1 := by simp [HT.sIx]
  rw [e1, e2]
  simp
theorem cutG {K : PySem.W.Frag} {a : Addr} {xs : List V} {lo hi : Option Int} {H : Hp} {Q : VK} (h : SqT K H a xs) (k : ∀ t H', Same H H' → SqT K H' t (cutV xs lo hi) → Q (.ref t) H') : rSlA K (.ref a) lo hi H Q := by
  refine ⟨a, xs, rfl, h, fun c => k a H (Same.refl _) ?_, fun _ p hp => k p _ (Rd.sNew hp) (.inl (.inl upd_same))⟩
  have e : cutV xs lo hi = xs := by
    unfold cutV
    rw [c.1, c.2]
    simp
  rw [e]
  exact h
abbrev rInKd (K : PySem.W.Frag) (p : Addr) : R2 := fun x y H Q => ∃ (z : Str) (r : Option Value), x = .str z ∧ y = .ref p ∧ PySem.W.nsIn K p z = some r ∧ Q (.bl r.isSome) H
theorem op_inKd {X : Cx} {p : Addr} {es : Array DictEntry} {n : Nat} (D : KDict X.K X.w p es n) : OpR X (compareOp .In) (rInKd X.K p) := op_in_kd D
/-- PARTS -/
structure PartsA (K : PySem.W.Frag) (w : World) (mg : Str → Option Value) (p : Addr) : Prop where
  g : mg "PARTS" = some (.ref p)
  D : ∃ es n, KDict K w p es n
  h : ∀ z : Str, PyData.strOk z = true → ∃ r, PySem.W.nsIn K p z = some r ∧ r.isSome = decide (z ∈ partW)
  n1 : KDct K w p "not" (.int 1)
  n3 : KDct K w p "if" (.int 3)
theorem starR {K : PySem.W.Frag} {n i : Nat} {t : TGs} {a : Addr} {xs : List V} {σ : L2.St} {H : Hp} {Q : L2.St → Hp → Prop} (h : SqT K H a xs) (h1 : i < n) (h2 : n ≤ xs.length + 1) (h3 : xs.length ≤ 10000)
    (k : ∀ D, H D = none → t (xs.take i ++ [.ref D] ++ (xs.drop i).drop (xs.length + 1 - n)) σ (upd H D (.lst ((xs.drop i).take (xs.length + 1 - n)))) Q) : Sr.gStar K n i t (.ref a) σ H Q := ⟨a, xs, rfl, h, h1, h2, h3, k⟩
theorem chainR {r1 r2 : R2} {ta tb tc : TE} {σ : L2.St} {H : Hp} {Q : VK} (k : tChain r1 r2 ta tb tc σ H Q) : tChain r1 r2 ta tb tc σ H Q := k
theorem str_sh {z : Str} (h : PyData.strOk z = true) : SeqAt.shaped (.str z) = true := by
  show (PyData.canLay0 (.str z) && decide (PyData.depth (.str z) ≤ 64)) = true
  rw [show PyData.canLay0 (.str z) = true from by simpa [PyData.canLay0] using h]
  simp [PyData.depth]
theorem eqv_str (a b : Str) : PyData.eqv (.str a) (.str b) = decide (a = b) := by
  simp only [PyData.eqv]
  by_cases e : a = b
  · subst e; simp
  · simp [e]
section
variable {P : Program} {w : World} {K : PySem.W.Frag} {mg : Str → Option Value} {base : Heap}
abbrev sIs_count : Stmt := top 19
abbrev nIs_count : List Str := ["value"]
theorem scIs_count : FnScope nIs_count ["value"] (defScope sIs_count) := ⟨rfl, rfl, rfl, by decide +kernel, rfl, by decide +kernel, by decide +kernel⟩
def spCnt (K : PySem.W.Frag) : Sp := fun vs H Q _ => ∃ (v : V) (tn : String), vs = [v] ∧ Kd K H v tn ∧ Q (.bl (isCnt v)) H
theorem ok_count (T : Txt K mg) {t4 : Tok} (g_MOST_COUNT : mg "MOST_COUNT" = some (.int 4 t4)) (D : DefAt K mg "is_count" sIs_count ["value"]) (CIs_number : CalG P w K mg base 1 "is_number" (spNum K)) : CalG P w K mg base 2 "is_count" (spCnt K) := by
  refine D.by scIs_count (fun vs H Q E h => ?_) (fun f cd A hg outer s H vs Q E hr h => ?_)
  · obtain ⟨v, tn, rfl, _⟩ := h
    rfl
  · obtain ⟨v, tn, rfl, kd, q⟩ := h
    refine ⟨_, (pss_one (ps_ret (pe_and (pe_cG CIs_number hg hr (by decide) (pa_cons (pv 0) pa_nil)) (pe_one (pe_chain op_le op_le pe_int (pv 0) (pe_glob (v := .int 4) (by rfl) g_MOST_COUNT ⟨_, rfl⟩)))))), ?_⟩
    repeat walk_at "rd"
    refine ⟨v, tn, rfl, kd, ?_⟩
    repeat walk_at "rd"
    refine Rd.bool (fun c => ?_) (fun c => ?_)
    · obtain ⟨i, rfl⟩ : ∃ i, v = .int i := by cases v <;> first | exact ⟨_, rfl⟩ | cases c
      have q : Q (.bl (decide (0 ≤ i) && decide (i ≤ 4))) H := q
      unfold tChain
      repeat walk_at "rd"
      refine Rd.bool (fun c => ?_) (fun c => ?_)
      · rw [c, Bool.true_and] at q
        repeat walk_at "rd"
        exact q
      · rw [c, Bool.false_and] at q
        exact q
    · have e : isCnt v = false := by cases v <;> first | rfl | cases c
      rw [e] at q
      exact q
abbrev sIs_role : Stmt := top 29
abbrev nIs_role : List Str := ["method", "value", "roles"]
theorem scIs_role : FnScope nIs_role ["method", "value"] (defScope sIs_role) := ⟨rfl, rfl, rfl, by decide +kernel, rfl, by decide +kernel, by decide +kernel⟩
def spRole (K : PySem.W.Frag) : Sp := fun vs H Q _ => ∃ (m : Str) (v : V) (tn : String), vs = [.str m, v] ∧ m ∈ methods ∧ Kd K H v tn ∧ ∀ H', Same H H' → Q (.bl (isIn v (rolesOf m))) H'
theorem ok_role (T : Txt K mg) {C : Addr} (D : DefAt K mg "_is_role" sIs_role ["method", "value"]) (CTakes_other : Ex.CalX P w K mg base 4 "takes_other" (spIn K C methods others)) (CIs_one_of : CalG P w K mg base 1 "is_one_of" (spOneOf K)) : CalG P w K mg base 5 "_is_role" (spRole K) := by
  refine D.by scIs_role (fun vs H Q E h => ?_) (fun f cd A hg outer s H vs Q E hr h => ?_)
  · obtain ⟨_, _, _, rfl, _⟩ := h
    rfl
  · obtain ⟨m, v, tn, rfl, hm, kd, q⟩ := h
    refine ⟨_, (pss_cons (ps_set (i := 2) scIs_role.nd rfl (Or.inl rfl) (pe_ifExp (pt_val (Ex.pe_x0 CTakes_other hg hr (by decide) (pa_cons (pv 0) pa_nil))) (pe_tup (pa_cons pe_str (pa_cons pe_str pa_nil))) (pe_tup (pa_cons pe_str pa_nil))))
  (pss_one (ps_ret (pe_cG CIs_one_of hg hr (by decide) (pa_cons (pv 1) (pa_cons (pv 2) pa_nil)))))), ?_⟩
    repeat walk_at "rd"
    refine ⟨_, _, rfl, kd_str m, fun z ez _ => ?_, fun c => ?_⟩
    · cases ez
      have fin : ∀ (ws : List Str) (p : Addr), ws = rolesOf m → H p = none → spOneOf K [v, .ref p] (upd H p (.tup (ws.map V.str))) Q E0 := fun ws p e hp =>
        ⟨v, p, tn, ws, rfl, kd.mono (Rd.sNew hp), .inl (.inl upd_same), by rw [e]; exact q _ (Rd.sNew hp)⟩
      repeat walk_at "rd"
      refine Rd.dec (fun c => ?_) (fun c => ?_)
      · repeat walk_at "rd"
        refine ⟨Rd.sz (by simp), fun p hp => ?_⟩
        repeat walk_at "rd"
        exact fin ["self", "other"] p (by rw [rolesOf, if_pos c]) hp
      · repeat walk_at "rd"
        refine ⟨Rd.sz (by simp), fun p hp => ?_⟩
        repeat walk_at "rd"
        exact fin ["self"] p (by rw [rolesOf, if_neg c]) hp
    · rw [show isIn (.str m) methods = true from decide_eq_true hm] at c; cases c
abbrev sIs_word_alone : Stmt := top 31
abbrev nIs_word_alone : List Str := ["method", "word", "tail"]
theorem scIs_word_alone : FnScope nIs_word_alone ["method", "word", "tail"] (defScope sIs_word_alone) := ⟨rfl, rfl, rfl, by decide +kernel, rfl, by decide +kernel, by decide +kernel⟩
def spAlone : Sp := fun vs H Q _ => ∃ (m z : Str) (tail : Bool), vs = [.str m, .str z, .bl tail] ∧ m ∈ methods ∧ Q (.bl (aloneD m z tail)) H
theorem ok_alone (T : Txt K mg) {C p_ANSWER_WORDS : Addr} (g_ANSWER_WORDS : mg "ANSWER_WORDS" = some (.ref p_ANSWER_WORDS)) (tA : ∀ H, SqT K H p_ANSWER_WORDS (answerW.map V.str)) (D : DefAt K mg "_is_word_alone" sIs_word_alone ["method", "word", "tail"]) (CMay_decline : Ex.CalX P w K mg base 4 "may_decline" (spIn K C methods decliners)) :
    CalG P w K mg base 5 "_is_word_alone" spAlone := by
  refine D.by scIs_word_alone (fun vs H Q E h => ?_) (fun f cd A hg outer s H vs Q E hr h => ?_)
  · obtain ⟨_, _, _, rfl, _⟩ := h
    rfl
  · obtain ⟨m, z, tail, rfl, hm, q⟩ := h
    refine ⟨_, (pss_cons (ps_if (pt_cmpR op_eq (pv 1) pe_str (nomark _))
  (pss_one (ps_ret (pv 2)))
  pss_nil)
  (pss_cons (ps_if (pt_cmpR op_eq (pv 1) pe_str (nomark _))
  (pss_one (ps_ret (pe_and (pv 2) (pe_one (Ex.pe_x0 CMay_decline hg hr (by decide) (pa_cons (pv 0) pa_nil))))))
  pss_nil)
  (pss_one (ps_ret (pe_cmpR (r := rIn K false) op_in_seq (pv 1) (pe_glob (v := .ref p_ANSWER_WORDS) (by rfl) g_ANSWER_WORDS rfl) (by rfl)))))), ?_⟩
    have q : Q (.bl (if z = "further" then tail else if z = "decline" then tail && decide (m ∈ decliners) else decide (z ∈ answerW))) H := q
    repeat walk_at "rd"
    refine Rd.dec (fun c => ?_) (fun c => ?_)
    · repeat walk_at "rd"
      rw [if_pos (V.str.inj c)] at q
      exact q
    · rw [if_neg (fun e => c (by rw [e]))] at q
      repeat walk_at "rd"
      refine Rd.dec (fun c => ?_) (fun c => ?_)
      · rw [if_pos (V.str.inj c)] at q
        repeat walk_at "rd"
        refine Rd.bool (fun c => ?_) (fun c => ?_)
        · rw [c, Bool.true_and] at q
          repeat walk_at "rd"
          refine ⟨_, _, rfl, kd_str m, fun z ez _ => ?_, fun c => ?_⟩
          · cases ez
            exact q
          · rw [show isIn (.str m) methods = true from decide_eq_true hm] at c; cases c
        · rw [c, Bool.false_and] at q
          exact q
      · rw [if_neg (fun e => c (by rw [e]))] at q
        repeat walk_at "rd"
        refine inT (tA H) rfl (flat_strs _) ?_
        rw [if_neg Bool.false_ne_true, inV_str]
        exact q
end
end Ab
namespace Ab
open PySem.Spec PyProof.Rows
local macro_rules | `(tactic| walk_at "rd") => `(tactic| (with_reducible first | refine Rd.tt_ ?_ | refine Rd.ff_ ?_))
theorem data_prd {K : PySem.W.Frag} {H : Hp} : ∀ {ds : List PyData} {xs : List V}, DpAll K H xs ds → Paired (fun d x => Dp K H x d) ds xs
  | [], _, h => by rw [dpN h]; exact .nil
  | d :: ds, _, h => by
    obtain ⟨x, l, rfl, h1, h2⟩ := dpC h
    exact .cons h1 (data_prd h2)
section
variable {P : Program} {w : World} {K : PySem.W.Frag} {mg : Str → Option Value} {base : Heap}
abbrev sParts : Stmt := top 33
abbrev nParts : List Str := ["node"]
theorem scParts : FnScope nParts ["node"] (defScope sParts) := ⟨rfl, rfl, rfl, by decide +kernel, rfl, by decide +kernel, by decide +kernel⟩
def spParts (K : PySem.W.Frag) : Sp := fun vs H Q _ => ∃ (p : Addr) (z : Str) (xs : List V), vs = [.ref p] ∧ SqT K H p (.str z :: xs) ∧ PyData.strOk z = true ∧ ∀ t H', Same H H' → SqT K H' t (if z ∈ partW then xs else []) → Q (.ref t) H'
theorem ok_parts (T : Txt K mg) {p_PARTS : Addr} (pt : PartsA K w mg p_PARTS) (D : DefAt K mg "_parts" sParts ["node"]) : CalG P w K mg base 1 "_parts" (spParts K) := by
  have g_PARTS := pt.g
  obtain ⟨es, n, D_PARTS⟩ := pt.D
  refine D.by scParts (fun vs H Q E h => ?_) (fun f cd A hg outer s H vs Q E hr h => ?_)
  · obtain ⟨_, _, _, rfl, _⟩ := h
    rfl
  · obtain ⟨p, z, xs, rfl, hs, hz, q⟩ := h
    obtain ⟨r, hr1, hr2⟩ := pt.h _ hz
    refine ⟨_, (pss_one (ps_ret (pe_ifExp (pt_cmpR (r := rInKd K p_PARTS) (op_inKd D_PARTS) (pe_ix (r := rIxT K) ix_tup (pv 0) pe_int (fun _ _ => rfl)) (pe_glob (v := .ref p_PARTS) (by rfl) g_PARTS rfl) (by rfl)) (pe_slice (r := rSlA K) sl_tupA (pv 0) (po_some pe_int) po_none) (pe_tup pa_nil)))), ?_⟩
    repeat walk_at "rd"
    refine Rd.ixT hs (Rd.atN (by decide) rfl) ?_
    refine ⟨z, r, rfl, rfl, hr1, ?_⟩
    rw [hr2]
    refine ⟨_, rfl, ?_⟩
    refine Rd.dec (fun c => ?_) (fun c => ?_)
    · rw [if_pos c] at q
      repeat walk_at "rd"
      refine cutG hs fun t H' s' ht => ?_
      rw [cut_tail] at ht
      exact q t H' s' ht
    · rw [if_neg c] at q
      repeat walk_at "rd"
      refine ⟨Rd.sz (by simp), fun t ht => ?_⟩
      exact q t _ (Rd.sNew ht) (.inl (.inl upd_same))
abbrev sTails : Stmt := top 34
abbrev nTails : List Str := ["node", "tail"]
theorem scTails : FnScope nTails ["node", "tail"] (defScope sTails) := ⟨rfl, rfl, rfl, by decide +kernel, rfl, by decide +kernel, by decide +kernel⟩
def spTails (K : PySem.W.Frag) : Sp := fun vs H Q _ => ∃ (p : Addr) (z : Str) (xs : List V) (tail : Bool), vs = [.ref p, .bl tail] ∧ SqT K H p (.str z :: xs) ∧ PyData.strOk z = true ∧ (z = "not" → xs.length = 1) ∧ ∀ t H', Same H H' → SqT K H' t ((tailsW z tail).map V.bl) → Q (.ref t) H'
theorem ok_tails (T : Txt K mg) (D : DefAt K mg "_tails" sTails ["node", "tail"]) (CParts : CalG P w K mg base 1 "_parts" (spParts K)) : CalG P w K mg base 2 "_tails" (spTails K) := by
  refine D.by scTails (fun vs H Q E h => ?_) (fun f cd A hg outer s H vs Q E hr h => ?_)
  · obtain ⟨_, _, _, _, rfl, _⟩ := h
    rfl
  · obtain ⟨p, z, xs, tail, rfl, hs, hz, hn, q⟩ := h
    refine ⟨_, (pss_cons (ps_if (pt_cmpR (r := rEqD K) (op_eqD hr.units) (pe_ix (r := rIxT K) ix_tup (pv 0) pe_int (fun _ _ => rfl)) pe_str (nomark _))
  (pss_one (ps_ret (pe_tup (pa_cons pe_bl (pa_cons (pv 1) (pa_cons (pv 1) pa_nil))))))
  pss_nil)
  (pss_one (ps_ret (pe_op (r := Rt.rMul1 K) Rt.op_mul1 (pe_tup (pa_cons pe_bl pa_nil)) (pe_callB (r := Rd.rLenK K) Rd.callLen (by rfl) T.len PySem.boot_len (pa_cons (pe_cG CParts hg hr (by decide) (pa_cons (pv 0) pa_nil)) pa_nil)))))), ?_⟩
    repeat walk_at "rd"
    refine Rd.ixT hs (Rd.atN (by decide) rfl) ?_
    repeat walk_at "rd"
    refine Rd.eqD (d := .str z) (e := .str "if") (.str _) (.str _) (str_sh hz) (by decide +kernel) ?_
    rw [eqv_str]
    refine ⟨_, rfl, ?_⟩
    refine Rd.dec (fun c => ?_) (fun c => ?_)
    · rw [tailsW, if_pos c] at q
      repeat walk_at "rd"
      refine ⟨Rd.sz (by simp), fun t ht => ?_⟩
      exact q t _ (Rd.sNew ht) (.inl (.inl upd_same))
    · rw [tailsW, if_neg c] at q
      repeat walk_at "rd"
      refine ⟨Rd.sz (by simp), fun t ht => ?_⟩
      have s1 := Rd.sNew (o := .tup [.bl false]) ht
      have t1 : SqT K (upd H t (.tup [.bl false])) t [.bl false] := .inl (.inl upd_same)
      have hs1 := sqT_same s1 hs
      generalize upd H t (.tup [.bl false]) = H1 at s1 t1 hs1 ⊢
      repeat walk_at "rd"
      refine ⟨p, z, xs, rfl, hs1, hz, fun p2 H2 s2 h2 => ?_⟩
      repeat walk_at "rd"
      refine Rd.lenT h2 ?_
      by_cases cn : z = "not"
      · rw [if_pos cn] at q
        have e : ((if z ∈ partW then xs else []).length : Int) = 1 := by rw [cn, if_pos (show ("not" : Str) ∈ partW by decide +kernel), hn cn]; rfl
        rw [e]
        exact ⟨t, [.bl false], rfl, sqT_same s2 t1, by simp, .inl ⟨rfl, q t H2 (s1.trans s2) (sqT_same s2 t1)⟩⟩
      · rw [if_neg cn] at q
        have e : ((if z ∈ partW then xs else []).length : Int) = 0 := by rw [if_neg (show z ∉ partW by simp only [partW, List.mem_cons, List.not_mem_nil, or_false, not_or]; exact ⟨cn, c⟩)]; rfl
        rw [e]
        exact ⟨t, [.bl false], rfl, sqT_same s2 t1, by simp, .inr ⟨rfl, fun p3 hp3 => q p3 _ ((s1.trans s2).trans (Rd.sNew hp3)) (.inl (.inl upd_same))⟩⟩
abbrev sIs_ask : Stmt := top 30
abbrev nIs_ask : List Str := ["method", "node", "operation", "roles", "role"]
theorem scIs_ask : FnScope nIs_ask ["method", "node"] (defScope sIs_ask) := ⟨rfl, rfl, rfl, by decide +kernel, rfl, by decide +kernel, by decide +kernel⟩
def spAsk (K : PySem.W.Frag) : Sp := fun vs H Q _ => ∃ (v : V) (m : Str) (ds : List PyData), vs = [.str m, v] ∧ Dp K H v (.tuple (.str "ask" :: ds)) ∧ okUA ds = true ∧ m ∈ methods ∧ ds.length ≤ 1000 ∧ ∀ H', Same H H' → Q (.bl (askD m ds)) H'
set_option pp.maxSteps 3000 in
theorem ok_ask (T : Txt K mg) {p_ASKED_OF_ONE p_ASKED_OF_TWO : Addr} (g_ASKED_OF_ONE : mg "ASKED_OF_ONE" = some (.ref p_ASKED_OF_ONE)) (t1 : ∀ H, SqT K H p_ASKED_OF_ONE (askOne.map V.str)) (g_ASKED_OF_TWO : mg "ASKED_OF_TWO" = some (.ref p_ASKED_OF_TWO)) (t2 : ∀ H, SqT K H p_ASKED_OF_TWO (askTwo.map V.str))
    (D : DefAt K mg "_is_ask" sIs_ask ["method", "node"]) (CIs_role : CalG P w K mg base 5 "_is_role" (spRole K)) (CIs_one_of : CalG P w K mg base 1 "is_one_of" (spOneOf K)) : CalG P w K mg base 6 "_is_ask" (spAsk K) := by
  refine D.by scIs_ask (fun vs H Q E h => ?_) (fun f cd A hg outer s H vs Q E hr h => ?_)
  · obtain ⟨_, _, _, rfl, _⟩ := h
    rfl
  · obtain ⟨v, m, ds, rfl, dp, ok, hm, hl, q⟩ := h
    obtain ⟨p, xs, rfl, hs, ha⟩ := dpT dp
    obtain ⟨x1, ys, rfl, h1, ha1⟩ := dpC ha
    obtain rfl := dpS h1
    have len := dpa_len ha1
    refine ⟨_, (pss_cons (ps_if (pt_cmpR (r := rIn K true) op_notIn_seq (pe_callB (r := Rd.rLenK K) Rd.callLen (by rfl) T.len PySem.boot_len (pa_cons (pv 1) pa_nil)) (pe_tup (pa_cons pe_int (pa_cons pe_int pa_nil))) (by rfl))
  (pss_one (ps_ret pe_bl))
  pss_nil)
  (pss_cons (ps_asg (pe_slice (r := rSlA K) sl_tupA (pv 1) (po_some pe_int) po_none) (Sr.pg_star (n := 2) (i := 1) (by rfl) (pgs_cons (pg_name (i := 2) scIs_ask.nd rfl (Or.inl rfl)) (pgs_cons (pg_name (i := 3) scIs_ask.nd rfl (Or.inl rfl)) pgs_nil))))
  (pss_cons (ps_if (pt_not (pt_val (pe_callB (r := rAll K) (cr_all rfl) (by rfl) T.all (by decide +kernel) (pa_cons (pe_lc (wi := iList K _) (own := [("role", 4)]) (g := gName 4) (by rfl) scIs_ask.nd (pi_list (pv 3)) (blkOk_by (N := nIs_ask) (sc := defScope sIs_ask) (by decide +kernel)) (fun _ _ _ _ _ => pg_name (i := 4) scIs_ask.nd rfl (Or.inl rfl)) (fun _ _ _ _ _ => pts_nil) (fun _ _ _ _ _ => (pe_cG CIs_role hg hr (by decide) (pa_cons (pv 0) (pa_cons (pv 4) pa_nil))))) pa_nil))))
  (pss_one (ps_ret pe_bl))
  pss_nil)
  (pss_cons (ps_if (pt_cmpR op_eq (pe_callB (r := Rd.rLenK K) Rd.callLen (by rfl) T.len PySem.boot_len (pa_cons (pv 3) pa_nil)) pe_int (nomark _))
  (pss_one (ps_ret (pe_cG CIs_one_of hg hr (by decide) (pa_cons (pv 2) (pa_cons (pe_glob (v := .ref p_ASKED_OF_ONE) (by rfl) g_ASKED_OF_ONE rfl) pa_nil)))))
  pss_nil)
  (pss_one (ps_ret (pe_and (pe_cG CIs_one_of hg hr (by decide) (pa_cons (pv 2) (pa_cons (pe_glob (v := .ref p_ASKED_OF_TWO) (by rfl) g_ASKED_OF_TWO rfl) pa_nil))) (pe_one (pe_cmpR (r := rNeD K) (op_neD hr.units) (pe_ix (r := rIxL K) ix_list (pv 3) pe_int (fun _ _ => rfl)) (pe_ix (r := rIxL K) ix_list (pv 3) pe_int (fun _ _ => rfl)) (nomark _)))))))))), ?_⟩
    repeat walk_at "rd"
    refine Rd.lenT hs ?_
    repeat walk_at "rd"
    refine ⟨Rd.sz (by simp), fun t ht => ?_⟩
    have s1 := Rd.sNew (o := .tup [.int 3, .int 4]) ht
    refine inT (xs := [.int 3, .int 4]) (.inl (.inl upd_same)) rfl rfl ?_
    have ev : (if true = true then !inV (.int (((V.str "ask" :: ys).length : Nat) : Int)) [.int 3, .int 4] else inV (.int (((V.str "ask" :: ys).length : Nat) : Int)) [.int 3, .int 4]) = !decide (ds.length = 2 ∨ ds.length = 3) := by
      rw [if_pos rfl, List.length_cons, len]
      show (!(((3 : Int) == ((ds.length + 1 : Nat) : Int)) || (((4 : Int) == ((ds.length + 1 : Nat) : Int)) || false))) = _
      by_cases a : ds.length = 2
      · rw [a]; rfl
      · by_cases b : ds.length = 3
        · rw [b]; rfl
        · have n1 : ((3 : Int) == ((ds.length + 1 : Nat) : Int)) = false := beq_eq_false_iff_ne.mpr (by omega)
          have n2 : ((4 : Int) == ((ds.length + 1 : Nat) : Int)) = false := beq_eq_false_iff_ne.mpr (by omega)
          rw [n1, n2, decide_eq_false (by omega)]
          rfl
    rw [ev]
    have hs1 := sqT_same s1 hs
    have ha1 := dpa_mono s1 ha1
    generalize upd H t (.tup [.int 3, .int 4]) = H1 at s1 hs1 ha1 ⊢
    refine ⟨_, rfl, ?_⟩
    refine Rd.ndec (fun c => ?_) (fun hk => ?_)
    · have e : askD m ds = false := by
        match ds, c with
        | [], _ => rfl
        | [_], _ => rfl
        | [_, _], c => exact absurd (.inl rfl) c
        | [_, _, _], c => exact absurd (.inr rfl) c
        | _ :: _ :: _ :: _ :: _, _ => rfl
      rw [e] at q
      repeat walk_at "rd"
      exact q _ s1
    repeat walk_at "rd"
    refine cutG hs1 fun t3 H2 s2 ht3 => ?_
    rw [cut_tail] at ht3
    obtain ⟨dO, rs, rfl⟩ : ∃ dO rs, ds = dO :: rs := by
      cases ds with
      | nil => simp at hk
      | cons a l => exact ⟨a, l, rfl⟩
    obtain ⟨o, ys, rfl, ho, har⟩ := dpC (dpa_mono s2 ha1)
    have lenr := dpa_len har
    rw [okUA, Bool.and_eq_true] at ok
    repeat walk_at "rd"
    refine starR ht3 (by decide) (by simp) (by rw [List.length_cons, lenr]; rw [List.length_cons] at hl; omega) fun Dd hD => ?_
    have e1 : (o :: ys).take 1 ++ [.ref Dd] ++ ((o :: ys).drop 1).drop ((o :: ys).length + 1 - 2) = [o, .ref Dd] := by simp
    have e2 : ((o :: ys).drop 1).take ((o :: ys).length + 1 - 2) = ys := by simp
    rw [e1, e2]
    have s3 := Rd.sNew (o := .lst ys) hD
    have hd3 : upd H2 Dd (.lst ys) Dd = some (.lst ys) := upd_same
    have ho := dp_mono s3 ho
    have har := dpa_mono s3 har
    generalize upd H2 Dd (.lst ys) = H3 at s3 hd3 ho har ⊢
    repeat walk_at "rd"
    refine Rd.lcL (K := K) (a := Dd) (xs := ys) (bs := rs) (fun d x H => Dp K H x d) (fun (b : Bool) y _ => y = .bl b) (fun _ => true) (fun d => roleD m d) (fun R k => Rd.var rfl k) (SqL.of hd3) (fun _ _ _ _ s h => dp_mono s h) (fun _ _ _ _ _ h => h) (data_prd har) (by rw [lenr]; rw [List.length_cons] at hl; omega) (fun _ => rfl) ?_ ?_ ?_
    · intro b x H4 R _ _ _ _ k
      repeat walk_at "rd"
      exact k _ (Same.refl _)
    · rintro b x H4 R _ _ _ db s4 k
      obtain ⟨tn, kd⟩ := dp_kd db
      repeat walk_at "rd"
      exact ⟨m, x, tn, rfl, hm, kd, fun H' s' => k _ H' s' (Rd.off_any (by rw [dp_isIn _ db, role_inD]))⟩
    · intro Dx zs H4 hDx s4 hd pr
      have e : zs = (rs.map fun r => roleD m r).map V.bl := by
        rw [List.filter_eq_self.mpr (fun _ _ => rfl)] at pr
        exact Rd.pair_map pr
      rw [e] at hd
      have S := ((s1.trans s2).trans s3).trans s4
      have hd4 := s4 _ _ hd3
      have ho := dp_mono s4 ho
      have har := dpa_mono s4 har
      obtain ⟨tno, kdo⟩ := dp_kd ho
      repeat walk_at "rd"
      refine Rd.all_ (SqL.of hd) ?_
      rw [show (rs.map fun r => roleD m r).all id = rs.all (roleD m) by rw [List.all_map]; rfl]
      refine ⟨_, rfl, ?_⟩
      refine Rd.bool (fun c => ?_) (fun c => ?_)
      · have c : rs.all (roleD m) = false := by simpa using c
        have e : askD m (dO :: rs) = false := by
          match rs, hk, c with
          | [r], _, c => show (inD askOne dO && roleD m r) = false; simp at c; simp [c]
          | [r, z], _, c =>
            show (inD askTwo dO && roleD m r && roleD m z && !(PyData.eqv r z)) = false
            have c : (roleD m r && roleD m z) = false := by simpa using c
            rw [Bool.and_assoc (inD askTwo dO), c]
            simp
          | [], hk, _ => simp at hk
          | _ :: _ :: _ :: _, hk, _ => simp at hk
        rw [e] at q
        repeat walk_at "rd"
        exact q _ S
      · have c : rs.all (roleD m) = true := by simpa using c
        repeat walk_at "rd"
        match rs, hk, c, ys, har, lenr, hd4, ok with
        | [r], _, c, [y], har, _, hd4, ok =>
          refine Rd.dec (fun _ => ?_) (fun z => absurd rfl z)
          have e : askD m [dO, r] = inD askOne dO := by
            show (inD askOne dO && roleD m r) = _
            rw [show roleD m r = true by simpa using c, Bool.and_true]
          rw [e] at q
          repeat walk_at "rd"
          refine ⟨o, p_ASKED_OF_ONE, tno, askOne, rfl, kdo, t1 _, ?_⟩
          rw [dp_isIn _ ho]
          exact q _ S
        | [r, z], _, c, [y, y2], har, _, hd4, ok =>
          obtain ⟨x1, l1, e, hr1, hx⟩ := dpC har
          cases e
          obtain ⟨x2, l2, e, hr2, _⟩ := dpC hx
          cases e
          have c2 : roleD m r = true ∧ roleD m z = true := by simpa using c
          refine Rd.dec (fun e => by cases e) (fun _ => ?_)
          have e : askD m [dO, r, z] = (inD askTwo dO && !(PyData.eqv r z)) := by
            show (inD askTwo dO && roleD m r && roleD m z && !(PyData.eqv r z)) = _
            rw [c2.1, c2.2, Bool.and_true, Bool.and_true]
          rw [e] at q
          repeat walk_at "rd"
          refine ⟨o, p_ASKED_OF_TWO, tno, askTwo, rfl, kdo, t2 _, ?_⟩
          rw [dp_isIn _ ho]
          refine ⟨_, rfl, ?_⟩
          refine Rd.bool (fun c => ?_) (fun c => ?_)
          · rw [c, Bool.true_and] at q
            have ok2 := ok.2
            rw [okUA, okUA, okUA, Bool.and_eq_true, Bool.and_eq_true] at ok2
            have sh : ∀ d, roleD m d = true → okU d = true → SeqAt.shaped d = true := by
              intro d h1 h2
              cases d with
              | str z => exact str_sh h2
              | _ => cases h1
            repeat walk_at "rd"
            refine Rd.neD hr1 hr2 (sh _ c2.1 ok2.1) (sh _ c2.2 ok2.2.1) ?_
            exact q _ S
          · rw [c, Bool.false_and] at q
            exact q _ S
        | [], hk, _, _, _, _, _, _ => simp at hk
        | _ :: _ :: _ :: _, hk, _, _, _, _, _, _ => simp at hk
end
end Ab
namespace Ab
open PySem.Spec PyProof.Rows
local macro_rules | `(tactic| walk_at "rd") => `(tactic| (with_reducible first | refine Rd.tt_ ?_ | refine Rd.ff_ ?_))
mutual
def wid : PyData → Nat
  | .list xs => max xs.length (widA xs)
  | .tuple xs => max xs.length (widA xs)
  | _ => 0
def widA : List PyData → Nat
  | [] => 0
  | x :: xs => max (wid x) (widA xs)
end
theorem widA_mem : ∀ {xs : List PyData} {x : PyData}, x ∈ xs → wid x ≤ widA xs
  | y :: ys, x, h => by
    rw [widA]
    rcases List.mem_cons.mp h with rfl | h
    · omega
    · have := widA_mem h; omega
theorem depA_mem : ∀ {xs : List PyData} {x : PyData}, x ∈ xs → PyData.depth x ≤ PyData.depthAll xs
  | y :: ys, x, h => by
    rw [PyData.depthAll]
    rcases List.mem_cons.mp h with rfl | h
    · omega
    · have := depA_mem h; omega
theorem wtA_mem : ∀ {xs : List PyData} {x : PyData}, x ∈ xs → PyData.weight x ≤ PyData.weightAll xs
  | y :: ys, x, h => by
    rw [PyData.weightAll]
    rcases List.mem_cons.mp h with rfl | h
    · omega
    · have := wtA_mem h; omega
def strD : PyData → Bool
  | .str _ => true
  | _ => false
theorem dp_strD {K : PySem.W.Frag} {H : Hp} {v : V} {d : PyData} (h : Dp K H v d) : isStr v = strD d := by cases h <;> rfl
structure Uni (d : PyData) : Prop where
  ok : okU d = true
  wd : wid d ≤ 100
  dp : PyData.depth d ≤ 500
theorem Uni.mem {ds : List PyData} {d : PyData} (h : Uni (.tuple ds)) (m : d ∈ ds) : Uni d := by
  obtain ⟨a, b, c⟩ := h
  rw [okU, okUA_iff] at a
  rw [wid] at b
  rw [PyData.depth] at c
  have h1 := widA_mem m
  have h2 := depA_mem m
  exact ⟨a d m, by omega, by omega⟩
theorem Uni.len {ds : List PyData} (h : Uni (.tuple ds)) : ds.length ≤ 100 := by
  have := h.wd
  rw [wid] at this
  omega
section
variable {P : Program} {w : World} {K : PySem.W.Frag} {mg : Str → Option Value} {base : Heap}
abbrev sIs_node : Stmt := top 32
abbrev nIs_node : List Str := ["method", "node", "tail", "word"]
theorem scIs_node : FnScope nIs_node ["method", "node", "tail"] (defScope sIs_node) := ⟨rfl, rfl, rfl, by decide +kernel, rfl, by decide +kernel, by decide +kernel⟩
def spNode (K : PySem.W.Frag) : Sp := fun vs H Q _ => ∃ (v : V) (m : Str) (d : PyData) (tail : Bool), vs = [.str m, v, .bl tail] ∧ Dp K H v d ∧ Uni d ∧ m ∈ methods ∧ ∀ H', Same H H' → Q (.bl (nodeD m tail d)) H'
set_option pp.maxSteps 3000 in
theorem ok_node (T : Txt K mg) {p_PARTS : Addr} (pt : PartsA K w mg p_PARTS) (D : DefAt K mg "_is_node" sIs_node ["method", "node", "tail"]) (CIs_count : CalG P w K mg base 2 "is_count" (spCnt K)) (CIs_ask : CalG P w K mg base 6 "_is_ask" (spAsk K)) (CIs_word_alone : CalG P w K mg base 5 "_is_word_alone" spAlone) :
    CalG P w K mg base 7 "_is_node" (spNode K) := by
  have g_PARTS := pt.g
  obtain ⟨es, n, D_PARTS⟩ := pt.D
  refine D.by scIs_node (fun vs H Q E h => ?_) (fun f cd A hg outer s H vs Q E hr h => ?_)
  · obtain ⟨_, _, _, _, rfl, _⟩ := h
    rfl
  · obtain ⟨v, m, d, tail, rfl, dp, uni, hm, q⟩ := h
    refine ⟨_, (pss_cons (ps_if (PW.pt (pw_or (pt_not (pt_val (pe_callB (r := rIsi K) call_isi (by rfl) T.isinstance (by decide +kernel) (pa_cons (pv 1) (pa_cons (pe_bltn (v := .ty "tuple") (by rfl) T.tuple (by decide +kernel) rfl) pa_nil))))) (pw_or (pt_not (Rd.ptTru (K := K) rfl (pt_truth (pv 1) (by intro _; rfl)))) (pw_or1 (pt_not (pt_val (pe_callB (r := rIsi K) call_isi (by rfl) T.isinstance (by decide +kernel) (pa_cons (pe_ix (r := rIxT K) ix_tup (pv 1) pe_int (fun _ _ => rfl)) (pa_cons (pe_bltn (v := .ty "str") (by rfl) T.str (by decide +kernel) rfl) pa_nil)))))))))
  (pss_one (ps_ret pe_bl))
  pss_nil)
  (pss_cons (ps_set (i := 3) scIs_node.nd rfl (Or.inl rfl) (pe_ix (r := rIxT K) ix_tup (pv 1) pe_int (fun _ _ => rfl)))
  (pss_cons (ps_if (pt_cmpR (r := rInKd K p_PARTS) (op_inKd D_PARTS) (pv 3) (pe_glob (v := .ref p_PARTS) (by rfl) g_PARTS rfl) (by rfl))
  (pss_one (ps_ret (pe_cmpR op_eq (pe_callB (r := Rd.rLenK K) Rd.callLen (by rfl) T.len PySem.boot_len (pa_cons (pv 1) pa_nil)) (pe_op op_add pe_int (pe_ix (r := rIxD K w) ix_kdict (pe_glob (v := .ref p_PARTS) (by rfl) g_PARTS rfl) (pv 3) (fun _ _ => rfl))) (nomark _))))
  pss_nil)
  (pss_cons (ps_if (pt_cmpR op_eq (pv 3) pe_str (nomark _))
  (pss_one (ps_ret (pe_and (pe_cmpR op_eq (pe_callB (r := Rd.rLenK K) Rd.callLen (by rfl) T.len PySem.boot_len (pa_cons (pv 1) pa_nil)) pe_int (nomark _)) (pe_one (pe_cG CIs_count hg hr (by decide) (pa_cons (pe_ix (r := rIxT K) ix_tup (pv 1) pe_int (fun _ _ => rfl)) pa_nil))))))
  pss_nil)
  (pss_cons (ps_if (pt_cmpR op_eq (pv 3) pe_str (nomark _))
  (pss_one (ps_ret (pe_cG CIs_ask hg hr (by decide) (pa_cons (pv 0) (pa_cons (pv 1) pa_nil)))))
  pss_nil)
  (pss_one (ps_ret (pe_and (pe_cmpR op_eq (pe_callB (r := Rd.rLenK K) Rd.callLen (by rfl) T.len PySem.boot_len (pa_cons (pv 1) pa_nil)) pe_int (nomark _)) (pe_one (pe_cG CIs_word_alone hg hr (by decide) (pa_cons (pv 0) (pa_cons (pv 3) (pa_cons (pv 2) pa_nil))))))))))))), ?_⟩
    have q0 := q H (Same.refl _)
    repeat walk_at "rd"
    have other : ∀ tn, TyX K H v (.type tn) → kitB tn "tuple" = some false → nodeD m tail d = false → rIsi K [v, .ty "tuple"] H (fun x H' => x = .bl false ∧ H' = H) := fun tn ty kt _ => isi ty kt ⟨rfl, rfl⟩
    clear other
    have bad : nodeD m tail d = false → Q (.bl false) H := fun e => by rw [e] at q0; exact q0
    cases d with
    | none => refine isi (.base (by cases dp; exact .non)) (by show kitB "NoneType" "tuple" = some false; decide +kernel) ?_; repeat walk_at "rd"; exact bad rfl
    | bool b => refine isi (.base (by cases dp; exact .bl b)) (by show kitB "bool" "tuple" = some false; decide +kernel) ?_; repeat walk_at "rd"; exact bad rfl
    | int i => refine isi (.base (by cases dp; exact .int i)) (by show kitB "int" "tuple" = some false; decide +kernel) ?_; repeat walk_at "rd"; exact bad rfl
    | str z => refine isi (.base (by cases dp; exact .str z)) (by show kitB "str" "tuple" = some false; decide +kernel) ?_; repeat walk_at "rd"; exact bad rfl
    | list xs =>
      cases dp with
      | lst a b => refine isi (lst_ty a) (by show kitB "list" "tuple" = some false; decide +kernel) ?_; repeat walk_at "rd"; exact bad rfl
    | dict xs => cases dp
    | tuple ds =>
      obtain ⟨p, xs, rfl, hs, ha⟩ := dpT dp
      have len := dpa_len ha
      refine isi (tup_ty hs) (by show kitB "tuple" "tuple" = some true; decide +kernel) ?_
      refine ⟨_, rfl, ?_⟩
      refine offI ?_
      repeat walk_at "rd"
      refine ⟨!xs.isEmpty, .inr (.inl ⟨_, hs, rfl⟩), ?_⟩
      cases ds with
      | nil =>
        obtain rfl := dpN ha
        refine Rd.tt_ ?_
        repeat walk_at "rd"
        exact bad rfl
      | cons d0 ds =>
        obtain ⟨x0, xs, rfl, h0, hax⟩ := dpC ha
        have lenx := dpa_len hax
        refine Rd.ff_ ?_
        repeat walk_at "rd"
        refine Rd.ixT hs (Rd.atN (by decide) rfl) ?_
        repeat walk_at "rd"
        obtain ⟨tn0, kd0⟩ := dp_kd h0
        refine isi kd0.ty kd0.s ?_
        rw [dp_strD h0]
        by_cases hw : ∃ z, d0 = .str z
        · obtain ⟨z, rfl⟩ := hw
          obtain rfl := dpS h0
          have zU : PyData.strOk z = true := (uni.mem List.mem_cons_self).ok
          obtain ⟨r, hr1, hr2⟩ := pt.h _ zU
          have dsU : ∀ x ∈ ds, Uni x := fun x hx => uni.mem (List.mem_cons_of_mem _ hx)
          have dl := uni.len
          rw [List.length_cons] at dl
          refine ⟨_, rfl, ?_⟩
          refine Rd.ff_ ?_
          repeat walk_at "rd"
          refine Rd.ixT hs (Rd.atN (by decide) rfl) ?_
          repeat walk_at "rd"
          refine ⟨z, r, rfl, rfl, hr1, ?_⟩
          rw [hr2]
          refine ⟨_, rfl, ?_⟩
          have q0 : Q (.bl (wordD m z ds tail)) H := q0
          have q : ∀ H', Same H H' → Q (.bl (wordD m z ds tail)) H' := q
          refine Rd.dec (fun c => ?_) (fun c => ?_)
          · have c : z = "not" ∨ z = "if" := by simpa [partW] using c
            repeat walk_at "rd"
            refine Rd.lenT hs ?_
            repeat walk_at "rd"
            rcases c with rfl | rfl
            · refine ⟨p_PARTS, "not", _, rfl, rfl, pt.n1, ?_⟩
              repeat walk_at "rd"
              have e : decide (V.int (((V.str "not" :: xs).length : Nat) : Int) = V.int (1 + 1)) = wordD m "not" ds tail := by
                show _ = (if ("not" : Str) = "not" then ds.length == 1 else _)
                rw [if_pos rfl, List.length_cons, lenx]
                by_cases e : ds.length = 1
                · rw [e]; rfl
                · rw [decide_eq_false (fun z => e (by have := V.int.inj z; omega))]
                  exact (beq_eq_false_iff_ne.mpr e).symm
              rw [e]
              exact q0
            · refine ⟨p_PARTS, "if", _, rfl, rfl, pt.n3, ?_⟩
              repeat walk_at "rd"
              have e : decide (V.int (((V.str "if" :: xs).length : Nat) : Int) = V.int (1 + 3)) = wordD m "if" ds tail := by
                show _ = (if ("if" : Str) = "not" then _ else if ("if" : Str) = "if" then ds.length == 3 else _)
                rw [if_neg (by decide +kernel), if_pos rfl, List.length_cons, lenx]
                by_cases e : ds.length = 3
                · rw [e]; rfl
                · rw [decide_eq_false (fun z => e (by have := V.int.inj z; omega))]
                  exact (beq_eq_false_iff_ne.mpr e).symm
              rw [e]
              exact q0
          · have c : z ≠ "not" ∧ z ≠ "if" := by simpa [partW, not_or] using c
            rw [wordD, if_neg c.1, if_neg c.2] at q0
            repeat walk_at "rd"
            refine Rd.dec (fun cc => ?_) (fun cc => ?_)
            · obtain rfl := V.str.inj cc
              rw [if_pos rfl] at q0
              repeat walk_at "rd"
              refine Rd.lenT hs ?_
              repeat walk_at "rd"
              refine Rd.dec (fun l2 => ?_) (fun l2 => ?_)
              · have l2 := V.int.inj l2
                rw [List.length_cons, lenx] at l2
                match ds, xs, hax, q0, l2 with
                | [dc], [y], hax, q0, _ =>
                  obtain ⟨y', _, e, hy, _⟩ := dpC hax
                  cases e
                  obtain ⟨tn, kd⟩ := dp_kd hy
                  repeat walk_at "rd"
                  refine Rd.ixT hs (Rd.atN (by decide) rfl) ?_
                  repeat walk_at "rd"
                  refine ⟨y, tn, rfl, kd, ?_⟩
                  rw [dp_isCnt hy]
                  exact q0
                | [], _, _, _, l2 => exact absurd l2 (by decide)
                | _ :: _ :: _, _, _, _, l2 => simp at l2; omega
              · match ds, q0, l2 with
                | [], q0, _ => exact q0
                | [_], _, l2 => exact absurd (by rw [List.length_cons, lenx]; rfl) l2
                | _ :: _ :: _, q0, _ => exact q0
            · have cc : z ≠ "count" := fun e => cc (by rw [e])
              rw [if_neg cc] at q0
              repeat walk_at "rd"
              refine Rd.dec (fun ca => ?_) (fun ca => ?_)
              · obtain rfl := V.str.inj ca
                repeat walk_at "rd"
                refine ⟨.ref p, m, ds, rfl, dp, okUA_iff.mpr fun x hx => (dsU x hx).ok, hm, by omega, fun H' s' => ?_⟩
                have := q H' s'
                rw [wordD, if_neg c.1, if_neg c.2, if_neg cc, if_pos rfl] at this
                exact this
              · have ca : z ≠ "ask" := fun e => ca (by rw [e])
                rw [if_neg ca] at q0
                repeat walk_at "rd"
                refine Rd.lenT hs ?_
                repeat walk_at "rd"
                refine Rd.dec (fun l1 => ?_) (fun l1 => ?_)
                · have l1 := V.int.inj l1
                  rw [List.length_cons, lenx] at l1
                  have e : ds = [] := List.length_eq_zero_iff.mp (by omega)
                  rw [e] at q0
                  repeat walk_at "rd"
                  exact ⟨m, z, tail, rfl, hm, q0⟩
                · have e : ds.isEmpty = false := by
                    cases ds with
                    | nil => exact absurd (by rw [List.length_cons, lenx]; rfl) l1
                    | cons _ _ => rfl
                  rw [e, Bool.false_and] at q0
                  exact q0
        · have e1 : strD d0 = false := by
            cases d0 with
            | str z => exact absurd ⟨z, rfl⟩ hw
            | _ => rfl
          have e2 : nodeD m tail (.tuple (d0 :: ds)) = false := by
            cases d0 with
            | str z => exact absurd ⟨z, rfl⟩ hw
            | _ => rfl
          rw [e1]
          refine ⟨_, rfl, ?_⟩
          refine Rd.tt_ ?_
          repeat walk_at "rd"
          exact bad e2
end
end Ab
namespace Ab
open PySem.Spec PyProof.Rows
local macro_rules | `(tactic| walk_at "rd") => `(tactic| (with_reducible first | refine Rd.tt_ ?_ | refine Rd.ff_ ?_))
theorem walk_zipT {K : PySem.W.Frag} {a b : Addr} {xs ys : List V} (e : ys.length = xs.length) : Walk (RZ.ItzT K a b) xs.length (fun H => SqT K H a xs ∧ SqT K H b ys) (YPair (fun i => xs[i]?) (fun i => ys[i]?)) :=
  ⟨fun i _ hi q => ⟨xs, ys, xs[i], ys[i]'(by omega), q.1, q.2, List.getElem?_eq_getElem hi, List.getElem?_eq_getElem (by omega)⟩, fun _ q => ⟨xs, ys, q.1, q.2, .inl (Nat.le_refl _)⟩,
    fun _ _ _ _ _ q ⟨t, x, y, h1, h2, h3, h4, h5⟩ => ⟨t, x, y, h1, h2, h3, h4 xs q.1, h5 ys q.2⟩⟩
/-- all but what stands at p stays -/
def Keep (p : Addr) (H H' : Hp) : Prop := ∀ b o, b ≠ p → H b = some o → H' b = some o
theorem Keep.same {p : Addr} {H H1 : Hp} (s : Same H H1) : Keep p H H1 := fun b u _ e => s b u e
theorem Keep.put {p : Addr} {H H1 : Hp} {o : HO} (a : Keep p H H1) : Keep p H (upd H1 p o) := fun b u n e => by rw [upd_ne n]; exact a b u n e
theorem Keep.trans {p : Addr} {H H1 H2 : Hp} (a : Keep p H H1) (b : Keep p H1 H2) : Keep p H H2 := fun q u n e => b q u n (a q u n e)
theorem sqT_keep {K : PySem.W.Frag} {p a : Addr} {H H' : Hp} {xs : List V} (k : Keep p H H') (n : NoTup H p) (h : SqT K H a xs) : SqT K H' a xs := by
  rcases h with (h | ⟨o, h⟩) | h
  · exact .inl (.inl (k _ _ (fun e => by subst e; exact (n _ h).1 _ rfl) h))
  · exact .inl (.inr ⟨o, k _ _ (fun e => by subst e; exact (n _ h).2 _ _ rfl) h⟩)
  · exact .inr h
/-- it waits in the heap; its data stand in H0 -/
def ItB (K : PySem.W.Frag) (H0 H : Hp) (z : Wt) (x : V) : Prop := ∃ t v, x = .ref t ∧ SqT K H t [v, .int (z.2.1 : Int), .bl z.2.2] ∧ Dp K H0 v z.1 ∧ Uni z.1
theorem ItB.keep {K : PySem.W.Frag} {p : Addr} {H0 H H' : Hp} {z : Wt} {x : V} (k : Keep p H H') (n : NoTup H p) (h : ItB K H0 H z x) : ItB K H0 H' z x :=
  let ⟨t, v, e, h1, h2⟩ := h
  ⟨t, v, e, sqT_keep k n h1, h2⟩
theorem ItB.mono {K : PySem.W.Frag} {H0 H H' : Hp} {z : Wt} {x : V} (s : Same H H') (h : ItB K H0 H z x) : ItB K H0 H' z x :=
  let ⟨t, v, e, h1, h2⟩ := h
  ⟨t, v, e, sqT_same s h1, h2⟩
theorem pair_cat {α β : Type} {F : α → β → Prop} : ∀ {as as' : List α} {bs bs' : List β}, Paired F as bs → Paired F as' bs' → Paired F (as ++ as') (bs ++ bs')
  | _, _, _, _, .nil, h => h
  | _, _, _, _, .cons a b, h => .cons a (pair_cat b h)
theorem pair_len' {α β : Type} {F : α → β → Prop} : ∀ {as : List α} {bs : List β}, Paired F as bs → as.length = bs.length
  | _, _, .nil => rfl
  | _, _, .cons _ t => by rw [List.length_cons, List.length_cons, pair_len' t]
theorem dpa_get {K : PySem.W.Frag} {H : Hp} : ∀ {xs : List V} {ds : List PyData} {i : Nat} {x : V} {d : PyData}, DpAll K H xs ds → xs[i]? = some x → ds[i]? = some d → Dp K H x d
  | _, _, 0, _, _, .cons a _, h1, h2 => by
    rw [List.getElem?_cons_zero] at h1 h2
    cases h1
    cases h2
    exact a
  | _, _, i + 1, _, _, .cons _ b, h1, h2 => by
    rw [List.getElem?_cons_succ] at h1 h2
    exact dpa_get b h1 h2
  | _, _, _, _, _, .nil, h1, _ => by simp at h1
theorem zipK {K : PySem.W.Frag} {te : TE} {vs : List Nat} {i j d : Nat} {σ : L2.St} {H0 H1 : Hp} {Q : VK} {a b : Addr} {xs : List V} {ds : List PyData} {ts : List Bool} (hx : SqT K H1 a xs) (hd : DpAll K H0 xs ds) (hu : ∀ x ∈ ds, Uni x) (hb : SqT K H1 b (ts.map V.bl)) (kt : ts.length = ds.length) (l3 : ds.length ≤ 3)
    (hw : ∀ x y, wipe (((wipe σ vs).set i (some x)).set j (some y)) vs = wipe σ vs)
    (elem : ∀ x (c : Bool) H2 (R : VK), Same H1 H2 → (∀ p, H2 p = none → R (.ref p) (upd H2 p (.tup [x, .int ((d + 1 : Nat) : Int), .bl c]))) → te (((wipe σ vs).set i (some x)).set j (some (.bl c))) H2 R)
    (fin : ∀ D ys H2, H1 D = none → Same H1 H2 → H2 D = some (.lst ys) → Paired (ItB K H0 H2) ((ds.zip ts).map fun p => (p.1, d + 1, p.2)) ys → Q (.ref D) H2) : Rd.LcGo (RZ.ItzT K a b) (gTup K 2 (gCons (gName i) (gCons (gName j) gNil))) tYes te vs σ Q H1 := by
  intro D hD
  have len := dpa_len hd
  have lk : ((ds.zip ts).map fun p => ((p.1, d + 1, p.2) : Wt)).length = xs.length := by
    rw [List.length_map, List.length_zip, kt, len]
    omega
  have le : (ts.map V.bl).length = xs.length := by rw [List.length_map, kt, len]
  have lx : xs.length ≤ 3 := by rw [len]; exact l3
  refine lc_it (walk_zipT (K := K) (a := a) (b := b) (xs := xs) (ys := ts.map V.bl) le) (fun n H2 => ∃ ys, H2 D = some (.lst ys) ∧ ys.length ≤ n ∧ Same H1 H2 ∧ Paired (ItB K H0 H2) (((ds.zip ts).map fun p => ((p.1, d + 1, p.2) : Wt)).take n) ys) ⟨[], upd_same, Nat.le_refl _, Rd.sNew hD, .nil⟩ ?_ ?_ ?_
  · rintro n H2 _ ⟨ys, _, _, s, _⟩
    exact ⟨sqT_same s hx, sqT_same s hb⟩
  · rintro n v H2 H3 hn ⟨ys, h2, hy, s, pr⟩ ⟨T, x, y, rfl, hT, rfl, ex, ey⟩
    have ex : xs[n]? = some x := ex
    have ey : (ts.map V.bl)[n]? = some y := ey
    rw [List.getElem?_map] at ey
    have ln : n < ts.length := by rw [List.length_map] at le; omega
    rw [List.getElem?_eq_getElem ln] at ey
    cases ey
    have lkn : n < ds.length := by omega
    have s3 := Rd.sNew (o := .tup [x, V.bl ts[n]]) hT
    refine ⟨T, _, rfl, .inl (.inl upd_same), rfl, ⟨_, _, rfl, ⟨_, _, rfl, ⟨rfl, ?_⟩⟩⟩⟩
    refine ⟨hw _ _, Rd.yes (Rd.tt_ ?_)⟩
    refine elem _ _ _ _ (s.trans s3) fun p hp => ?_
    have s4 := Rd.sNew (o := .tup [x, .int ((d + 1 : Nat) : Int), .bl ts[n]]) hp
    have h4 := s4 _ _ (s3 _ _ h2)
    have nt := nt_lst h4
    refine ⟨ys, h4, Rd.szl (by omega), ys ++ [.ref p], upd_same, by rw [List.length_append]; simp; omega, Rd.sMut ((s.trans s3).trans s4) hD, ?_⟩
    have kz : ((ds.zip ts).map fun p => ((p.1, d + 1, p.2) : Wt))[n]? = some (ds[n], d + 1, ts[n]) := by
      rw [List.getElem?_map, (List.getElem?_zip_eq_some (z := (ds[n], ts[n]))).mpr ⟨List.getElem?_eq_getElem lkn, List.getElem?_eq_getElem ln⟩]
      rfl
    rw [List.take_add_one, kz]
    have kp : Keep D H2 (upd (upd (upd H2 T (.tup [x, V.bl ts[n]])) p (.tup [x, .int ((d + 1 : Nat) : Int), .bl ts[n]])) D (.lst (ys ++ [.ref p]))) := (Keep.same (s3.trans s4)).put
    refine pair_cat (Rd.pair_imp (fun z x h => ItB.keep kp (nt_lst h2) h) pr) (.cons ⟨p, x, rfl, sqT_upd nt (.inl (.inl upd_same)), ?_⟩ .nil)
    exact ⟨dpa_get hd ex (List.getElem?_eq_getElem lkn), hu _ (List.getElem_mem lkn)⟩
  · rintro H2 ⟨ys, h2, hy, s, pr⟩
    rw [← lk, List.take_length] at pr
    exact fin D ys H2 hD s h2 pr
theorem zipD {K : PySem.W.Frag} {ta : TA} {g : TG} {tt : TT} {te : TE} {vs0 : List Nat} {σ : L2.St} {H : Hp} {Q : VK} (k : ta σ H fun vs H1 => ∃ a b xs ys, vs = [.ref a, .ref b] ∧ ((SqL K H1 a xs ∧ SqL K H1 b ys ∧ Rd.LcGo (Itz K a b) g tt te vs0 σ Q H1) ∨ (SqT K H1 a xs ∧ SqT K H1 b ys ∧ Rd.LcGo (RZ.ItzT K a b) g tt te vs0 σ Q H1))) : tLc (RZ.iZipA K ta) g tt te vs0 σ H Q := k
theorem revL {K : PySem.W.Frag} {te : TE} {σ : L2.St} {H : Hp} {Q : VK} (k : te σ H fun x H1 => ∃ a xs, x = .ref a ∧ SqL K H1 a xs ∧ ∀ p, H1 p = none → Q (.ref p) (upd H1 p (.lst xs.reverse))) : tRevL K te σ H Q := k
def numV : Option Nat → V
  | none => .non
  | some n => .int (n : Int)
/-- a right node by itself -/
theorem node_ok {m : Str} {t : Bool} {d : PyData} (h : nodeD m t d = true) : ∃ z ds, d = .tuple (.str z :: ds) ∧ (z = "not" → ds.length = 1) ∧ (z = "if" → ds.length = 3) ∧ (tailsW z t).length = (if z ∈ partW then ds else []).length ∧ (if z ∈ partW then ds else []).length ≤ 3 := by
  match d, h with
  | .tuple (.str z :: ds), h =>
    have h : wordD m z ds t = true := h
    have n1 : z = "not" → ds.length = 1 := fun e => by
      rw [wordD, if_pos e] at h
      exact beq_iff_eq.mp h
    have n3 : z = "if" → ds.length = 3 := fun e => by
      rw [wordD, if_neg (fun z' => by rw [z'] at e; exact absurd e (by decide +kernel)), if_pos e] at h
      exact beq_iff_eq.mp h
    refine ⟨z, ds, rfl, n1, n3, ?_⟩
    by_cases a : z = "if"
    · rw [tailsW, if_pos a, if_pos (show z ∈ partW by rw [a]; decide +kernel), n3 a]
      exact ⟨rfl, by decide⟩
    · by_cases b : z = "not"
      · rw [tailsW, if_neg a, if_pos b, if_pos (show z ∈ partW by rw [b]; decide +kernel), n1 b]
        exact ⟨rfl, by decide⟩
      · rw [tailsW, if_neg a, if_neg b, if_neg (show z ∉ partW by simp only [partW, List.mem_cons, List.not_mem_nil, or_false, not_or]; exact ⟨b, a⟩)]
        exact ⟨rfl, by decide⟩
section
variable {P : Program} {w : World} {K : PySem.W.Frag} {mg : Str → Option Value} {base : Heap}
abbrev sFirst_wrong : Stmt := top 35
abbrev nFirst_wrong : List Str := ["method", "expression", "waiting", "place", "node", "depth", "tail", "parts", "part", "at_tail"]
theorem scFirst_wrong : FnScope nFirst_wrong ["method", "expression"] (defScope sFirst_wrong) := ⟨rfl, rfl, rfl, by decide +kernel, rfl, by decide +kernel, by decide +kernel⟩
def spFirst (K : PySem.W.Frag) : Sp := fun vs H Q _ => ∃ (v : V) (m : Str) (d : PyData), vs = [.str m, v] ∧ Dp K H v d ∧ Uni d ∧ m ∈ methods ∧ ∀ H', Same H H' → Q (numV (goW m 16 [(d, 1, true)])) H'
set_option pp.maxSteps 3000 in
theorem ok_first (T : Txt K mg) {t16 t6 : Tok} (g_MOST_NODES : mg "MOST_NODES" = some (.int 16 t16)) (g_MOST_DEPTH : mg "MOST_DEPTH" = some (.int 6 t6)) (D : DefAt K mg "_first_wrong" sFirst_wrong ["method", "expression"]) (CParts : CalG P w K mg base 1 "_parts" (spParts K)) (CTails : CalG P w K mg base 2 "_tails" (spTails K))
    (CIs_node : CalG P w K mg base 7 "_is_node" (spNode K)) : CalG P w K mg base 8 "_first_wrong" (spFirst K) := by
  refine D.by scFirst_wrong (fun vs H Q E h => ?_) (fun f cd A hg outer s H vs Q E hr h => ?_)
  · obtain ⟨_, _, _, rfl, _⟩ := h
    rfl
  · obtain ⟨v0, m, d0, rfl, dp0, un0, hm, q⟩ := h
    refine ⟨_, (pss_cons (ps_set (i := 2) scFirst_wrong.nd rfl (Or.inl rfl) (pe_lst (pa_cons (pe_tup (pa_cons (pv 1) (pa_cons pe_int (pa_cons pe_bl pa_nil)))) pa_nil)))
  (pss_cons (ps_set (i := 3) scFirst_wrong.nd rfl (Or.inl rfl) pe_int)
  (pss_cons (ps_while PassesOwn.never (Rd.ptTru (K := K) rfl (pt_truth (pv 2) (by intro _; rfl)))
  (pss_cons (ps_asg (pe_bm0 PySem.F.plainAttrs_list PySem.F.slot_list_pop PySem.F.type_list_pop mt_pop (pv 2)) (pg_tup (by rfl) (pgs_cons (pg_name (i := 4) scFirst_wrong.nd rfl (Or.inl rfl)) (pgs_cons (pg_name (i := 5) scFirst_wrong.nd rfl (Or.inr rfl)) (pgs_cons (pg_name (i := 6) scFirst_wrong.nd rfl (Or.inl rfl)) pgs_nil)))))
  (pss_cons (ps_if (PW.pt (pw_or (pt_cmpR op_eq (pv 3) (pe_glob (v := .int 16) (by rfl) g_MOST_NODES ⟨_, rfl⟩) (nomark _)) (pw_or (pt_cmpR op_gt (pv 5) (pe_glob (v := .int 6) (by rfl) g_MOST_DEPTH ⟨_, rfl⟩) (nomark _)) (pw_or1 (pt_not (pt_val (pe_cG CIs_node hg hr (by decide) (pa_cons (pv 0) (pa_cons (pv 4) (pa_cons (pv 6) pa_nil))))))))))
  (pss_one (ps_ret (pv 3)))
  pss_nil)
  (pss_cons (ps_setLc (i := 7) (wi := RZ.iZipA K _) (own := [("part", 8), ("at_tail", 9)]) (g := gTup K 2 (gCons (gName 8) (gCons (gName 9) gNil))) (by rfl) scFirst_wrong.nd rfl rfl (sw_true rfl rfl rfl (by decide +kernel)) (RZ.pi_zipA (by rfl) T.zip (pa_cons (pe_cG CParts hg hr (by decide) (pa_cons (pv 4) pa_nil)) (pa_cons (pe_cG CTails hg hr (by decide) (pa_cons (pv 4) (pa_cons (pv 6) pa_nil))) pa_nil))) (blkOk_by (N := nFirst_wrong) (sc := defScope sFirst_wrong) (by decide +kernel)) (fun _ _ _ _ _ => pg_tup (by rfl) (pgs_cons (pg_name (i := 8) scFirst_wrong.nd rfl (Or.inl rfl)) (pgs_cons (pg_name (i := 9) scFirst_wrong.nd rfl (Or.inl rfl)) pgs_nil))) (fun _ _ _ _ _ => pts_nil) (fun _ _ _ _ _ => (pe_tup (pa_cons (pv 8) (pa_cons (pe_op op_add (pv 5) pe_int) (pa_cons (pv 9) pa_nil))))))
  (pss_cons (ps_expr (pe_bm PySem.F.plainAttrs_list PySem.F.slot_list_extend PySem.F.type_list_extend mt_extend (pv 2) (pa_cons (pe_revL (pv 7)) pa_nil)))
  (pss_one (ps_aug (i := 3) scFirst_wrong.nd rfl (Or.inl rfl) pe_int ip_add)))))))
  (pss_one (ps_ret pe_non))))), ?_⟩
    repeat walk_at "rd"
    refine ⟨Rd.sz (by simp), fun t0 ht0 => ?_⟩
    have s1 := Rd.sNew (o := .tup [v0, .int 1, .bl true]) ht0
    have e1 : upd H t0 (.tup [v0, .int 1, .bl true]) t0 = some (.tup [v0, .int 1, .bl true]) := upd_same
    generalize upd H t0 (.tup [v0, .int 1, .bl true]) = H1 at s1 e1 ⊢
    repeat walk_at "rd"
    refine ⟨Rd.sz (by simp), fun wl hwl => ?_⟩
    have s2 := Rd.sNew (o := .lst [.ref t0]) hwl
    have nw : H wl = none := by
      cases z : H wl with
      | none => rfl
      | some u => rw [s1 _ _ z] at hwl; cases hwl
    have e2 : upd H1 wl (.lst [.ref t0]) wl = some (.lst [.ref t0]) := upd_same
    have e3 := s2 _ _ e1
    have s12 := s1.trans s2
    generalize upd H1 wl (.lst [.ref t0]) = H2 at s2 e2 e3 s12 ⊢
    repeat walk_at "rd"
    refine ⟨fun k σ H' => ∃ (pl : Int) (st : List Wt) (xs : List V) (z4 z5 z6 z7 : Option V), σ = [some (.str m), some v0, some (.ref wl), some (.int pl), z4, z5, z6, z7, none, none] ∧ pl = 16 - (k : Int) ∧ k ≤ 16 ∧ Same H H' ∧ H' wl = some (.lst xs) ∧ Paired (ItB K H H') st xs.reverse ∧ goW m k st = goW m 16 [(d0, 1, true)] ∧ xs.length ≤ 1000 - 3 * k,
      ⟨16, 0, [(d0, 1, true)], [.ref t0], _, _, _, _, rfl, rfl, Nat.le_refl _, s12, e2, .cons ⟨t0, v0, rfl, .inl (.inl e3), dp0, un0⟩ .nil, rfl, by simp⟩, ?_⟩
    · rintro k σ H3 ⟨pl, st, xs, z4, z5, z6, z7, rfl, epl, k16, s3, hw, pr, eq, xl⟩
      repeat walk_at "rd"
      refine Rd.bool (fun c => ?_) (fun c => ?_)
      · have xne : xs ≠ [] := fun e => by rw [e] at c; cases c
        obtain ⟨r, x, rfl⟩ : ∃ r x, xs = r ++ [x] := ⟨xs.dropLast, xs.getLast xne, (List.dropLast_concat_getLast xne).symm⟩
        rw [List.reverse_append, List.reverse_singleton, List.singleton_append] at pr
        cases pr with
        | @cons z _ st' _ iz pr =>
          obtain ⟨nd, d, b⟩ := z
          obtain ⟨t, v, rfl, ht, dp, un⟩ := iz
          have ht : SqT K H3 t [v, .int (d : Int), .bl b] := ht
          have dp : Dp K H v nd := dp
          have un : Uni nd := un
          refine ⟨fun σ' H' => ∃ m', m' < k ∧ (∃ (pl : Int) (st : List Wt) (xs : List V) (z4 z5 z6 z7 : Option V), σ' = [some (.str m), some v0, some (.ref wl), some (.int pl), z4, z5, z6, z7, none, none] ∧ pl = 16 - (m' : Int) ∧ m' ≤ 16 ∧ Same H H' ∧ H' wl = some (.lst xs) ∧ Paired (ItB K H H') st xs.reverse ∧ goW m m' st = goW m 16 [(d0, 1, true)] ∧ xs.length ≤ 1000 - 3 * m'), fun _ _ h => h, ?_⟩
          repeat walk_at "rd"
          refine ⟨Rd.ty_list hw, ?_⟩
          refine ⟨wl, _, .ref t, rfl, rfl, hw, by simp, ?_⟩
          rw [List.dropLast_concat]
          have k4 : Keep wl H3 (upd H3 wl (.lst r)) := Keep.put (fun _ _ _ e => e)
          have ht4 := sqT_keep k4 (nt_lst hw) ht
          have hw4 : upd H3 wl (.lst r) wl = some (.lst r) := upd_same
          have s4 : Same H (upd H3 wl (.lst r)) := Rd.sMut s3 nw
          have pr4 := Rd.pair_imp (fun z x h => ItB.keep k4 (nt_lst hw) h) pr
          rw [List.length_append] at xl
          generalize upd H3 wl (.lst r) = H4 at ht4 hw4 s4 pr4 ⊢
          refine ⟨t, _, rfl, ht4, rfl, ?_⟩
          have stop : ∀ H', Same H H' → (k = 0 ∨ ¬ (d ≤ 6 ∧ nodeD m b nd = true)) → Q (.int pl) H' := fun H' s' h => by
            have := q H' s'
            rw [← eq] at this
            have e1 : pl = ((16 - k : Nat) : Int) := by omega
            rw [e1]
            cases k with
            | zero => exact this
            | succ k =>
              rw [goW, if_neg (h.resolve_left (by omega))] at this
              exact this
          repeat walk_at "rd"
          refine Rd.dec (fun c => ?_) (fun ck => ?_)
          · have := V.int.inj c
            repeat walk_at "rd"
            exact stop _ s4 (.inl (by omega))
          have kp : 0 < k := by
            have : pl ≠ 16 := fun e => ck (by rw [e])
            omega
          obtain ⟨k, rfl⟩ : ∃ j, k = j + 1 := ⟨k - 1, by omega⟩
          repeat walk_at "rd"
          refine Rd.dec (fun c => ?_) (fun cd => ?_)
          · repeat walk_at "rd"
            exact stop _ s4 (.inr fun h => by omega)
          repeat walk_at "rd"
          refine ⟨v, m, nd, b, rfl, dp_mono s4 dp, un, hm, fun H5 s5 => ?_⟩
          refine ⟨_, rfl, ?_⟩
          refine Rd.bool (fun c => ?_) (fun c => ?_)
          · repeat walk_at "rd"
            exact stop _ (s4.trans s5) (.inr fun h => by rw [h.2] at c; cases c)
          have nok : nodeD m b nd = true := by
            cases e : nodeD m b nd with
            | true => rfl
            | false => rw [e] at c; cases c
          rw [goW, if_pos ⟨by show d ≤ 6; omega, nok⟩] at eq
          obtain ⟨z, ds, rfl, hn1, hn3, kt, l3⟩ := node_ok nok
          have dp5 := dp_mono (s4.trans s5) dp
          obtain ⟨pn, xs5, rfl, hs5, ha5⟩ := dpT dp
          obtain ⟨x5, xs5, rfl, hx5, hb5⟩ := dpC ha5
          obtain rfl := dpS hx5
          have zU : PyData.strOk z = true := (un.mem List.mem_cons_self).ok
          have len5 := dpa_len hb5
          have hs5' := sqT_same (s4.trans s5) hs5
          repeat walk_at "rd"
          refine zipD ?_
          repeat walk_at "rd"
          refine ⟨pn, z, xs5, rfl, hs5', zU, fun pa H6 s6 ha6 => ?_⟩
          repeat walk_at "rd"
          refine ⟨pn, z, xs5, b, rfl, sqT_same s6 hs5', zU, fun e => by rw [len5]; exact hn1 e, fun pb H7 s7 hb7 => ?_⟩
          repeat walk_at "rd"
          have hdk : DpAll K H (if z ∈ partW then xs5 else []) (if z ∈ partW then ds else []) := by
            split
            · exact hb5
            · exact .nil
          have huk : ∀ x ∈ (if z ∈ partW then ds else []), Uni x := by
            intro x hx
            split at hx
            · exact un.mem (List.mem_cons_of_mem _ hx)
            · cases hx
          refine ⟨pa, pb, (if z ∈ partW then xs5 else []), _, rfl, .inr ⟨sqT_same s7 ha6, hb7, zipK (i := 8) (j := 9) (d := d) (ds := if z ∈ partW then ds else []) (ts := tailsW z b) (sqT_same s7 ha6) hdk huk hb7 kt l3 (fun _ _ => rfl) (fun x c H8 R s8 k => ?_) fun Dl ys H8 hD s8 hd8 pr8 => ?_⟩⟩
          · repeat walk_at "rd"
            exact ⟨Rd.sz (by simp), fun p hp => k p hp⟩
          · have S48 := ((s5.trans s6).trans s7).trans s8
            have hw8 := S48 _ _ hw4
            repeat walk_at "rd"
            refine ⟨Rd.ty_list hw8, ?_⟩
            repeat walk_at "rd"
            refine revL ?_
            repeat walk_at "rd"
            refine ⟨Dl, ys, rfl, SqL.of hd8, fun p hp => ?_⟩
            have s9 := Rd.sNew (o := .lst ys.reverse) hp
            have hw9 := s9 _ _ hw8
            have lys := pair_len' pr8
            rw [List.length_map, List.length_zip] at lys
            rw [List.length_singleton] at xl
            have ys3 : ys.length ≤ 3 := by omega
            repeat walk_at "rd"
            refine ⟨wl, p, r, ys.reverse, rfl, rfl, hw9, upd_same, by rw [List.length_reverse]; exact Nat.le_of_lt (Rd.szl (by omega)), ?_⟩
            have kf : Keep wl H4 (upd (upd H8 p (.lst ys.reverse)) wl (.lst (r ++ ys.reverse))) := (Keep.same (S48.trans s9)).put
            have kf8 : Keep wl H8 (upd (upd H8 p (.lst ys.reverse)) wl (.lst (r ++ ys.reverse))) := (Keep.same s9).put
            repeat walk_at "rd"
            refine ⟨_, rfl, ?_⟩
            repeat walk_at "rd"
            refine ⟨_, _, rfl, rfl, ?_⟩
            refine ⟨k, Nat.lt_succ_self k, _, kidsZ (.tuple (.str z :: ds), d, b) ++ st', r ++ ys.reverse, _, _, _, _, rfl, (by show pl + 1 = 16 - (k : Int); omega), by omega, Rd.sMut (s4.trans (S48.trans s9)) nw, upd_same, ?_, eq, ?_⟩
            · rw [List.reverse_append, List.reverse_reverse]
              exact pair_cat (Rd.pair_imp (fun z x h => ItB.keep kf8 (nt_lst hw8) h) pr8) (Rd.pair_imp (fun z x h => ItB.keep kf (nt_lst hw4) h) pr4)
            · rw [List.length_append, List.length_reverse]
              omega
      · have xe : xs = [] := by cases xs with
          | nil => rfl
          | cons a l => cases c
        subst xe
        cases pr
        have := q H3 s3
        rw [← eq] at this
        repeat walk_at "rd"
        cases k <;> exact this
end
end Ab
namespace Ab
open PySem.Spec PyProof.Rows
local macro_rules | `(tactic| walk_at "rd") => `(tactic| (with_reducible first | refine Rd.tt_ ?_ | refine Rd.ff_ ?_))
/-! ### nodes of a body -/
inductive Nd where
  | word (z : Str)
  | cnt (i : Int)
  | ask1 (o r : Str)
  | ask2 (o r q : Str)
  | no (a : Nd)
  | iff (a b c : Nd)
def Nd.d : Nd → PyData
  | .word z => .tuple [.str z]
  | .cnt i => .tuple [.str "count", .int i]
  | .ask1 o r => .tuple [.str "ask", .str o, .str r]
  | .ask2 o r q => .tuple [.str "ask", .str o, .str r, .str q]
  | .no a => .tuple [.str "not", a.d]
  | .iff a b c => .tuple [.str "if", a.d, b.d, c.d]
/-- the node itself is right for m -/
def Nd.top (m : Str) (tail : Bool) : Nd → Bool
  | .word z => if z = "further" then tail else if z = "decline" then tail && decide (m ∈ decliners) else decide (z ∈ answerW)
  | .cnt i => decide (0 ≤ i) && decide (i ≤ 4)
  | .ask1 o r => decide (o ∈ askOne) && decide (r ∈ rolesOf m)
  | .ask2 o r q => decide (o ∈ askTwo) && decide (r ∈ rolesOf m) && decide (q ∈ rolesOf m) && decide (r ≠ q)
  | .no _ => true
  | .iff _ _ _ => true
def headW : List Str := ["yes", "no", "raise", "further", "decline", "count", "ask", "not", "if"]
def Nd.head : Nd → Str
  | .word z => z
  | .cnt _ => "count"
  | .ask1 _ _ => "ask"
  | .ask2 _ _ _ => "ask"
  | .no _ => "not"
  | .iff _ _ _ => "if"
def Nd.kids : Nd → List Nd
  | .no a => [a]
  | .iff a b c => [a, b, c]
  | _ => []
def Nd.tails (tail : Bool) : Nd → List Bool
  | .no _ => [false]
  | .iff _ _ _ => [false, tail, tail]
  | _ => []
/-- the words of the document, none of them a part's -/
def Nd.wd : Nd → Bool
  | .word z => decide (z ∈ (["yes", "no", "raise", "further", "decline"] : List Str))
  | _ => true
theorem top_wd {m : Str} {tail : Bool} {nd : Nd} (h : nd.top m tail = true) : nd.wd = true := by
  cases nd with
  | word z =>
    have h : (if z = "further" then tail else if z = "decline" then tail && decide (m ∈ decliners) else decide (z ∈ answerW)) = true := h
    by_cases e1 : z = "further"
    · subst e1; decide +kernel
    · rw [if_neg e1] at h
      by_cases e2 : z = "decline"
      · subst e2; decide +kernel
      · rw [if_neg e2] at h
        have h := of_decide_eq_true h
        simp only [answerW, List.mem_cons, List.not_mem_nil, or_false] at h
        rcases h with rfl | rfl | rfl <;> decide +kernel
  | _ => rfl
theorem head_in {nd : Nd} (h : nd.wd = true) : nd.head ∈ headW ∧ (nd.head ∈ partW ↔ nd.kids ≠ []) := by
  cases nd with
  | word z =>
    have h := of_decide_eq_true h
    simp only [List.mem_cons, List.not_mem_nil, or_false] at h
    rcases h with rfl | rfl | rfl | rfl | rfl <;> exact ⟨by decide +kernel, ⟨fun z => absurd z (by decide +kernel), fun z => absurd rfl z⟩⟩
  | cnt i => exact ⟨by show ("count" : Str) ∈ headW; decide +kernel, ⟨fun z => absurd (show ("count" : Str) ∈ partW from z) (by decide +kernel), fun z => absurd rfl z⟩⟩
  | ask1 o r => exact ⟨by show ("ask" : Str) ∈ headW; decide +kernel, ⟨fun z => absurd (show ("ask" : Str) ∈ partW from z) (by decide +kernel), fun z => absurd rfl z⟩⟩
  | ask2 o r q => exact ⟨by show ("ask" : Str) ∈ headW; decide +kernel, ⟨fun z => absurd (show ("ask" : Str) ∈ partW from z) (by decide +kernel), fun z => absurd rfl z⟩⟩
  | no a => exact ⟨by show ("not" : Str) ∈ headW; decide +kernel, ⟨fun _ => by simp [Nd.kids], fun _ => by show ("not" : Str) ∈ partW; decide +kernel⟩⟩
  | iff a b c => exact ⟨by show ("if" : Str) ∈ headW; decide +kernel, ⟨fun _ => by simp [Nd.kids], fun _ => by show ("if" : Str) ∈ partW; decide +kernel⟩⟩
/-- a node in the heap: its tuple, the word first -/
theorem nd_at {K : PySem.W.Frag} {H : Hp} {v : V} {nd : Nd} (h : Dp K H v nd.d) : ∃ p xs ds, v = .ref p ∧ SqT K H p (.str nd.head :: xs) ∧ DpAll K H xs ds ∧ nd.d = .tuple (.str nd.head :: ds) ∧ (nd.kids ≠ [] → ds = nd.kids.map Nd.d) := by
  have go : ∀ ds, nd.d = .tuple (.str nd.head :: ds) → (nd.kids ≠ [] → ds = nd.kids.map Nd.d) → ∃ p xs ds, v = .ref p ∧ SqT K H p (.str nd.head :: xs) ∧ DpAll K H xs ds ∧ nd.d = .tuple (.str nd.head :: ds) ∧ (nd.kids ≠ [] → ds = nd.kids.map Nd.d) := by
    intro ds e k
    rw [e] at h
    obtain ⟨p, xs, rfl, hs, ha⟩ := dpT h
    obtain ⟨x, r, rfl, hx, hr⟩ := dpC ha
    rw [dpS hx] at hs
    exact ⟨p, r, ds, rfl, hs, hr, e, k⟩
  cases nd with
  | word z => exact go [] rfl fun z => absurd rfl z
  | cnt i => exact go _ rfl fun z => absurd rfl z
  | ask1 o r => exact go _ rfl fun z => absurd rfl z
  | ask2 o r q => exact go _ rfl fun z => absurd rfl z
  | no a => exact go _ rfl fun _ => rfl
  | iff a b c => exact go _ rfl fun _ => rfl
def spPartsN (K : PySem.W.Frag) : Sp := fun vs H Q _ => ∃ (v : V) (nd : Nd), vs = [v] ∧ Dp K H v nd.d ∧ nd.wd = true ∧ ∀ p xs H', Same H H' → SqT K H' p xs → DpAll K H' xs (nd.kids.map Nd.d) → Q (.ref p) H'
theorem nd_keep {K : PySem.W.Frag} {p : Addr} {H H' : Hp} (k : Keep p H H') (n : NoTup H p) : ∀ (nd : Nd) (v : V), Dp K H v nd.d → Dp K H' v nd.d
  | .word z, v, h => by
    obtain ⟨a, xs, rfl, hs, ha⟩ := dpT h
    obtain ⟨x, l, rfl, h1, h2⟩ := dpC ha
    obtain rfl := dpN h2
    obtain rfl := dpS h1
    exact .tup (sqT_keep k n hs) (.cons (.str _) .nil)
  | .cnt i, v, h => by
    obtain ⟨a, xs, rfl, hs, ha⟩ := dpT h
    obtain ⟨x, l, rfl, h1, h2⟩ := dpC ha
    obtain ⟨y, l2, rfl, h3, h4⟩ := dpC h2
    obtain rfl := dpN h4
    obtain rfl := dpS h1
    obtain rfl := dpI h3
    exact .tup (sqT_keep k n hs) (.cons (.str _) (.cons (.int _) .nil))
  | .ask1 o r, v, h => by
    obtain ⟨a, xs, rfl, hs, ha⟩ := dpT h
    obtain ⟨x, l, rfl, h1, h2⟩ := dpC ha
    obtain ⟨y, l2, rfl, h3, h4⟩ := dpC h2
    obtain ⟨y2, l3, rfl, h5, h6⟩ := dpC h4
    obtain rfl := dpN h6
    obtain rfl := dpS h1
    obtain rfl := dpS h3
    obtain rfl := dpS h5
    exact .tup (sqT_keep k n hs) (.cons (.str _) (.cons (.str _) (.cons (.str _) .nil)))
  | .ask2 o r q, v, h => by
    obtain ⟨a, xs, rfl, hs, ha⟩ := dpT h
    obtain ⟨x, l, rfl, h1, h2⟩ := dpC ha
    obtain ⟨y, l2, rfl, h3, h4⟩ := dpC h2
    obtain ⟨y2, l3, rfl, h5, h6⟩ := dpC h4
    obtain ⟨y3, l4, rfl, h7, h8⟩ := dpC h6
    obtain rfl := dpN h8
    obtain rfl := dpS h1
    obtain rfl := dpS h3
    obtain rfl := dpS h5
    obtain rfl := dpS h7
    exact .tup (sqT_keep k n hs) (.cons (.str _) (.cons (.str _) (.cons (.str _) (.cons (.str _) .nil))))
  | .no b, v, h => by
    obtain ⟨a, xs, rfl, hs, ha⟩ := dpT h
    obtain ⟨x, l, rfl, h1, h2⟩ := dpC ha
    obtain ⟨y, l2, rfl, h3, h4⟩ := dpC h2
    obtain rfl := dpN h4
    obtain rfl := dpS h1
    exact .tup (sqT_keep k n hs) (.cons (.str _) (.cons (nd_keep k n b y h3) .nil))
  | .iff b c d, v, h => by
    obtain ⟨a, xs, rfl, hs, ha⟩ := dpT h
    obtain ⟨x, l, rfl, h1, h2⟩ := dpC ha
    obtain ⟨y, l2, rfl, h3, h4⟩ := dpC h2
    obtain ⟨y2, l3, rfl, h5, h6⟩ := dpC h4
    obtain ⟨y3, l4, rfl, h7, h8⟩ := dpC h6
    obtain rfl := dpN h8
    obtain rfl := dpS h1
    exact .tup (sqT_keep k n hs) (.cons (.str _) (.cons (nd_keep k n b y h3) (.cons (nd_keep k n c y2 h5) (.cons (nd_keep k n d y3 h7) .nil))))
def Nd.size : Nd → Nat
  | .no a => a.size + 1
  | .iff a b c => a.size + b.size + c.size + 1
  | _ => 1
def Nd.dep : Nd → Nat
  | .no a => a.dep + 1
  | .iff a b c => max a.dep (max b.dep c.dep) + 1
  | _ => 1
def Nd.all (m : Str) : Bool → Nd → Bool
  | _, .no a => a.all m false
  | t, .iff a b c => a.all m false && b.all m t && c.all m t
  | t, nd => nd.top m t
theorem all_top {m : Str} {t : Bool} {nd : Nd} (h : nd.all m t = true) : nd.top m t = true := by
  cases nd with
  | no a => rfl
  | iff a b c => rfl
  | word z => exact h
  | cnt i => exact h
  | ask1 o r => exact h
  | ask2 o r q => exact h
theorem size_pos (nd : Nd) : 1 ≤ nd.size := by cases nd <;> simp [Nd.size]
theorem dep_pos (nd : Nd) : 1 ≤ nd.dep := by cases nd <;> simp [Nd.dep]
theorem FnG.imp {P : Program} {w : World} {K : PySem.W.Frag} {mg : Str → Option Value} {base : Heap} {CX : CXT} {k : Nat} {f : Addr} {fd : FuncData} {ps : List Str} {sp sp' : Sp} (F : FnG P w K mg base CX k f fd ps sp) (h : ∀ vs H Q E, sp' vs H Q E → sp vs H Q E) : FnG P w K mg base CX k f fd ps sp' :=
  ⟨fun vs H Q E z => F.len vs H Q E (h _ _ _ _ z), fun A g outer s H args us vs Q E hr e0 hb r z => F.go A g outer s H args us vs Q E hr e0 hb r (h _ _ _ _ z)⟩
theorem CalG.imp {P : Program} {w : World} {K : PySem.W.Frag} {mg : Str → Option Value} {base : Heap} {k : Nat} {x : Str} {sp sp' : Sp} (C : CalG P w K mg base k x sp) (h : ∀ vs H Q E, sp' vs H Q E → sp vs H Q E) : CalG P w K mg base k x sp' :=
  let ⟨f, fd, ps, F, a, b, c⟩ := C
  ⟨f, fd, ps, FnG.imp F h, a, b, c⟩
theorem parts_nd {K : PySem.W.Frag} : ∀ vs H Q E, spPartsN K vs H Q E → spParts K vs H Q E := by
  rintro vs H Q E ⟨v, nd, rfl, dp, wd, q⟩
  obtain ⟨p, xs, ds, rfl, hs, ha, e, kd⟩ := nd_at dp
  obtain ⟨hh, hk⟩ := head_in wd
  have hU : PyData.strOk nd.head = true := (show ∀ z ∈ headW, PyData.strOk z = true by decide +kernel) _ hh
  refine ⟨p, nd.head, xs, rfl, hs, hU, fun t H' s' ht => ?_⟩
  by_cases c : nd.head ∈ partW
  · rw [if_pos c] at ht
    exact q t xs H' s' ht (by rw [← kd (hk.mp c)]; exact dpa_mono s' ha)
  · rw [if_neg c] at ht
    have ne : nd.kids = [] := Classical.byContradiction fun z => c (hk.mpr z)
    exact q t [] H' s' ht (by rw [ne]; exact .nil)
end Ab
namespace Ab
open PySem.Spec PyProof.Rows
mutual
def noList : PyData → Bool
  | .list _ => false
  | .tuple xs => noListA xs
  | .dict _ => false
  | _ => true
def noListA : List PyData → Bool
  | [] => true
  | x :: xs => noList x && noListA xs
end
mutual
theorem dp_keepT {K : PySem.W.Frag} {p : Addr} {H H' : Hp} (k : Keep p H H') (n : NoTup H p) : ∀ {v : V} {d : PyData}, Dp K H v d → noList d = true → Dp K H' v d
  | _, _, .non, _ => .non
  | _, _, .bl b, _ => .bl b
  | _, _, .int i, _ => .int i
  | _, _, .str x, _ => .str x
  | _, _, .lst _ _, h => by cases h
  | _, _, .tup a b, h => .tup (sqT_keep k n a) (dpa_keepT k n b h)
theorem dpa_keepT {K : PySem.W.Frag} {p : Addr} {H H' : Hp} (k : Keep p H H') (n : NoTup H p) : ∀ {vs : List V} {ds : List PyData}, DpAll K H vs ds → noListA ds = true → DpAll K H' vs ds
  | _, _, .nil, _ => .nil
  | _, _, .cons a b, h => by
    have h : (noList _ && noListA _) = true := h
    rw [Bool.and_eq_true] at h
    exact .cons (dp_keepT k n a h.1) (dpa_keepT k n b h.2)
end
theorem noListA_app : ∀ a b : List PyData, noListA (a ++ b) = (noListA a && noListA b)
  | [], _ => rfl
  | x :: a, b => by
    show (noList x && noListA (a ++ b)) = ((noList x && noListA a) && noListA b)
    rw [noListA_app a b, Bool.and_assoc]
def Nd.rows : Nd → Nat → List PyData
  | .no a, i => .tuple [.str "not", .int ((i + 1 : Nat) : Int)] :: a.rows (i + 1)
  | .iff a b c, i => .tuple [.str "if", .int ((i + 1 : Nat) : Int), .int ((i + 1 + a.size : Nat) : Int), .int ((i + 1 + a.size + b.size : Nat) : Int)] :: (a.rows (i + 1) ++ (b.rows (i + 1 + a.size) ++ c.rows (i + 1 + a.size + b.size)))
  | nd, _ => [nd.d]
def numsL : Nat → List Nd → List Nat
  | _, [] => []
  | i, k :: r => i :: numsL (i + k.size) r
def rowsL : Nat → List Nd → List PyData
  | _, [] => []
  | i, k :: r => k.rows i ++ rowsL (i + k.size) r
def sumL (l : List Nd) : Nat := (l.map Nd.size).sum
def Nd.headD (nd : Nd) (i : Nat) : PyData := if nd.kids = [] then nd.d else .tuple (.str nd.head :: (numsL (i + 1) nd.kids).map fun n : Nat => PyData.int (n : Int))
theorem rows_eq (nd : Nd) (i : Nat) : nd.rows i = nd.headD i :: rowsL (i + 1) nd.kids := by
  cases nd <;> simp [Nd.rows, Nd.headD, Nd.kids, rowsL, numsL, Nd.head]
theorem rows_len : ∀ (nd : Nd) (i : Nat), (nd.rows i).length = nd.size
  | .no a, i => by simp [Nd.rows, Nd.size, rows_len a]
  | .iff a b c, i => by
    simp [Nd.rows, Nd.size, rows_len a, rows_len b, rows_len c]
    omega
  | .word _, _ => rfl
  | .cnt _, _ => rfl
  | .ask1 _ _, _ => rfl
  | .ask2 _ _ _, _ => rfl
theorem nd_noList : ∀ nd : Nd, noList nd.d = true
  | .no a => by
    show (true && (noList a.d && true)) = true
    rw [nd_noList a]; rfl
  | .iff a b c => by
    show (true && (noList a.d && (noList b.d && (noList c.d && true)))) = true
    rw [nd_noList a, nd_noList b, nd_noList c]; rfl
  | .word _ => rfl
  | .cnt _ => rfl
  | .ask1 _ _ => rfl
  | .ask2 _ _ _ => rfl
theorem rows_noList : ∀ (nd : Nd) (i : Nat), noListA (nd.rows i) = true
  | .no a, i => by
    show (true && noListA (a.rows (i + 1))) = true
    rw [rows_noList a]; rfl
  | .iff a b c, i => by
    show (true && noListA (a.rows (i + 1) ++ (b.rows (i + 1 + a.size) ++ c.rows (i + 1 + a.size + b.size)))) = true
    rw [noListA_app, noListA_app, rows_noList a, rows_noList b, rows_noList c]; rfl
  | .word _, _ => rfl
  | .cnt _, _ => rfl
  | .ask1 _ _, _ => rfl
  | .ask2 _ _ _, _ => rfl
theorem rowsL_noList : ∀ (l : List Nd) (i : Nat), noListA (rowsL i l) = true
  | [], _ => rfl
  | k :: r, i => by
    show noListA (k.rows i ++ rowsL (i + k.size) r) = true
    rw [noListA_app, rows_noList, rowsL_noList r]; rfl
theorem sumL_snoc (l : List Nd) (k : Nd) : sumL (l ++ [k]) = sumL l + k.size := by simp [sumL]
theorem rowsL_snoc : ∀ (l : List Nd) (k : Nd) (i : Nat), rowsL i (l ++ [k]) = rowsL i l ++ k.rows (i + sumL l)
  | [], k, i => by simp [rowsL, sumL]
  | a :: l, k, i => by
    show a.rows i ++ rowsL (i + a.size) (l ++ [k]) = (a.rows i ++ rowsL (i + a.size) l) ++ k.rows (i + sumL (a :: l))
    rw [rowsL_snoc l k, List.append_assoc]
    have : i + a.size + sumL l = i + sumL (a :: l) := by simp [sumL]; omega
    rw [this]
theorem numsL_snoc : ∀ (l : List Nd) (k : Nd) (i : Nat), numsL i (l ++ [k]) = numsL i l ++ [i + sumL l]
  | [], k, i => by simp [numsL, sumL]
  | a :: l, k, i => by
    show i :: numsL (i + a.size) (l ++ [k]) = i :: numsL (i + a.size) l ++ [i + sumL (a :: l)]
    rw [numsL_snoc l k]
    have : i + a.size + sumL l = i + sumL (a :: l) := by simp [sumL]; omega
    rw [this]
    rfl
theorem rowsL_len : ∀ (l : List Nd) (i : Nat), (rowsL i l).length = sumL l
  | [], _ => rfl
  | a :: l, i => by
    show (a.rows i ++ rowsL (i + a.size) l).length = sumL (a :: l)
    rw [List.length_append, rows_len, rowsL_len l]
    simp [sumL]
theorem numsL_len : ∀ (l : List Nd) (i : Nat), (numsL i l).length = l.length
  | [], _ => rfl
  | a :: l, i => by
    show (numsL (i + a.size) l).length + 1 = l.length + 1
    rw [numsL_len l]
theorem dpa_app {K : PySem.W.Frag} {H : Hp} : ∀ {xs ys : List V} {ds es : List PyData}, DpAll K H xs ds → DpAll K H ys es → DpAll K H (xs ++ ys) (ds ++ es)
  | _, _, _, _, .nil, h => h
  | _, _, _, _, .cons a b, h => .cons a (dpa_app b h)
theorem dpa_ints {K : PySem.W.Frag} {H : Hp} : ∀ l : List Nat, DpAll K H (l.map fun n : Nat => V.int (n : Int)) (l.map fun n : Nat => PyData.int (n : Int))
  | [] => .nil
  | _ :: l => .cons (.int _) (dpa_ints l)
theorem starT {K : PySem.W.Frag} {te : TE} {t : TA} {σ : L2.St} {H : Hp} {Q : List V → Hp → Prop} (k : te σ H fun x H1 => ∃ p xs, x = V.ref p ∧ (SqT K H1 p xs ∨ SqL K H1 p xs) ∧ t σ H1 fun ys H2 => Q (xs ++ ys) H2) : StX.tStar K te t σ H Q := k
theorem forT {K : PySem.W.Frag} {tl : TE} {g : TG} {tb : TS} {D : Ends} {σ : L2.St} {H : Hp} (k : tl σ H fun x H1 => tFor (iTup K (tC x)) g tb D σ H1) : tFor (iTup K tl) g tb D σ H := k
/-- right words all over -/
def Nd.wdA : Nd → Bool
  | .no a => a.wdA
  | .iff a b c => a.wdA && b.wdA && c.wdA
  | nd => nd.wd
theorem wdA_wd {nd : Nd} (h : nd.wdA = true) : nd.wd = true ∧ ∀ k ∈ nd.kids, k.wdA = true := by
  cases nd with
  | no a => exact ⟨rfl, fun k hk => by rw [List.mem_singleton.mp hk]; exact h⟩
  | iff a b c =>
    have h : (a.wdA && b.wdA && c.wdA) = true := h
    rw [Bool.and_eq_true, Bool.and_eq_true] at h
    refine ⟨rfl, fun k hk => ?_⟩
    have hk : k ∈ [a, b, c] := hk
    simp only [List.mem_cons, List.not_mem_nil, or_false] at hk
    rcases hk with rfl | rfl | rfl
    · exact h.1.1
    · exact h.1.2
    · exact h.2
  | word z => exact ⟨h, fun k hk => by cases hk⟩
  | cnt i => exact ⟨rfl, fun k hk => by cases hk⟩
  | ask1 o r => exact ⟨rfl, fun k hk => by cases hk⟩
  | ask2 o r q => exact ⟨rfl, fun k hk => by cases hk⟩
theorem kid_dep {nd k : Nd} (h : k ∈ nd.kids) : k.dep + 1 ≤ nd.dep ∧ sumL nd.kids + 1 = nd.size := by
  cases nd with
  | no a => rw [List.mem_singleton.mp h]; exact ⟨Nat.le_refl _, by simp [sumL, Nd.kids, Nd.size]⟩
  | iff a b c =>
    have hk : k ∈ [a, b, c] := h
    simp only [List.mem_cons, List.not_mem_nil, or_false] at hk
    refine ⟨?_, by simp [sumL, Nd.kids, Nd.size]; omega⟩
    rcases hk with rfl | rfl | rfl <;> simp [Nd.dep] <;> omega
  | word z => cases h
  | cnt i => cases h
  | ask1 o r => cases h
  | ask2 o r q => cases h
end Ab
namespace Ab
open PySem.Spec PyProof.Rows
theorem sumL_app (a b : List Nd) : sumL (a ++ b) = sumL a + sumL b := by simp [sumL]
section
variable {P : Program} {w : World} {K : PySem.W.Frag} {mg : Str → Option Value} {base : Heap}
abbrev sNumbered : Stmt := top 36
abbrev nNumbered : List Str := ["node", "number", "rows", "numbers", "part", "at", "head"]
theorem scNumbered : FnScope nNumbered ["node", "number"] (defScope sNumbered) := ⟨rfl, rfl, rfl, by decide +kernel, rfl, by decide +kernel, by decide +kernel⟩
def spNumb (K : PySem.W.Frag) (n : Nat) : Sp := fun vs H Q _ => ∃ (v : V) (nd : Nd) (i : Nat), vs = [v, .int (i : Int)] ∧ Dp K H v nd.d ∧ nd.wdA = true ∧ nd.dep ≤ n ∧ nd.size ≤ 16 ∧
  ∀ L ys H', Same H H' → H L = none → H' L = some (.lst ys) → DpAll K H' ys (nd.rows i) → Q (.ref L) H'
theorem ok_numb (T : Txt K mg) (D : DefAt K mg "_numbered" sNumbered ["node", "number"]) (CParts : CalG P w K mg base 1 "_parts" (spPartsN K)) : ∀ n, CalG P w K mg base (n + 2) "_numbered" (spNumb K n)
  | 0 => D.by scNumbered (fun vs H Q E h => by obtain ⟨_, _, _, rfl, _⟩ := h; rfl) (fun f cd A hg outer s H vs Q E hr h => by
    obtain ⟨_, nd, _, _, _, _, h, _⟩ := h
    have := dep_pos nd
    omega)
  | n + 1 => by
    have CNumbered := ok_numb T D CParts n
    refine D.by scNumbered (fun vs H Q E h => ?_) (fun f cd A hg outer s H vs Q E hr h => ?_)
    · obtain ⟨_, _, _, rfl, _⟩ := h
      rfl
    · obtain ⟨v, nd, i, rfl, dp, wda, hdep, hsz, q⟩ := h
      obtain ⟨wd, wdk⟩ := wdA_wd wda
      refine ⟨_, (pss_cons (ps_set (i := 2) scNumbered.nd rfl (Or.inl rfl) (pe_lst pa_nil))
  (pss_cons (ps_set (i := 3) scNumbered.nd rfl (Or.inl rfl) (pe_lst pa_nil))
  (pss_cons (ps_for (wi := iTup K _) PassesOwn.never rfl (pi_tup (pe_cG CParts hg hr (by omega) (pa_cons (pv 0) pa_nil))) (pg_name (i := 4) scNumbered.nd rfl (Or.inl rfl))
  (pss_cons (ps_set (i := 5) scNumbered.nd rfl (Or.inl rfl) (pe_op op_add (pe_op op_add (pv 1) pe_int) (pe_callB (r := Rd.rLenK K) Rd.callLen (by rfl) T.len PySem.boot_len (pa_cons (pv 2) pa_nil))))
  (pss_cons (ps_expr (pe_bm PySem.F.plainAttrs_list PySem.F.slot_list_append PySem.F.type_list_append mt_append (pv 3) (pa_cons (pv 5) pa_nil)))
  (pss_one (ps_expr (pe_bm PySem.F.plainAttrs_list PySem.F.slot_list_extend PySem.F.type_list_extend mt_extend (pv 2) (pa_cons (pe_cG CNumbered hg hr (by omega) (pa_cons (pv 4) (pa_cons (pv 5) pa_nil))) pa_nil)))))))
  (pss_cons (ps_set (i := 6) scNumbered.nd rfl (Or.inl rfl) (pe_ifExp (Rd.ptTru (K := K) rfl (pt_truth (pv 3) (by intro _; rfl))) (pe_tup (pa_cons (pe_ix (r := rIxT K) ix_tup (pv 0) pe_int (fun _ _ => rfl)) (StX.pa_star (pv 3) pa_nil))) (pv 0)))
  (pss_one (ps_ret (pe_lst (pa_cons (pv 6) (StX.pa_star (pv 2) pa_nil))))))))), ?_⟩
      repeat walk_at "rd"
      refine ⟨Rd.sz (by simp), fun R hR => ?_⟩
      have s1 := Rd.sNew (o := .lst []) hR
      have r1 : upd H R (.lst []) R = some (.lst []) := upd_same
      generalize upd H R (.lst []) = H1 at s1 r1 ⊢
      repeat walk_at "rd"
      refine ⟨Rd.sz (by simp), fun N hN => ?_⟩
      have s2 := Rd.sNew (o := .lst []) hN
      have n2 : upd H1 N (.lst []) N = some (.lst []) := upd_same
      have r2 := s2 _ _ r1
      have RN : R ≠ N := fun e => by rw [← e, r1] at hN; cases hN
      have nN : H N = none := by
        cases z : H N with
        | none => rfl
        | some u => rw [s1 _ _ z] at hN; cases hN
      have s12 := s1.trans s2
      generalize upd H1 N (.lst []) = H2 at s2 n2 r2 s12 ⊢
      repeat walk_at "rd"
      refine forT ?_
      repeat walk_at "rd"
      refine ⟨v, nd, rfl, dp_mono s12 dp, wd, fun pa xs H3 s3 ha hd => ?_⟩
      have lk := dpa_len hd
      rw [List.length_map] at lk
      refine ⟨pa, rfl, ⟨_, ha⟩, ?_⟩
      refine for_tup (K := K) (a := pa) (xs := xs) (fun j σ H' => ∃ z4 z5 ys, σ = [some v, some (.int (i : Int)), some (.ref R), some (.ref N), z4, z5, none] ∧ Same H H' ∧ SqT K H' pa xs ∧ DpAll K H' xs (nd.kids.map Nd.d) ∧ H' R = some (.lst ys) ∧
        DpAll K H' ys (rowsL (i + 1) (nd.kids.take j)) ∧ H' N = some (.lst ((numsL (i + 1) (nd.kids.take j)).map fun n : Nat => V.int (n : Int)))) ⟨_, _, [], rfl, s12.trans s3, ha, hd, s3 _ _ r2, .nil, s3 _ _ n2⟩ ?_ ?_ ?_
      · rintro j σ H' _ ⟨_, _, _, _, _, h, _⟩
        exact h
      · rintro j x σ H4 hx ⟨z4, z5, ys, rfl, s4, ha4, hd4, r4, dr4, n4⟩
        have hj : j < nd.kids.length := by
          have := (List.getElem?_eq_some_iff.mp hx).1
          omega
        have dk : Dp K H4 x (nd.kids[j]).d := dpa_get hd4 hx (by rw [List.getElem?_map, List.getElem?_eq_getElem hj]; rfl)
        have km : nd.kids[j] ∈ nd.kids := List.getElem_mem hj
        have ylen := dpa_len dr4
        rw [rowsL_len] at ylen
        have tk : nd.kids.take (j + 1) = nd.kids.take j ++ [nd.kids[j]] := by rw [List.take_add_one, List.getElem?_eq_getElem hj]; rfl
        obtain ⟨kdep, ksum⟩ := kid_dep km
        have kw := wdk _ km
        have tot : sumL (nd.kids.take j) + (nd.kids[j]).size ≤ sumL nd.kids := by
          have : sumL nd.kids = sumL (nd.kids.take (j + 1)) + sumL (nd.kids.drop (j + 1)) := by
            rw [← sumL_app, List.take_append_drop]
          rw [tk, sumL_snoc] at this
          omega
        generalize nd.kids[j] = k at dk km tk kdep kw tot
        have nlen : (numsL (i + 1) (nd.kids.take j)).length ≤ 100 := by
          rw [numsL_len, List.length_take]
          have : nd.kids.length ≤ 3 := by cases nd <;> simp [Nd.kids]
          omega
        repeat walk_at "rd"
        have at_ : (i : Int) + 1 + (ys.length : Int) = ((i + 1 + sumL (nd.kids.take j) : Nat) : Int) := by rw [ylen]; omega
        rw [at_]
        refine ⟨Rd.ty_list n4, ?_⟩
        repeat walk_at "rd"
        refine Rd.app n4 (by rw [List.length_map]; exact Rd.szl (by omega)) ?_
        have k5 : Keep N H4 (upd H4 N (.lst ((numsL (i + 1) (nd.kids.take j)).map (fun n : Nat => V.int (n : Int)) ++ [.int ((i + 1 + sumL (nd.kids.take j) : Nat) : Int)]))) := Keep.put (fun _ _ _ e => e)
        have nt4 := nt_lst n4
        have n5 : upd H4 N (.lst ((numsL (i + 1) (nd.kids.take j)).map (fun n : Nat => V.int (n : Int)) ++ [.int ((i + 1 + sumL (nd.kids.take j) : Nat) : Int)])) N = some (.lst ((numsL (i + 1) (nd.kids.take (j + 1))).map fun n : Nat => V.int (n : Int))) := by
          rw [upd_same, tk, numsL_snoc, List.map_append]
          rfl
        have r5 := k5 _ _ RN r4
        have s5 : Same H (upd H4 N (.lst ((numsL (i + 1) (nd.kids.take j)).map (fun n : Nat => V.int (n : Int)) ++ [.int ((i + 1 + sumL (nd.kids.take j) : Nat) : Int)]))) := Rd.sMut s4 nN
        have ha5 := sqT_keep k5 nt4 ha4
        have kidsNL : noListA (nd.kids.map Nd.d) = true := by
          generalize nd.kids = l
          induction l with
          | nil => rfl
          | cons a l ih =>
            show (noList a.d && noListA (l.map Nd.d)) = true
            rw [nd_noList, ih]; rfl
        have hd5 := dpa_keepT k5 nt4 hd4 kidsNL
        have dr5 := dpa_keepT k5 nt4 dr4 (rowsL_noList _ _)
        have dk5 := dp_keepT k5 nt4 dk (nd_noList _)
        generalize upd H4 N (.lst ((numsL (i + 1) (nd.kids.take j)).map (fun n : Nat => V.int (n : Int)) ++ [.int ((i + 1 + sumL (nd.kids.take j) : Nat) : Int)])) = H5 at k5 n5 r5 s5 ha5 hd5 dr5 dk5 ⊢
        repeat walk_at "rd"
        refine ⟨Rd.ty_list r5, ?_⟩
        repeat walk_at "rd"
        refine ⟨x, k, i + 1 + sumL (nd.kids.take j), rfl, dk5, kw, by omega, by omega, fun L zs H6 s6 _ hL dz => ?_⟩
        have r6 := s6 _ _ r5
        have zl := dpa_len dz
        rw [rows_len] at zl
        repeat walk_at "rd"
        refine ⟨R, L, ys, zs, rfl, rfl, r6, hL, Nat.le_of_lt (Rd.szl (by omega)), ?_⟩
        have k7 : Keep R H6 (upd H6 R (.lst (ys ++ zs))) := Keep.put (fun _ _ _ e => e)
        have nt6 := nt_lst r6
        repeat walk_at "rd"
        refine ⟨_, _, ys ++ zs, rfl, Rd.sMut (s5.trans s6) hR, sqT_keep k7 nt6 (sqT_same s6 ha5), dpa_keepT k7 nt6 (dpa_mono s6 hd5) kidsNL, upd_same, ?_, k7 _ _ (fun e => RN e.symm) (s6 _ _ n5)⟩
        rw [tk, rowsL_snoc]
        refine dpa_app (dpa_keepT k7 nt6 (dpa_mono s6 dr5) (rowsL_noList _ _)) (dpa_keepT k7 nt6 dz (rows_noList _ _))
      · rintro σ H4 ⟨z4, z5, ys, rfl, s4, ha4, hd4, r4, dr4, n4⟩
        rw [lk, List.take_length] at dr4 n4
        have dp4 := dp_mono s4 dp
        obtain ⟨p, hx, ds, rfl, hs, hh, he, hk⟩ := nd_at dp4
        have ylen := dpa_len dr4
        rw [rowsL_len] at ylen
        have fin : ∀ (hv : V) H5, Same H4 H5 → Dp K H5 hv (nd.headD i) → ∀ L, H5 L = none → Q (.ref L) (upd H5 L (.lst (hv :: (ys ++ [])))) := fun hv H5 s5 dh L hL => by
          rw [List.append_nil]
          have s6 := Rd.sNew (o := .lst (hv :: ys)) hL
          refine q L _ _ ((s4.trans s5).trans s6) ?_ upd_same ?_
          · cases z : H L with
            | none => rfl
            | some u => rw [s5 _ _ (s4 _ _ z)] at hL; cases hL
          · rw [rows_eq]
            exact .cons (dp_mono s6 dh) (dpa_mono (s5.trans s6) dr4)
        repeat walk_at "rd"
        refine Rd.bool (fun c => ?_) (fun c => ?_)
        · have ne : nd.kids ≠ [] := fun e => by rw [e] at c; cases c
          repeat walk_at "rd"
          refine Rd.ixT hs (Rd.atN (by decide) rfl) ?_
          refine starT ?_
          repeat walk_at "rd"
          refine ⟨N, _, rfl, .inr (SqL.of n4), ?_⟩
          have nlen : (numsL (i + 1) nd.kids).length ≤ 100 := by
            rw [numsL_len]
            have : nd.kids.length ≤ 3 := by cases nd <;> simp [Nd.kids]
            omega
          repeat walk_at "rd"
          rw [List.append_nil]
          refine ⟨Rd.sz (by rw [List.length_cons, List.length_map]; omega), fun t ht => ?_⟩
          have s5 := Rd.sNew (o := .tup (.str nd.head :: (numsL (i + 1) nd.kids).map fun n : Nat => V.int (n : Int))) ht
          have dh : Dp K (upd H4 t (.tup (.str nd.head :: (numsL (i + 1) nd.kids).map fun n : Nat => V.int (n : Int)))) (.ref t) (nd.headD i) := by
            rw [Nd.headD, if_neg ne]
            exact .tup (.inl (.inl upd_same)) (.cons (.str _) (dpa_ints _))
          generalize upd H4 t (.tup (.str nd.head :: (numsL (i + 1) nd.kids).map fun n : Nat => V.int (n : Int))) = H5 at s5 dh ⊢
          repeat walk_at "rd"
          refine starT ?_
          repeat walk_at "rd"
          refine ⟨R, ys, rfl, .inr (SqL.of (s5 _ _ r4)), ?_⟩
          repeat walk_at "rd"
          refine ⟨Rd.sz ?_, fun L hL => fin _ H5 s5 dh L hL⟩
          obtain ⟨_, ks⟩ := kid_dep (List.head_mem ne)
          rw [List.length_cons, List.length_append]
          simp only [List.length_nil]
          omega
        · have ne : nd.kids = [] := by
            cases z : nd.kids with
            | nil => rfl
            | cons a l => rw [z] at c; cases c
          have dh : Dp K H4 (.ref p) (nd.headD i) := by
            rw [Nd.headD, if_pos ne]
            exact dp4
          repeat walk_at "rd"
          refine starT ?_
          repeat walk_at "rd"
          refine ⟨R, ys, rfl, .inr (SqL.of r4), ?_⟩
          repeat walk_at "rd"
          refine ⟨Rd.sz ?_, fun L hL => fin _ H4 (Same.refl _) dh L hL⟩
          rw [ne] at ylen
          have : sumL [] = 0 := rfl
          rw [List.length_cons, List.length_append]
          simp only [List.length_nil]
          omega
end
end Ab
namespace Ab
open PySem.Spec PyProof.Rows
/-! ### the same, by recursion -/
def foldW (g : PyData → Bool → Nat → Option Nat × Nat) : List (PyData × Bool) → Nat → Option Nat × Nat
  | [], k => (none, k)
  | p :: r, k => match g p.1 p.2 k with
    | (some n, k') => (some n, k')
    | (none, k') => foldW g r k'
/-- f levels are left, k numbers -/
def wrF (m : Str) : Nat → PyData → Bool → Nat → Option Nat × Nat
  | 0, _, _, k => (some (16 - k), k)
  | f + 1, d, t, k => if k = 0 ∨ nodeD m t d = false then (some (16 - k), k) else foldW (wrF m f) ((kidsD d).zip (tailsD t d)) (k - 1)
def onW (m : Str) (st : List Wt) : Option Nat × Nat → Option Nat
  | (some n, _) => some n
  | (none, k) => goW m k st
theorem goW_wr (m : Str) : ∀ (f : Nat), f ≤ 6 → ∀ (d : PyData) (t : Bool) (k : Nat) (st : List Wt), goW m k ((d, 7 - f, t) :: st) = onW m st (wrF m f d t k)
  | 0, _, d, t, k, st => by
    cases k with
    | zero => rfl
    | succ k =>
      rw [goW, if_neg (fun h => absurd h.1 (by show ¬ (7 ≤ 6); decide))]
      rfl
  | f + 1, hf, d, t, k, st => by
    have ih := goW_wr m f (by omega)
    have fold : ∀ (l : List (PyData × Bool)) (k : Nat) (st : List Wt), goW m k (l.map (fun p => ((p.1, 7 - f, p.2) : Wt)) ++ st) = onW m st (foldW (wrF m f) l k) := by
      intro l
      induction l with
      | nil => intro k st; rfl
      | cons p r ihl =>
        intro k st
        rw [List.map_cons, List.cons_append, ih, foldW]
        cases e : wrF m f p.1 p.2 k with
        | mk a k' =>
          cases a with
          | none =>
            show goW m k' _ = _
            rw [ihl]
          | some n => rfl
    rw [wrF]
    cases k with
    | zero => rw [if_pos (.inl rfl)]; rfl
    | succ k =>
      rw [goW]
      by_cases h : nodeD m t d = true
      · rw [if_pos ⟨by show 7 - (f + 1) ≤ 6; omega, h⟩, if_neg (fun z => z.elim (fun e => absurd e (Nat.succ_ne_zero k)) (fun e => by rw [h] at e; cases e))]
        have e : kidsZ (d, 7 - (f + 1), t) = ((kidsD d).zip (tailsD t d)).map (fun p => ((p.1, 7 - f, p.2) : Wt)) := by
          unfold kidsZ
          have : 7 - (f + 1) + 1 = 7 - f := by omega
          show ((kidsD d).zip (tailsD t d)).map (fun p => ((p.1, 7 - (f + 1) + 1, p.2) : Wt)) = _
          rw [this]
        rw [e]
        exact fold _ _ _
      · have h' : nodeD m t d = false := by cases z : nodeD m t d with
          | true => exact absurd z h
          | false => rfl
        rw [if_neg (fun z => h z.2), if_pos (.inr h')]
        rfl
theorem goW_top (m : Str) (d : PyData) : goW m 16 [(d, 1, true)] = (wrF m 6 d true 16).1 := by
  have h := goW_wr m 6 (Nat.le_refl _) d true 16 []
  rw [show ((d, 7 - 6, true) : Wt) = (d, 1, true) from rfl] at h
  rw [h]
  cases e : wrF m 6 d true 16 with
  | mk a k =>
    cases a with
    | none => show goW m k [] = none; cases k <;> rfl
    | some n => rfl
theorem inD_str {ws : List Str} {d : PyData} (h : inD ws d = true) : ∃ z, d = .str z ∧ z ∈ ws := by
  cases d with
  | str z => exact ⟨z, rfl, of_decide_eq_true h⟩
  | _ => cases h
theorem roleD_str {m : Str} {d : PyData} (h : roleD m d = true) : ∃ z, d = .str z ∧ z ∈ rolesOf m := by
  cases d with
  | str z => exact ⟨z, rfl, of_decide_eq_true h⟩
  | _ => cases h
/-- what has no wrong node is a right body -/
theorem wr_nd (m : Str) : ∀ (f : Nat) (d : PyData) (t : Bool) (k k' : Nat), wrF m f d t k = (none, k') → ∃ nd : Nd, d = nd.d ∧ nd.all m t = true ∧ nd.dep ≤ f ∧ nd.size + k' = k
  | 0, d, t, k, k', h => by rw [wrF] at h; cases h
  | f + 1, d, t, k, k', h => by
    have ih := wr_nd m f
    rw [wrF] at h
    by_cases c : k = 0 ∨ nodeD m t d = false
    · rw [if_pos c] at h; cases h
    · rw [if_neg c] at h
      have k0 : k ≠ 0 := fun e => c (.inl e)
      have nt : nodeD m t d = true := by
        cases z : nodeD m t d with
        | true => rfl
        | false => exact absurd (.inr z) c
      match d, nt, h with
      | .tuple (.str w :: ds), nt, h =>
        have nt : wordD m w ds t = true := nt
        have h : foldW (wrF m f) ((if w ∈ partW then ds else []).zip (tailsW w t)) (k - 1) = (none, k') := h
        by_cases wn : w = "not"
        · subst wn
          rw [wordD, if_pos rfl] at nt
          rw [if_pos (by decide +kernel), tailsW, if_neg (by decide +kernel), if_pos rfl] at h
          match ds, nt, h with
          | [c], _, h =>
            have h : (match wrF m f c false (k - 1) with | (some n, k') => (some n, k') | (none, k') => (none, k')) = ((none : Option Nat), k') := h
            cases e : wrF m f c false (k - 1) with
            | mk a k2 =>
              rw [e] at h
              cases a with
              | some n => cases h
              | none =>
                cases h
                obtain ⟨nd, rfl, h1, h2, h3⟩ := ih _ _ _ _ e
                exact ⟨.no nd, rfl, h1, by show nd.dep + 1 ≤ f + 1; omega, by show nd.size + 1 + k' = k; omega⟩
          | [], nt, _ => exact absurd nt (by decide)
          | _ :: _ :: _, nt, _ => exact absurd nt (by simp)
        · by_cases wi : w = "if"
          · subst wi
            rw [wordD, if_neg (by decide +kernel), if_pos rfl] at nt
            rw [if_pos (by decide +kernel), tailsW, if_pos rfl] at h
            match ds, nt, h with
            | [c1, c2, c3], _, h =>
              have h : foldW (wrF m f) [(c1, false), (c2, t), (c3, t)] (k - 1) = (none, k') := h
              rw [foldW] at h
              cases e1 : wrF m f c1 false (k - 1) with
              | mk a k2 =>
                rw [e1] at h
                cases a with
                | some n => cases h
                | none =>
                  have h : foldW (wrF m f) [(c2, t), (c3, t)] k2 = (none, k') := h
                  rw [foldW] at h
                  cases e2 : wrF m f c2 t k2 with
                  | mk a k3 =>
                    rw [e2] at h
                    cases a with
                    | some n => cases h
                    | none =>
                      have h : foldW (wrF m f) [(c3, t)] k3 = (none, k') := h
                      rw [foldW] at h
                      cases e3 : wrF m f c3 t k3 with
                      | mk a k4 =>
                        rw [e3] at h
                        cases a with
                        | some n => cases h
                        | none =>
                          have h : ((none : Option Nat), k4) = (none, k') := h
                          cases h
                          obtain ⟨n1, rfl, a1, a2, a3⟩ := ih _ _ _ _ e1
                          obtain ⟨n2, rfl, b1, b2, b3⟩ := ih _ _ _ _ e2
                          obtain ⟨n3, rfl, d1, d2, d3⟩ := ih _ _ _ _ e3
                          refine ⟨.iff n1 n2 n3, rfl, ?_, ?_, ?_⟩
                          · show (n1.all m false && n2.all m t && n3.all m t) = true
                            rw [a1, b1, d1]; rfl
                          · show max n1.dep (max n2.dep n3.dep) + 1 ≤ f + 1; omega
                          · show n1.size + n2.size + n3.size + 1 + k' = k; omega
            | [], nt, _ => exact absurd nt (by decide)
            | [_], nt, _ => exact absurd nt (by simp)
            | [_, _], nt, _ => exact absurd nt (by simp)
            | _ :: _ :: _ :: _ :: _, nt, _ => exact absurd nt (by simp)
          · rw [wordD, if_neg wn, if_neg wi] at nt
            rw [if_neg (show w ∉ partW by simp only [partW, List.mem_cons, List.not_mem_nil, or_false, not_or]; exact ⟨wn, wi⟩), List.zip_nil_left, foldW] at h
            have h : k - 1 = k' := by cases h; rfl
            by_cases wc : w = "count"
            · subst wc
              rw [if_pos rfl] at nt
              match ds, nt with
              | [c], nt =>
                cases c with
                | int i => exact ⟨.cnt i, rfl, nt, by show 1 ≤ f + 1; omega, by show 1 + k' = k; omega⟩
                | _ => cases nt
              | [], nt => cases nt
              | _ :: _ :: _, nt => cases nt
            · rw [if_neg wc] at nt
              by_cases wa : w = "ask"
              · subst wa
                rw [if_pos rfl] at nt
                match ds, nt with
                | [o, r], nt =>
                  have nt : (inD askOne o && roleD m r) = true := nt
                  rw [Bool.and_eq_true] at nt
                  obtain ⟨o, rfl, ho⟩ := inD_str nt.1
                  obtain ⟨r, rfl, hr⟩ := roleD_str nt.2
                  refine ⟨.ask1 o r, rfl, ?_, by show 1 ≤ f + 1; omega, by show 1 + k' = k; omega⟩
                  show (decide (o ∈ askOne) && decide (r ∈ rolesOf m)) = true
                  rw [decide_eq_true ho, decide_eq_true hr]; rfl
                | [o, r, q], nt =>
                  have nt : (inD askTwo o && roleD m r && roleD m q && !(PyData.eqv r q)) = true := nt
                  simp only [Bool.and_eq_true] at nt
                  obtain ⟨o, rfl, ho⟩ := inD_str nt.1.1.1
                  obtain ⟨r, rfl, hr⟩ := roleD_str nt.1.1.2
                  obtain ⟨q, rfl, hq⟩ := roleD_str nt.1.2
                  have ne := nt.2
                  rw [eqv_str] at ne
                  have ne : r ≠ q := by simpa using ne
                  refine ⟨.ask2 o r q, rfl, ?_, by show 1 ≤ f + 1; omega, by show 1 + k' = k; omega⟩
                  show (decide (o ∈ askTwo) && decide (r ∈ rolesOf m) && decide (q ∈ rolesOf m) && decide (r ≠ q)) = true
                  rw [decide_eq_true ho, decide_eq_true hr, decide_eq_true hq, decide_eq_true ne]; rfl
                | [], nt => cases nt
                | [_], nt => cases nt
                | _ :: _ :: _ :: _ :: _, nt => cases nt
              · rw [if_neg wa, Bool.and_eq_true] at nt
                match ds, nt with
                | [], nt => exact ⟨.word w, rfl, nt.2, by show 1 ≤ f + 1; omega, by show 1 + k' = k; omega⟩
                | _ :: _, nt => exact absurd nt.1 (by simp)
theorem goW_none {m : Str} {d : PyData} (h : goW m 16 [(d, 1, true)] = none) : ∃ nd : Nd, d = nd.d ∧ nd.all m true = true ∧ nd.dep ≤ 6 ∧ nd.size ≤ 16 := by
  rw [goW_top] at h
  cases e : wrF m 6 d true 16 with
  | mk a k =>
    rw [e] at h
    cases (show a = none from h)
    obtain ⟨nd, h1, h2, h3, h4⟩ := wr_nd m 6 d true 16 k e
    exact ⟨nd, h1, h2, h3, by omega⟩
end Ab
namespace Rd
open PySem.Spec PyProof.Rows
section
variable {K : PySem.W.Frag} {σ : L2.St} {H : Hp} {Q : VK} {D : Ends} {n : Nat} {a C dx : Addr} {fs : List (Str × V)} {f : Str} {v : V} {ta tb tv td ty : TE} {t : TA} {sp : Sp} {E : XK}
theorem fldV (h : σ[n]? = some (some (.ref a))) (e : H a = some (.ins C dx fs)) (c : L2.Cls K C) (na : NoAttr K C f) (l : fs.lookup f = some v) (k : Q v H) : tFld K (tVar n) f σ H Q := ⟨.ref a, h, a, C, dx, fs, v, rfl, e, c, na, l, k⟩
theorem sfld (k : tv σ H fun y H1 => ta σ H1 fun x H2 => ∃ a C dx fs, x = .ref a ∧ H2 a = some (.ins C dx fs) ∧ L2.Cls K C ∧ NoAttr K C f ∧ fs.length < 1000 ∧ D.nx σ (upd H2 a (.ins C dx (putF f y fs)))) : sFld K ta tv f D σ H := k
theorem dget (k : td σ H fun x H1 => ty σ H1 fun y H2 => ∃ a v, x = .ref a ∧ DGet H2 a y (some v) ∧ Q v H2) : tDGet td ty σ H Q := k
theorem methR {m : Str} (k : ta σ H fun x H1 => ∃ a dx fs, x = .ref a ∧ H1 a = some (.ins C dx fs) ∧ fs.lookup m = none ∧ t σ H1 fun vs H2 => sp (x :: (vs ++ [])) H2 Q E) : tMeth C m sp [] E ta t σ H Q := k
theorem propR (k : ta σ H fun x H1 => ∃ a dx fs, x = .ref a ∧ H1 a = some (.ins C dx fs) ∧ sp [.ref a] H1 Q E) : tProp C sp [] E ta σ H Q := k
theorem statR (k : ta σ H fun x H1 => x = .ref C ∧ sp [] H1 Q E) : Ob.tStat C sp E ta σ H Q := k
theorem getR (k : ta σ H fun x H1 => tb σ H1 fun y H2 => ∃ a dx fs, x = .ref a ∧ H2 a = some (.ins C dx fs) ∧ sp [.ref a, y] H2 Q E) : Ow.tGetO C sp E ta tb σ H Q := k
theorem makeR (k : t σ H fun vs H1 => ∀ x dx, H1 x = none → H1 dx = none → dx ≠ x → sp (.ref x :: (vs ++ [])) (upd (upd H1 dx (.own x)) x (.ins C dx [])) (fun v H2 => v = .non ∧ Q (.ref x) H2) E) : tMake C sp [] E t σ H Q := k
end
end Rd
namespace Ab
open PySem.Spec PyProof.Rows
local macro_rules | `(tactic| walk_at "rd") => `(tactic| (with_reducible first | refine Rd.tt_ ?_ | refine Rd.ff_ ?_ | refine Rd.sfld ?_ | refine Rd.dget ?_ | refine Rd.methR ?_ | refine Rd.propR ?_ | refine Rd.getR ?_))
structure BdF (K : PySem.W.Frag) (mg : Str → Option Value) (C : Addr) : Prop extends Ob.CF K mg "Body" C where
  n1 : NoAttr K C "method"
  n2 : NoAttr K C "expression"
  n3 : NoAttr K C "_nodes"
/-- a body in the heap -/
structure BdA (K : PySem.W.Frag) (C : Addr) (H : Hp) (b L : Addr) (m : Str) (v : V) (nd : Nd) : Prop where
  ins : ∃ dx, H b = some (.ins C dx [("method", .str m), ("expression", v), ("_nodes", .ref L)])
  dp : Dp K H v nd.d
theorem BdA.mono {K : PySem.W.Frag} {C : Addr} {H H' : Hp} {b L : Addr} {m : Str} {v : V} {nd : Nd} (k : BdA K C H b L m v nd) (s : Same H H') : BdA K C H' b L m v nd :=
  ⟨let ⟨dx, h⟩ := k.ins; ⟨dx, s _ _ h⟩, dp_mono s k.dp⟩
/-- a right body for m -/
structure BdOk (m : Str) (nd : Nd) : Prop where
  mm : m ∈ methods
  kk : kindOf m ∈ bodyKinds
  all : nd.all m true = true
  size : nd.size ≤ 16
  dep : nd.dep ≤ 6
theorem all_wdA {m : Str} : ∀ (nd : Nd) (t : Bool), nd.all m t = true → nd.wdA = true
  | .no a, t, h => all_wdA a false h
  | .iff a b c, t, h => by
    have h : (a.all m false && b.all m t && c.all m t) = true := h
    rw [Bool.and_eq_true, Bool.and_eq_true] at h
    show (a.wdA && b.wdA && c.wdA) = true
    rw [all_wdA a _ h.1.1, all_wdA b _ h.1.2, all_wdA c _ h.2]
    rfl
  | .word z, t, h => top_wd (nd := .word z) h
  | .cnt _, _, _ => rfl
  | .ask1 _ _, _, _ => rfl
  | .ask2 _ _ _, _, _ => rfl
section
variable {P : Program} {w : World} {K : PySem.W.Frag} {mg : Str → Option Value} {base : Heap}
def bodyM : List Str := ["truth", "length", "has", "like", "unlike", "before", "behind", "hash"]
theorem bodyM_iff : ∀ m ∈ methods, (kindOf m ∈ bodyKinds ↔ m ∈ bodyM) := by decide +kernel
theorem bodyM_in : ∀ m ∈ bodyM, m ∈ methods := by decide +kernel
/-- an error out of the class at C, that keeps v as its f -/
def OutF (C : Addr) (f : Str) (v : V) (H : Hp) (E : XK) : Prop := ∀ d, H d = none → E (.ref C) (some d) (upd H d (.xd [(f, v)]))
abbrev sCheck_body_method : Stmt := top 28
abbrev nCheck_body_method : List Str := ["method"]
theorem scCheck_body_method : FnScope nCheck_body_method ["method"] (defScope sCheck_body_method) := ⟨rfl, rfl, rfl, by decide +kernel, rfl, by decide +kernel, by decide +kernel⟩
def spCheckB (K : PySem.W.Frag) (C : Addr) : Sp := fun vs H Q E => ∃ (v : V) (tn : String), vs = [v] ∧ Kd K H v tn ∧ (isIn v bodyM = true → Q .non H) ∧ (isIn v bodyM = false → OutF C "value" v H E)
theorem ok_checkB (T : Txt K mg) {C p_BODY_KINDS : Addr} (g_BODY_KINDS : mg "BODY_KINDS" = some (.ref p_BODY_KINDS)) (tB : ∀ H, SqT K H p_BODY_KINDS (bodyKinds.map V.str)) (T_NoName : Ex.ErrC K mg "NoName" "value" C) (M_NoName : Ex.InitOk P w K mg base "value" C)
    (D : DefAt K mg "check_body_method" sCheck_body_method ["method"]) (CKind_of : Ex.CalX P w K mg base 4 "kind_of" (spKind K C)) : Ex.CalX P w K mg base 5 "check_body_method" (spCheckB K C) := by
  refine Ex.byX D scCheck_body_method (fun vs H Q E h => ?_) (fun f cd A hg outer s H vs Q E hr h => ?_)
  · obtain ⟨_, _, rfl, _⟩ := h
    rfl
  · obtain ⟨v, tn, rfl, kd, q1, q2⟩ := h
    refine ⟨_, (pss_one (ps_if (pt_cmpR (r := rIn K true) op_notIn_seq (Ex.pe_x CKind_of hg hr (by decide) (takes_of rfl rfl rfl rfl) (pa_cons (pv 0) pa_nil)) (pe_glob (v := .ref p_BODY_KINDS) (by rfl) g_BODY_KINDS rfl) (by rfl))
  (pss_one (ps_raise rfl (takes_of rfl rfl rfl rfl) (Ex.pmkE T_NoName M_NoName hr (by decide) (pa_cons (pv 0) pa_nil))))
  pss_nil)), ?_⟩
    repeat walk_at "rd"
    refine ⟨v, tn, rfl, kd, fun z ez hm => ?_, fun c => ?_⟩
    · subst ez
      have iff := bodyM_iff z hm
      repeat walk_at "rd"
      refine inT (tB _) rfl (flat_strs _) ?_
      rw [if_pos rfl, inV_str]
      refine ⟨_, rfl, ?_⟩
      refine Rd.ndec (fun c => ?_) (fun c => ?_)
      · repeat walk_at "rd"
        refine Ex.mk ?_
        repeat walk_at "rd"
        exact Ex.made (q2 (decide_eq_false fun z => c (iff.mpr z)))
      · repeat walk_at "rd"
        exact q1 (decide_eq_true (iff.mp c))
    · have e : isIn v bodyM = false := by
        cases v with
        | str z => exact decide_eq_false fun h => (show z ∉ methods from of_decide_eq_false c) (bodyM_in z h)
        | _ => rfl
      exact q2 e
end
end Ab
/-! errors that leave a try's body with no context, and a raise out of an except suite -/
namespace Hn
open PySem.Spec PyProof.Rows
/-- __init__ of an own error, called while another one is handled -/
def InitH (P : Program) (w : World) (K : PySem.W.Frag) (mg : Str → Option Value) (base : Heap) (f : Str) (C : Addr) : Prop :=
  ∃ (fI : Addr) (fd : FuncData), PySem.W.findIn K (.ref C) "__init__" = some (some (.ref fI)) ∧ PySem.W.typeIn K (.ref fI) = some (.type "function") ∧ L2H.FnH P w K mg base CX0 1 fI fd ["self", f] (Ex.spInit C f) ∧ Binds K fd ["self", f] []
section
variable {X : Cx} {σ : L2.St} {H : Hp} {W : WX}
theorem pmkN {x f : Str} {C : Addr} {k : Nat} {e : Expr} {es : List Expr} {p pos : Pos} {ta : TA} (T : Ex.ErrC X.K X.mg x f C) (M : Ex.InitOk X.prog X.w X.K X.mg X.base f C) (hr : Room k X.A) (hk : 2 ≤ k) (ha : PA X (e :: es) ta) (hg : Gl X x := by rfl)
    (hdb : (x == ("__debug__" : Str)) = false := by decide) (he : starEach (e :: es) X.env = (false, eval e X.env) :: starEach es X.env := by rfl) (hpl : (backTo pos (starEach es X.env)).any (·.1) = false := by rfl) :
    L2N.PMk X (.Call (.Name x p) (e :: es) [] pos) (tMkO C (Ex.spInit C f) [] ta) := by
  obtain ⟨fI, fd, iC, tI, F1, hb⟩ := M
  intro pins s σ H Q I h
  obtain ⟨nm, q, N, bs, bm, sn, sub, ab, col, dd, k0, k1, k2, k3, k5, lC, hbm⟩ := T.t.cls
  refine wpAny_Call_Name_kw (ld_glob I hg T.g ?_ hdb)
  refine PySem.W.callWith_K (h₀ := X.base) I.ok.mod.kin T.t.kC (thn (ha.run pos pins s σ H _ I h) fun us s1 ⟨vs, H1, I1, r1, hz, q1⟩ => ⟨I1.kIn, ?_⟩) he hpl
  show wpAny _ _ (call (.ref C) us) _ _ _
  obtain ⟨hp, g, dr, tk, os⟩ := s1
  have lt : hp.objs.size ≤ hp.objs.size + 1 := Nat.le_succ _
  have hq := q1 (hp.objs.size + 1) (I1.hok.fresh lt)
  rw [List.append_nil] at hq
  have up : ∀ b o, hp.get? b = some o → ((hp.push (PySem.W.kdv_tup us)).push (PySem.HandSPX.excO C hp.objs.size)).get? b = some o := fun b o z => Heap.get?_push_of_some _ (Heap.get?_push_of_some _ z)
  have lo : ((hp.push (PySem.W.kdv_tup us)).push (PySem.HandSPX.excO C hp.objs.size)).get? (hp.objs.size + 1) = some (PySem.HandSPX.excO C hp.objs.size) := by heap_get
  have I2 : Inv X pins σ (upd H1 (hp.objs.size + 1) (exo (hp.objs.size + 1) C none)) ⟨(hp.push (PySem.W.kdv_tup us)).push (PySem.HandSPX.excO C hp.objs.size), g, dr, tk, os⟩ :=
    I1.laid (t' := tk) up lt (exo_ok lo)
  have r2 : Vals (V.ref (hp.objs.size + 1) :: vs) (Value.ref (hp.objs.size + 1) :: us) := .cons rfl r1
  have b2 := hb _ (Value.ref (hp.objs.size + 1) :: us) I2.kIn (by rw [List.append_nil, ← F1.len _ _ _ _ hq]; exact r2.length.symm)
  rw [List.append_nil] at b2
  have lu : us.length ≤ sizeLine := by
    rw [← Paired.length r1, sizeLine_eq]
    omega
  refine wpAny_call (PySem.HandSPX.call_own F.excBase_ValueError (fun Y => PySem.HandSPX.refsVE_contains Y bm hbm) (I1.kIn _ _ lC) (PySem.W.looks_findIn I1.kIn iC) (fun self => PySem.W.bind_fn I1.kIn self tI) lu
    (codeAny_mono (F1.run _ X.stack _ _ ⟨Value.ref (hp.objs.size + 1) :: us, []⟩ _ _ _ (fun _ _ _ => False) ((hr.mono hk).make C us []) (I2.env0.make C us []) b2 r2 hq) fun r s' z => ?_))
  match r, z with
  | .ok (.ret u), ⟨v, H2, os2, bare2, un2, hok2, rv, ev, d, fs, ea, ed, hd1, q2⟩ =>
    subst ev
    obtain ⟨h2, g2, d2, t2, os'⟩ := s'
    obtain ⟨t0, G, J, kG, ge, hoe, na⟩ := mk_end0 (d2 := d2) (t2 := t2) I1 lt up un2 hok2 os2 bare2 ea ed hd1
    refine ⟨rv, hp.objs.size + 1, _, _, ⟨G, g2, d2, t2, os'⟩, _, .ref C, some d, rfl, J, kG, ge, hoe, ⟨rfl, rfl, fun vs hv => ?_⟩, rfl, rfl, na, rfl, bare2, raises_own T.t.exC T.t.tyC, q2⟩
    cases hv
    rfl
  | .ok .next, z => exact z.elim
  | .ok .brk, z => exact z.elim
  | .ok .cont, z => exact z.elim
theorem pmkH {x f : Str} {C : Addr} {k : Nat} {e : Expr} {es : List Expr} {p pos : Pos} {ta : TA} (T : Ex.ErrC X.K X.mg x f C) (M : InitH X.prog X.w X.K X.mg X.base f C) (hc : L2H.HotC X) (hr : L2H.RoomH k X.A) (hk : 2 ≤ k) (ha : PA X (e :: es) ta) (hg : Gl X x := by rfl)
    (hdb : (x == ("__debug__" : Str)) = false := by decide) (he : starEach (e :: es) X.env = (false, eval e X.env) :: starEach es X.env := by rfl) (hpl : (backTo pos (starEach es X.env)).any (·.1) = false := by rfl) :
    L2N.PMk X (.Call (.Name x p) (e :: es) [] pos) (tMkO C (Ex.spInit C f) [] ta) := by
  obtain ⟨fI, fd, iC, tI, F1, hb⟩ := M
  exact (L2H.pmk5_oexH T.t iC tI F1 (hr.mono hk) hc hb pass0 hg T.g ha hdb he hpl).pmk
theorem makeN {k j : Nat} {C : Addr} {sp : Sp} {x : Str} {e : Expr} {es : List Expr} {p pos : Pos} {t : TA} (tk : L2N.Takes X W) (M : Ob.MkCal X.prog X.w X.K X.mg X.base (L2N.CX X.prog X.w) C k x sp) (gd : X.A.guards = some []) (hr : Room j X.A) (hk : k + 1 ≤ j) (ha : PA X (e :: es) t) (hg : Gl X x := by rfl)
    (hdb : (x == ("__debug__" : Str)) = false := by decide) (he : starEach (e :: es) X.env = (false, eval e X.env) :: starEach es X.env := by rfl) (hpl : (backTo pos (starEach es X.env)).any (·.1) = false := by rfl) :
    PE X (.Call (.Name x p) (e :: es) [] pos) (Mt.tMakeS C sp (WE W) t) := by
  obtain ⟨f, fd, ps, F, M, hb, hm⟩ := M
  refine ⟨fun pins s σ H Q I h => wpAny_Call_Name_kw (ld_glob I hg hm ?_ hdb)⟩
  refine PySem.W.callWith_K (h₀ := X.base) I.ok.mod.kin M.kp (thn (ha.run pos pins s σ H _ I h) fun us s1 ⟨vs, H1, I1, r, q⟩ => ⟨I1.kIn, ?_⟩) he hpl
  have hq := q (s1.heap.objs.size + 1) s1.heap.objs.size (I1.hok.fresh (Nat.le_succ _)) (I1.hok.fresh (Nat.le_refl _)) (Nat.ne_of_lt (Nat.lt_succ_self _))
  have I2 := Inv.made (C := C) I1
  have run := Ob.goG F (A := X.A.under (.builtin "type.__call__" ⟨.ref C :: us, []⟩)) (Ob.guards_make.trans gd) ((hr.mono hk).make C us []) (I2.env0.make C us []) I2.kIn hb (.cons (show RelV (.ref (s1.heap.objs.size + 1)) (.ref (s1.heap.objs.size + 1)) from rfl) r) hq
  refine wpAny_call (make_map (f := f) I1.kIn M.makes M.init (beq_iff_eq.mp M.fn) (codeAny_mono run fun r s' z => ?_))
  match r, z with
  | .error er, z => exact L2N.passAt tk σ pins _ _ er s' I2 z
  | .ok .next, z => exact z.elim
  | .ok .brk, z => exact z.elim
  | .ok .cont, z => exact z.elim
  | .ok (.ret u), z =>
    obtain ⟨v, H', I3, rv, ev, q3⟩ := I2.after z
    subst ev
    exact ⟨rv, ⟨V.ref (s1.heap.objs.size + 1), H', I3, rfl, q3⟩⟩
end
section
variable {P : Program} {w : World} {K : PySem.W.Frag} {mg : Str → Option Value} {base : Heap}
theorem byN {x qual : Str} {st : Stmt} {ps N : List Str} {f : Addr} {fd : FuncData} {k : Nat} {sp : Sp} (D : Ob.MethAt K x qual st ps f fd) (S : FnScope N ps (defScope st)) (len : ∀ vs H Q E, sp vs H Q E → vs.length = ps.length)
    (inner : ∀ (cd : Value) (A : Around), A.guards = some [] → ∀ (outer : List Env) (s : Shared) (H : Hp) (vs : List V) (Q : VK) (E : XK),
      Room k (A.deeper (envOfC qual (defScope st) s.heap.objs.size f cd)) → sp vs H Q E →
      ∃ t, PSs (cxOf (L2N.CX P w) P w K mg base N qual (defScope st) f cd A outer s H E) (defBody st) t ∧ t { nx := fun _ H' => Q .non H', rt := Q } (start N vs) H) : FnG P w K mg base (L2N.CX P w) (k + 1) f fd ps sp :=
  defG D.1 S len inner
/-- what such a def lets out, an own try may take too -/
theorem up_cx {k : Nat} {f : Addr} {fd : FuncData} {ps : List Str} {sp : Sp} (F : FnG P w K mg base (L2N.CX P w) k f fd ps sp) : FnG P w K mg base (L2.CX P w) k f fd ps sp := by
  refine ⟨F.len, fun A g outer s H args us vs Q E hr e0 hb r hsp => codeAny_mono (F.go A g outer s H args us vs Q E hr e0 hb r hsp) fun r s' z => ?_⟩
  match r, z with
  | .error er, ⟨a, B, H', cls, d, e, fl, z⟩ => exact ⟨a, B, H', cls, d, e, L2H.flyingZ_imp (fun o y => y.zc) fl, z⟩
  | .ok (.ret u), z => exact z
  | .ok .next, z => exact z
  | .ok .brk, z => exact z
  | .ok .cont, z => exact z
end
end Hn
/-! str of a text or of a small number; x.get(k, y) of a written dict; k not in a written dict -/
namespace Wt
open PySem.Spec PyProof.Rows
section
variable {X : Cx} {σ : L2.St} {H : Hp} {Q : VK}
def rStr : List V → Hp → VK → Prop := fun xs H Q => (∃ i : Int, xs = [.int i] ∧ i.natAbs.log2 < 1920 ∧ Q (.str (toString i)) H) ∨ ∃ z : Str, xs = [.str z] ∧ Q (.str z) H
theorem call_str : CallR X (.type "str") rStr := by
  intro pins s σ H xs us Q I r h
  rcases h with ⟨i, e, l, q⟩ | ⟨z, e, q⟩
  · exact call_str_int pins s σ H xs us Q I r ⟨i, e, l, q⟩
  · exact SkE.call_str_str pins s σ H xs us Q I r ⟨z, e, q⟩
abbrev rNotInKd (K : PySem.W.Frag) (p : Addr) : R2 := fun x y H Q => ∃ (z : Str) (r : Option Value), x = .str z ∧ y = .ref p ∧ PySem.W.nsIn K p z = some r ∧ Q (.bl (!r.isSome)) H
theorem op_notInKd {p : Addr} {es : Array DictEntry} {n : Nat} (D : KDict X.K X.w p es n) : OpR X (compareOp .NotIn) (rNotInKd X.K p) := op_notIn_kd D
/-- p.get(y, z), p a written dict with texts as keys -/
def tKGet2 (K : PySem.W.Frag) (p : Addr) (td ty tx : TE) : TE := fun σ H Q => td σ H fun x H1 => x = .ref p ∧ ty σ H1 fun y H2 => tx σ H2 fun z H3 => ∃ (k : Str) (r : Option Value) (o : Option V), y = .str k ∧ PySem.W.nsIn K p k = some r ∧ RelO o r ∧ Q (o.getD z) H3
theorem pe_kget2 {K : PySem.W.Frag} {p : Addr} {es : Array DictEntry} {n : Nat} {o e f : Expr} {apos cpos : Pos} {td ty tx : TE} (hK : X.K = K) (D : KDict X.K X.w p es n) (ho : PE X o td) (he : PE X e ty) (hf : PE X f tx) (m : M2 X o "get" apos e f cpos) :
    PE X (.Call (.Attribute o "get" apos) [e, f] [] cpos) (tKGet2 K p td ty tx) := by
  subst hK
  refine ⟨fun pins s σ H Q I h => ?_⟩
  refine wpAny_Call_method m.base m.few m.line PySem.F.plainAttrs_dict PySem.F.slot_dict_get PySem.F.type_dict_get (thn (ho.run pins s σ H _ I h) fun u s1 ⟨x, H1, I1, rx, ex, q1⟩ => ?_)
  subst ex
  obtain rfl : u = Value.ref p := rx
  refine ⟨kd_type D I1, fun b q => ?_, ?_⟩
  · cases q
    exact ⟨_, I1.kIn _ _ D.at_, rfl⟩
  rw [m.trees]
  refine Calls.callWith_builtin rfl (Calls.evalArgs_plain (Calls.spliced_cons (thn (he.run pins s1 σ H1 _ I1 q1) fun iv s2 ⟨y, H2, I2, ry, q2⟩ =>
    Calls.spliced_cons (thn (hf.run pins s2 σ H2 _ I2 q2) fun fv s3 ⟨z, H3, I3, rz, k, r, ov, ek, hr, rel, q3⟩ => Calls.spliced_nil ?_))))
  subst ek
  obtain ⟨t, rfl⟩ := ry
  refine call_meetsIn PySem.F.slot_dict_get (kd_type D I3) PySem.F.entry_dict_get (PySem.F.args_dict_get_3 _ _ _) (meets_dict_get_default (PySem.strKind X.prog X.w) p (PySem.strKind_is X.prog X.w k t) D.low fv) ⟨_, PySem.W.mapOf_K (prog := X.prog) (w := X.w) I3.kIn D.at_ D.lit, ?_⟩
  refine ⟨ov.getD z, H3, I3.tok _, ?_, q3⟩
  rw [PySem.W.find_K D.at_ hr]
  exact rel.getD rz
end
end Wt
namespace Ab
open PySem.Spec PyProof.Rows
local macro_rules | `(tactic| walk_at "rd") => `(tactic| (with_reducible first | refine Rd.tt_ ?_ | refine Rd.ff_ ?_))
/-- the words of a node, as a text has them -/
def Nd.words : Nd → List Str
  | .word z => [z]
  | .cnt i => ["count", ((toString i : String) : Str)]
  | .ask1 o r => ["ask", o, r]
  | .ask2 o r q => ["ask", o, r, q]
  | .no a => "not" :: a.words
  | .iff a b c => "if" :: (a.words ++ (b.words ++ c.words))
def Nd.cntOk : Nd → Bool
  | .cnt i => decide (0 ≤ i) && decide (i ≤ 4)
  | .no a => a.cntOk
  | .iff a b c => a.cntOk && b.cntOk && c.cntOk
  | _ => true
/-- one thing of a node -/
inductive Pc where
  | s (z : Str)
  | i (k : Int)
  | n (nd : Nd)
def Pc.d : Pc → PyData
  | .s z => .str z
  | .i k => .int k
  | .n nd => nd.d
def Pc.ws : Pc → List Str
  | .s z => [z]
  | .i k => [((toString k : String) : Str)]
  | .n nd => nd.words
def Pc.ok (n : Nat) : Pc → Prop
  | .s _ => True
  | .i k => 0 ≤ k ∧ k ≤ 4
  | .n nd => nd.cntOk = true ∧ nd.dep ≤ n
def Nd.pcs : Nd → List Pc
  | .word z => [.s z]
  | .cnt i => [.s "count", .i i]
  | .ask1 o r => [.s "ask", .s o, .s r]
  | .ask2 o r q => [.s "ask", .s o, .s r, .s q]
  | .no a => [.s "not", .n a]
  | .iff a b c => [.s "if", .n a, .n b, .n c]
theorem pcs_d (nd : Nd) : nd.d = .tuple (nd.pcs.map Pc.d) := by cases nd <;> rfl
theorem pcs_ws (nd : Nd) : (nd.pcs.map Pc.ws).flatten = nd.words := by cases nd <;> simp [Nd.pcs, Pc.ws, Nd.words]
theorem pcs_ok {nd : Nd} {n : Nat} (h : nd.cntOk = true) (hd : nd.dep ≤ n + 1) : ∀ p ∈ nd.pcs, p.ok n := by
  cases nd with
  | word z => simp [Nd.pcs, Pc.ok]
  | cnt i =>
    have h : (decide (0 ≤ i) && decide (i ≤ 4)) = true := h
    simp at h
    simp [Nd.pcs, Pc.ok, h]
  | ask1 o r => simp [Nd.pcs, Pc.ok]
  | ask2 o r q => simp [Nd.pcs, Pc.ok]
  | no a =>
    have h : a.cntOk = true := h
    have hd : a.dep + 1 ≤ n + 1 := hd
    simp [Nd.pcs, Pc.ok, h]
    omega
  | iff a b c =>
    have h : (a.cntOk && b.cntOk && c.cntOk) = true := h
    simp at h
    have d1 := kid_dep (show a ∈ (Nd.iff a b c).kids by simp [Nd.kids])
    have d2 := kid_dep (show b ∈ (Nd.iff a b c).kids by simp [Nd.kids])
    have d3 := kid_dep (show c ∈ (Nd.iff a b c).kids by simp [Nd.kids])
    simp [Nd.pcs, Pc.ok, h]
    omega
def spWords (K : PySem.W.Frag) (n : Nat) : Sp := fun vs H Q _ => ∃ (v : V) (nd : Nd), vs = [v] ∧ Dp K H v nd.d ∧ nd.cntOk = true ∧ nd.dep ≤ n ∧ nd.words.length ≤ 1000 ∧
  ∀ p H', H p = none → Same H H' → H' p = some (.lst (nd.words.map V.str)) → Q (.ref p) H'
theorem wsT {l : List Pc} {j : Nat} {p : Pc} (h : l[j]? = some p) : ((l.take (j + 1)).map Pc.ws).flatten = ((l.take j).map Pc.ws).flatten ++ p.ws := by
  rw [Rd.take_succ h, List.map_append, List.flatten_append]
  simp
theorem wsLe : ∀ (l : List Pc) (j : Nat), ((l.take j).map Pc.ws).flatten.length ≤ ((l.map Pc.ws).flatten).length
  | [], _ => by simp
  | p :: l, 0 => by simp
  | p :: l, j + 1 => by
    have := wsLe l j
    simp only [List.take_succ_cons, List.map_cons, List.flatten_cons, List.length_append]
    omega
section
variable {P : Program} {w : World} {K : PySem.W.Frag} {mg : Str → Option Value} {base : Heap}
abbrev sWords_of : Stmt := top 41
abbrev nWords_of : List Str := ["expression", "words", "part"]
theorem scWords_of : FnScope nWords_of ["expression"] (defScope sWords_of) := ⟨rfl, rfl, rfl, by decide +kernel, rfl, by decide +kernel, by decide +kernel⟩
theorem ok_words (T : Txt K mg) (D : DefAt K mg "_words_of" sWords_of ["expression"]) : ∀ n, CalG P w K mg base (n + 1) "_words_of" (spWords K n)
  | 0 => D.by scWords_of (fun vs H Q E h => by obtain ⟨_, _, rfl, _⟩ := h; rfl) (fun f cd A hg outer s H vs Q E hr h => by
    obtain ⟨_, nd, _, _, _, h, _⟩ := h
    have := dep_pos nd
    omega)
  | n + 1 => by
    have CWords_of := ok_words T D n
    refine D.by scWords_of (fun vs H Q E h => ?_) (fun f cd A hg outer s H vs Q E hr h => ?_)
    · obtain ⟨_, _, rfl, _⟩ := h
      rfl
    · obtain ⟨v, nd, rfl, dp, co, hdep, hl, q⟩ := h
      have pok := pcs_ok co hdep
      have ews := pcs_ws nd
      rw [pcs_d] at dp
      obtain ⟨p, xs, rfl, hs, ha⟩ := dpT dp
      have len := dpa_len ha
      rw [List.length_map] at len
      refine ⟨_, (pss_cons (ps_set (i := 1) scWords_of.nd rfl (Or.inl rfl) (pe_lst pa_nil))
  (pss_cons (ps_for (wi := iTup K _) PassesOwn.never rfl (pi_tup (pv 0)) (pg_name (i := 2) scWords_of.nd rfl (Or.inl rfl))
  (pss_one (ps_expr (pe_bm PySem.F.plainAttrs_list PySem.F.slot_list_extend PySem.F.type_list_extend mt_extend (pv 1) (pa_cons (pe_ifExp (pt_val (pe_callB (r := rIsi K) call_isi (by rfl) T.isinstance (by decide +kernel) (pa_cons (pv 2) (pa_cons (pe_bltn (v := .ty "tuple") (by rfl) T.tuple (by decide +kernel) rfl) pa_nil)))) (pe_cG CWords_of hg hr (by omega) (pa_cons (pv 2) pa_nil)) (pe_lst (pa_cons (pe_callTy (r := Wt.rStr) Wt.call_str (by rfl) T.str (by decide +kernel) (pa_cons (pv 2) pa_nil)) pa_nil))) pa_nil)))))
  (pss_one (ps_ret (pv 1))))), ?_⟩
      repeat walk_at "rd"
      refine ⟨Rd.sz (by simp), fun R hR => ?_⟩
      repeat walk_at "rd"
      refine forT ?_
      repeat walk_at "rd"
      refine ⟨p, rfl, ⟨xs, sqT_same (Rd.sNew hR) hs⟩, ?_⟩
      refine for_tup (K := K) (a := p) (xs := xs) (fun j σ H' => (∃ z, σ = [some (.ref p), some (.ref R), z]) ∧ Same H H' ∧ H' R = some (.lst ((((nd.pcs.take j).map Pc.ws).flatten).map V.str))) ⟨⟨_, rfl⟩, Rd.sNew hR, by simp [upd_same]⟩ (fun j σ H' _ h => sqT_same h.2.1 hs) ?_ ?_
      · rintro j x σ H1 hx ⟨⟨z, rfl⟩, s1, r1⟩
        have hj : j < nd.pcs.length := by
          have := (List.getElem?_eq_some_iff.mp hx).1
          omega
        have gp : nd.pcs[j]? = some nd.pcs[j] := List.getElem?_eq_getElem hj
        have dk : Dp K H1 x (nd.pcs[j]).d := dpa_get (dpa_mono s1 ha) hx (by rw [List.getElem?_map, gp]; rfl)
        have ok := pok _ (List.getElem_mem hj)
        have e1 := wsT gp
        have l1 := wsLe nd.pcs (j + 1)
        rw [ews] at l1
        generalize nd.pcs[j] = pc at dk ok e1
        rw [e1, List.length_append] at l1
        repeat walk_at "rd"
        refine ⟨Rd.ty_list r1, ?_⟩
        have fin : ∀ (q2 : Addr) (H2 : Hp), Same H1 H2 → H2 q2 = some (.lst (pc.ws.map V.str)) → rExtend (.ref R) [.ref q2] H2 fun _ H3 => (∃ z, [some (V.ref p), some (V.ref R), some x] = [some (.ref p), some (.ref R), z]) ∧ Same H H3 ∧ H3 R = some (.lst ((((nd.pcs.take (j + 1)).map Pc.ws).flatten).map V.str)) := fun q2 H2 s2 e2 =>
          ⟨R, q2, _, _, rfl, rfl, s2 _ _ r1, e2, Rd.sz (by rw [List.length_map, List.length_map]; omega), ⟨_, rfl⟩, Rd.sMut (s1.trans s2) hR, by rw [upd_same, e1, List.map_append]⟩
        cases pc with
        | s z =>
          obtain rfl := dpS dk
          repeat walk_at "rd"
          refine isi (.base (.str z)) (by show kitB "str" "tuple" = some false; decide +kernel) ?_
          repeat walk_at "rd"
          refine .inr ⟨z, rfl, ?_⟩
          repeat walk_at "rd"
          refine ⟨Rd.sz (by simp), fun q2 hq => ?_⟩
          repeat walk_at "rd"
          exact fin q2 _ (Rd.sNew hq) upd_same
        | i k =>
          obtain rfl := dpI dk
          repeat walk_at "rd"
          refine isi (.base (.int k)) (by show kitB "int" "tuple" = some false; decide +kernel) ?_
          repeat walk_at "rd"
          refine .inl ⟨k, rfl, ?_, ?_⟩
          · obtain ⟨k0, k4⟩ : 0 ≤ k ∧ k ≤ 4 := ok
            have e : k = 0 ∨ k = 1 ∨ k = 2 ∨ k = 3 ∨ k = 4 := by omega
            rcases e with rfl | rfl | rfl | rfl | rfl <;> decide +kernel
          · repeat walk_at "rd"
            refine ⟨Rd.sz (by simp), fun q2 hq => ?_⟩
            repeat walk_at "rd"
            exact fin q2 _ (Rd.sNew hq) upd_same
        | n nd2 =>
          obtain ⟨ok1, ok2⟩ := ok
          have dk : Dp K H1 x nd2.d := dk
          have dk2 := dk
          rw [pcs_d] at dk2
          obtain ⟨p2, xs2, rfl, hs2, _⟩ := dpT dk2
          repeat walk_at "rd"
          refine isi (tup_ty hs2) (by show kitB "tuple" "tuple" = some true; decide +kernel) ?_
          repeat walk_at "rd"
          have l2 : nd2.words.length ≤ 1000 := by
            have e : (Pc.n nd2).ws = nd2.words := rfl
            rw [e] at l1
            omega
          refine ⟨_, nd2, rfl, dk, ok1, ok2, l2, fun q2 H2 hq s2 e2 => ?_⟩
          repeat walk_at "rd"
          exact fin q2 _ s2 e2
      · rintro σ H1 ⟨⟨z, rfl⟩, s1, r1⟩
        rw [len, List.take_length, ews] at r1
        repeat walk_at "rd"
        exact q R H1 hR s1 r1
end
end Ab
namespace Ab
open PySem.Spec PyProof.Rows
local macro_rules | `(tactic| walk_at "rd") => `(tactic| (with_reducible first | refine Rd.tt_ ?_ | refine Rd.ff_ ?_))
/-! ### the words of right bodies -/
def vocab : List Str := ["yes", "no", "raise", "further", "decline", "count", "ask", "not", "if", "truth", "size", "hash", "member", "like", "unlike", "before", "behind", "self", "other", "0", "1", "2", "3", "4"]
theorem num_vocab {i : Int} (h0 : 0 ≤ i) (h4 : i ≤ 4) : ((toString i : String) : Str) ∈ vocab := by
  have e : i = 0 ∨ i = 1 ∨ i = 2 ∨ i = 3 ∨ i = 4 := by omega
  rcases e with rfl | rfl | rfl | rfl | rfl <;> decide +kernel
theorem roles_vocab {m r : Str} (h : r ∈ rolesOf m) : r ∈ vocab := by
  have h2 : r = "self" ∨ r = "other" := by
    unfold rolesOf at h
    split at h
    · simpa using h
    · exact .inl (by simpa using h)
  rcases h2 with rfl | rfl <;> decide +kernel
theorem all_vocab {m : Str} : ∀ (nd : Nd) (t : Bool), nd.all m t = true → nd.cntOk = true ∧ ∀ w ∈ nd.words, w ∈ vocab
  | .no a, t, h => by
    obtain ⟨c, v⟩ := all_vocab a false h
    refine ⟨c, fun w hw => ?_⟩
    rcases List.mem_cons.mp hw with rfl | hw
    · decide +kernel
    · exact v w hw
  | .iff a b c, t, h => by
    have h : (a.all m false && b.all m t && c.all m t) = true := h
    rw [Bool.and_eq_true, Bool.and_eq_true] at h
    obtain ⟨c1, v1⟩ := all_vocab a _ h.1.1
    obtain ⟨c2, v2⟩ := all_vocab b _ h.1.2
    obtain ⟨c3, v3⟩ := all_vocab c _ h.2
    refine ⟨?_, fun w hw => ?_⟩
    · show (a.cntOk && b.cntOk && c.cntOk) = true
      rw [c1, c2, c3]
      rfl
    · rcases List.mem_cons.mp hw with rfl | hw
      · decide +kernel
      · rcases List.mem_append.mp hw with hw | hw
        · exact v1 w hw
        · rcases List.mem_append.mp hw with hw | hw
          · exact v2 w hw
          · exact v3 w hw
  | .word z, t, h => by
    have w := of_decide_eq_true (show decide (z ∈ (["yes", "no", "raise", "further", "decline"] : List Str)) = true from top_wd (nd := .word z) h)
    refine ⟨rfl, fun y hy => ?_⟩
    obtain rfl := List.mem_singleton.mp hy
    exact (show ∀ z ∈ (["yes", "no", "raise", "further", "decline"] : List Str), z ∈ vocab by decide +kernel) _ w
  | .cnt i, t, h => by
    have h2 : (decide (0 ≤ i) && decide (i ≤ 4)) = true := h
    refine ⟨h2, fun w hw => ?_⟩
    simp only [Bool.and_eq_true, decide_eq_true_eq] at h2
    rcases List.mem_cons.mp hw with rfl | hw
    · decide +kernel
    · obtain rfl := List.mem_singleton.mp hw
      exact num_vocab h2.1 h2.2
  | .ask1 o r, t, h => by
    have h : (decide (o ∈ askOne) && decide (r ∈ rolesOf m)) = true := h
    simp only [Bool.and_eq_true, decide_eq_true_eq] at h
    refine ⟨rfl, fun w hw => ?_⟩
    simp only [Nd.words, List.mem_cons, List.not_mem_nil, or_false] at hw
    rcases hw with rfl | rfl | rfl
    · decide +kernel
    · exact (show ∀ z ∈ askOne, z ∈ vocab by decide +kernel) _ h.1
    · exact roles_vocab h.2
  | .ask2 o r q, t, h => by
    have h : (decide (o ∈ askTwo) && decide (r ∈ rolesOf m) && decide (q ∈ rolesOf m) && decide (r ≠ q)) = true := h
    simp only [Bool.and_eq_true, decide_eq_true_eq] at h
    refine ⟨rfl, fun w hw => ?_⟩
    simp only [Nd.words, List.mem_cons, List.not_mem_nil, or_false] at hw
    rcases hw with rfl | rfl | rfl | rfl
    · decide +kernel
    · exact (show ∀ z ∈ askTwo, z ∈ vocab by decide +kernel) _ h.1.1.1
    · exact roles_vocab h.1.1.2
    · exact roles_vocab h.1.2
theorem words_len : ∀ nd : Nd, 1 ≤ nd.words.length ∧ nd.words.length ≤ 4 * nd.size
  | .word _ => ⟨by simp [Nd.words], by simp [Nd.words, Nd.size]⟩
  | .cnt _ => ⟨by simp [Nd.words], by simp [Nd.words, Nd.size]⟩
  | .ask1 _ _ => ⟨by simp [Nd.words], by simp [Nd.words, Nd.size]⟩
  | .ask2 _ _ _ => ⟨by simp [Nd.words], by simp [Nd.words, Nd.size]⟩
  | .no a => by
    obtain ⟨_, h⟩ := words_len a
    have e : (Nd.no a).size = a.size + 1 := by simp [Nd.size]; try omega
    rw [e]
    simp only [Nd.words, List.length_cons]
    omega
  | .iff a b c => by
    obtain ⟨_, h1⟩ := words_len a
    obtain ⟨_, h2⟩ := words_len b
    obtain ⟨_, h3⟩ := words_len c
    have e : (Nd.iff a b c).size = a.size + b.size + c.size + 1 := by simp [Nd.size]; try omega
    rw [e]
    simp only [Nd.words, List.length_cons, List.length_append]
    omega
theorem vocab_ok : ∀ w ∈ vocab, w.length ≤ 8 ∧ 32 ∉ TL.tl w ∧ PyData.strOk w = true ∧ w ≠ "" := by decide +kernel
theorem sum_le8 : ∀ {l : List Str}, (∀ w ∈ l, w ∈ vocab) → (l.map (·.length)).sum ≤ 8 * l.length
  | [], _ => by simp
  | w :: l, h => by
    have h1 := (vocab_ok w (h w List.mem_cons_self)).1
    have h2 := sum_le8 fun z hz => h z (List.mem_cons_of_mem _ hz)
    simp only [List.map_cons, List.sum_cons, List.length_cons]
    omega
def Nd.text (nd : Nd) : Str := Txt.join " " nd.words
section
variable {P : Program} {w : World} {K : PySem.W.Frag} {mg : Str → Option Value} {base : Heap}
abbrev sL_flat : Stmt := top 53
abbrev nL_flat : List Str := ["_law_told", "_law_found", "_law_part"]
theorem scL_flat : FnScope nL_flat ["_law_told"] (defScope sL_flat) := ⟨rfl, rfl, rfl, by decide +kernel, rfl, by decide +kernel, by decide +kernel⟩
theorem ok_flat (T : Txt K mg) (D : DefAt K mg "_law_flat" sL_flat ["_law_told"]) : ∀ n, CalG P w K mg base (n + 1) "_law_flat" (spWords K n)
  | 0 => D.by scL_flat (fun vs H Q E h => by obtain ⟨_, _, rfl, _⟩ := h; rfl) (fun f cd A hg outer s H vs Q E hr h => by
    obtain ⟨_, nd, _, _, _, h, _⟩ := h
    have := dep_pos nd
    omega)
  | n + 1 => by
    have CL_flat := ok_flat T D n
    refine D.by scL_flat (fun vs H Q E h => ?_) (fun f cd A hg outer s H vs Q E hr h => ?_)
    · obtain ⟨_, _, rfl, _⟩ := h
      rfl
    · obtain ⟨v, nd, rfl, dp, co, hdep, hl, q⟩ := h
      have pok := pcs_ok co hdep
      have ews := pcs_ws nd
      rw [pcs_d] at dp
      obtain ⟨p, xs, rfl, hs, ha⟩ := dpT dp
      have len := dpa_len ha
      rw [List.length_map] at len
      refine ⟨_, (pss_cons (ps_set (i := 1) scL_flat.nd rfl (Or.inl rfl) (pe_lst pa_nil))
  (pss_cons (ps_for (wi := iTup K _) PassesOwn.never rfl (pi_tup (pv 0)) (pg_name (i := 2) scL_flat.nd rfl (Or.inl rfl))
  (pss_one (ps_if (pt_val (pe_callB (r := rIsi K) call_isi (by rfl) T.isinstance (by decide +kernel) (pa_cons (pv 2) (pa_cons (pe_bltn (v := .ty "tuple") (by rfl) T.tuple (by decide +kernel) rfl) pa_nil))))
  (pss_one (ps_set (i := 1) scL_flat.nd rfl (Or.inl rfl) (pe_op op_cat (pv 1) (pe_cG CL_flat hg hr (by omega) (pa_cons (pv 2) pa_nil)))))
  (pss_one (ps_expr (pe_bm PySem.F.plainAttrs_list PySem.F.slot_list_append PySem.F.type_list_append mt_append (pv 1) (pa_cons (pe_callTy (r := Wt.rStr) Wt.call_str (by rfl) T.str (by decide +kernel) (pa_cons (pv 2) pa_nil)) pa_nil)))))))
  (pss_one (ps_ret (pv 1))))), ?_⟩
      repeat walk_at "rd"
      refine ⟨Rd.sz (by simp), fun R hR => ?_⟩
      repeat walk_at "rd"
      refine forT ?_
      repeat walk_at "rd"
      refine ⟨p, rfl, ⟨xs, sqT_same (Rd.sNew hR) hs⟩, ?_⟩
      refine for_tup (K := K) (a := p) (xs := xs) (fun j σ H' => ∃ R z, σ = [some (.ref p), some (.ref R), z] ∧ H R = none ∧ Same H H' ∧ H' R = some (.lst ((((nd.pcs.take j).map Pc.ws).flatten).map V.str))) ⟨R, _, rfl, hR, Rd.sNew hR, by simp [upd_same]⟩ (fun j σ H' _ h => by obtain ⟨_, _, _, _, h, _⟩ := h; exact sqT_same h hs) ?_ ?_
      · rintro j x σ H1 hx ⟨R, z, rfl, hR, s1, r1⟩
        have hj : j < nd.pcs.length := by
          have := (List.getElem?_eq_some_iff.mp hx).1
          omega
        have gp : nd.pcs[j]? = some nd.pcs[j] := List.getElem?_eq_getElem hj
        have dk : Dp K H1 x (nd.pcs[j]).d := dpa_get (dpa_mono s1 ha) hx (by rw [List.getElem?_map, gp]; rfl)
        have ok := pok _ (List.getElem_mem hj)
        have e1 := wsT gp
        have l1 := wsLe nd.pcs (j + 1)
        rw [ews] at l1
        generalize nd.pcs[j] = pc at dk ok e1
        rw [e1, List.length_append] at l1
        have fin1 : ∀ (z : Str), pc.ws = [z] → rAppend (.ref R) [.str z] H1 fun _ H3 => ∃ R2 z2, [some (V.ref p), some (V.ref R), some x] = [some (.ref p), some (.ref R2), z2] ∧ H R2 = none ∧ Same H H3 ∧ H3 R2 = some (.lst ((((nd.pcs.take (j + 1)).map Pc.ws).flatten).map V.str)) := fun z ez =>
          Rd.app r1 (Rd.szl (by rw [List.length_map]; omega)) ⟨R, _, rfl, hR, Rd.sMut s1 hR, by rw [upd_same, e1, ez, List.map_append]; rfl⟩
        cases pc with
        | s z =>
          obtain rfl := dpS dk
          repeat walk_at "rd"
          refine isi (.base (.str z)) (by show kitB "str" "tuple" = some false; decide +kernel) ?_
          repeat walk_at "rd"
          refine ⟨Rd.ty_list r1, ?_⟩
          repeat walk_at "rd"
          refine .inr ⟨z, rfl, ?_⟩
          repeat walk_at "rd"
          exact fin1 z rfl
        | i k =>
          obtain rfl := dpI dk
          repeat walk_at "rd"
          refine isi (.base (.int k)) (by show kitB "int" "tuple" = some false; decide +kernel) ?_
          repeat walk_at "rd"
          refine ⟨Rd.ty_list r1, ?_⟩
          repeat walk_at "rd"
          refine .inl ⟨k, rfl, ?_, ?_⟩
          · obtain ⟨k0, k4⟩ : 0 ≤ k ∧ k ≤ 4 := ok
            have e : k = 0 ∨ k = 1 ∨ k = 2 ∨ k = 3 ∨ k = 4 := by omega
            rcases e with rfl | rfl | rfl | rfl | rfl <;> decide +kernel
          · repeat walk_at "rd"
            exact fin1 _ rfl
        | n nd2 =>
          obtain ⟨ok1, ok2⟩ := ok
          have dk : Dp K H1 x nd2.d := dk
          have dk2 := dk
          rw [pcs_d] at dk2
          obtain ⟨p2, xs2, rfl, hs2, _⟩ := dpT dk2
          repeat walk_at "rd"
          refine isi (tup_ty hs2) (by show kitB "tuple" "tuple" = some true; decide +kernel) ?_
          repeat walk_at "rd"
          have ew : (Pc.n nd2).ws = nd2.words := rfl
          have l2 : nd2.words.length ≤ 1000 := by
            rw [ew] at l1
            omega
          refine ⟨_, nd2, rfl, dk, ok1, ok2, l2, fun q2 H2 hq s2 e2 => ?_⟩
          refine Rd.cat (s2 _ _ r1) e2 (Rd.sz (by rw [List.length_map, List.length_map, ← ew]; omega)) fun r hr3 => ?_
          repeat walk_at "rd"
          have hr1 : H r = none := by
            cases z : H r with
            | none => rfl
            | some u => rw [s2 _ _ (s1 _ _ z)] at hr3; cases hr3
          refine ⟨r, _, rfl, hr1, (s1.trans s2).trans (Rd.sNew hr3), ?_⟩
          rw [upd_same, e1, ew, List.map_append]
      · rintro σ H1 ⟨R, z, rfl, hR, s1, r1⟩
        rw [len, List.take_length, ews] at r1
        repeat walk_at "rd"
        exact q R H1 hR s1 r1
end
end Ab
namespace Ab
open PySem.Spec PyProof.Rows
local macro_rules | `(tactic| walk_at "rd") => `(tactic| (with_reducible first | refine Rd.tt_ ?_ | refine Rd.ff_ ?_ | refine Rd.sfld ?_ | refine Rd.dget ?_ | refine Rd.methR ?_ | refine Rd.propR ?_ | refine Rd.getR ?_))
section
variable {P : Program} {w : World} {K : PySem.W.Frag} {mg : Str → Option Value} {base : Heap}
abbrev sBody___init__ : Stmt := meth 37 0
abbrev nBody___init__ : List Str := ["self", "method", "expression", "place"]
theorem scBody___init__ : FnScope nBody___init__ ["self", "method", "expression"] (defScope sBody___init__) := ⟨rfl, rfl, rfl, by decide +kernel, rfl, by decide +kernel, by decide +kernel⟩
def spBN (K : PySem.W.Frag) (C CB : Addr) : Sp := fun vs H Q E => ∃ (b dx : Addr) (m : Str) (v : V) (d : PyData), vs = [.ref b, .str m, v] ∧ m ∈ bodyM ∧ H b = some (.ins C dx []) ∧ Dp K H v d ∧ Uni d ∧
  (∀ n, goW m 16 [(d, 1, true)] = some n → ∀ H', Same H H' → OutF CB "place" (.int (n : Int)) H' E) ∧
  (goW m 16 [(d, 1, true)] = none → ∀ L H', Keep b H H' → H L = none → H' b = some (.ins C dx [("method", .str m), ("expression", v), ("_nodes", .ref L)]) → Q .non H')
theorem ok_bdN (T : Txt K mg) {C_Body C_NoName C_NoBody : Addr} (B : BdF K mg C_Body) (T_NoBody : Ex.ErrC K mg "NoBody" "place" C_NoBody) (M_NoBody : Ex.InitOk P w K mg base "place" C_NoBody) (CCheck_body_method : Ex.CalX P w K mg base 5 "check_body_method" (spCheckB K C_NoName))
    (CFirst_wrong : CalG P w K mg base 8 "_first_wrong" (spFirst K)) (CNumbered : CalG P w K mg base 8 "_numbered" (spNumb K 6)) {f : Addr} {fd : FuncData} (D : Ob.MethAt K "__init__" "Body.__init__" sBody___init__ ["self", "method", "expression"] f fd) :
    FnG P w K mg base (L2N.CX P w) 9 f fd ["self", "method", "expression"] (spBN K C_Body C_NoBody) := by
  refine Hn.byN D scBody___init__ (fun vs H Q E h => ?_) (fun cd A hg outer s H vs Q E hr h => ?_)
  · obtain ⟨_, _, _, _, _, rfl, _⟩ := h
    rfl
  · obtain ⟨b, dx, m, v, d, rfl, hm, hb, dp, un, q2, q3⟩ := h
    refine ⟨_, (pss_cons (ps_expr (Ex.pe_x0 CCheck_body_method hg hr (by decide) (pa_cons (pv 1) pa_nil)))
  (pss_cons (ps_set (i := 3) scBody___init__.nd rfl (Or.inl rfl) (pe_cG CFirst_wrong hg hr (by decide) (pa_cons (pv 1) (pa_cons (pv 2) pa_nil))))
  (pss_cons (ps_if (pt_cmpR op_notN (pv 3) pe_non (nomark _))
  (pss_one (L2N.ps_raise rfl (L2N.takes_of rfl rfl rfl rfl) (Hn.pmkN T_NoBody M_NoBody hr (by decide) (pa_cons (pv 3) pa_nil))))
  pss_nil)
  (pss_cons (ps_fld (pv 0) (pv 1) (by rfl))
  (pss_cons (ps_fld (pv 0) (pv 2) (by rfl))
  (pss_one (ps_fld (pv 0) (pe_cG CNumbered hg hr (by decide) (pa_cons (pv 2) (pa_cons pe_int pa_nil))) (by rfl)))))))), ?_⟩
    repeat walk_at "rd"
    refine ⟨_, _, rfl, kd_str m, fun _ => ?_, fun c => absurd (show isIn (.str m) bodyM = true from decide_eq_true hm) (by rw [c]; decide)⟩
    have mm := bodyM_in m hm
    repeat walk_at "rd"
    refine ⟨v, m, d, rfl, dp, un, mm, fun H1 s1 => ?_⟩
    have hb1 := s1 _ _ hb
    have nt1 := nt_ins hb1
    repeat walk_at "rd"
    cases eg : goW m 16 [(d, 1, true)] with
    | some n =>
      refine Rd.ndec (fun c => ?_) (fun c => absurd c (by intro z; cases z))
      repeat walk_at "rd"
      refine Ex.mk ?_
      repeat walk_at "rd"
      exact Ex.made (q2 n eg H1 s1)
    | none =>
      refine Rd.ndec (fun c => absurd rfl c) (fun _ => ?_)
      obtain ⟨nd, rfl, al, dep, sz⟩ := goW_none eg
      have dp1 := dp_mono s1 dp
      repeat walk_at "rd"
      refine ⟨b, C_Body, dx, [], rfl, hb1, B.cl, B.n1, by decide, ?_⟩
      have e1 : putF "method" (.str m) [] = [(("method" : Str), V.str m)] := rfl
      rw [e1]
      repeat walk_at "rd"
      refine ⟨b, C_Body, dx, [("method", .str m)], rfl, upd_same, B.cl, B.n2, by simp, ?_⟩
      have e2 : putF "expression" v [(("method" : Str), V.str m)] = [(("method" : Str), V.str m), ("expression", v)] := rfl
      rw [e2, upd_upd]
      have k2 : Keep b H1 (upd H1 b (.ins C_Body dx [("method", .str m), ("expression", v)])) := Keep.put (fun _ _ _ e => e)
      have dp2 := nd_keep k2 nt1 _ _ dp1
      have hb2 : upd H1 b (.ins C_Body dx [("method", .str m), ("expression", v)]) b = some (.ins C_Body dx [("method", .str m), ("expression", v)]) := upd_same
      have k02 : Keep b H (upd H1 b (.ins C_Body dx [("method", .str m), ("expression", v)])) := (Keep.same s1).put
      generalize upd H1 b (.ins C_Body dx [("method", .str m), ("expression", v)]) = H2 at k2 dp2 hb2 k02 ⊢
      repeat walk_at "rd"
      refine ⟨v, nd, 0, rfl, dp2, all_wdA nd true al, dep, sz, fun L ys H4 s4 nL hL dy => ?_⟩
      have hb4 := s4 _ _ hb2
      have bL : L ≠ b := fun e => by rw [e, hb4] at hL; cases hL
      repeat walk_at "rd"
      refine ⟨b, C_Body, dx, [("method", .str m), ("expression", v)], rfl, hb4, B.cl, B.n3, by simp, ?_⟩
      have e3 : putF "_nodes" (.ref L) [(("method" : Str), V.str m), ("expression", v)] = [(("method" : Str), V.str m), ("expression", v), ("_nodes", .ref L)] := rfl
      rw [e3]
      have k5 : Keep b H4 (upd H4 b (.ins C_Body dx [("method", .str m), ("expression", v), ("_nodes", .ref L)])) := Keep.put (fun _ _ _ e => e)
      repeat walk_at "rd"
      refine q3 eg L _ (fun a u n e => k5 a u n (s4 _ _ (k02 a u n e))) ?_ upd_same
      cases z : H L with
      | none => rfl
      | some u => rw [k02 _ _ bL z] at nL; cases nL
end
end Ab
namespace Ab
open PySem.Spec PyProof.Rows
local macro_rules | `(tactic| walk_at "rd") => `(tactic| (with_reducible first | refine Rd.tt_ ?_ | refine Rd.ff_ ?_))
/-! ### a text's words read as an expression -/
def digV (z : Str) : Option V := if z = "0" then some (.int 0) else if z = "1" then some (.int 1) else if z = "2" then some (.int 2) else if z = "3" then some (.int 3) else if z = "4" then some (.int 4) else none
def digD (z : Str) : PyData := if z = "0" then .int 0 else if z = "1" then .int 1 else if z = "2" then .int 2 else if z = "3" then .int 3 else if z = "4" then .int 4 else .str z
theorem dig_dp {K : PySem.W.Frag} {H : Hp} (z : Str) : Dp K H ((digV z).getD (.str z)) (digD z) := by
  unfold digV digD
  by_cases h0 : z = "0"
  · rw [if_pos h0, if_pos h0]; exact .int _
  · rw [if_neg h0, if_neg h0]
    by_cases h1 : z = "1"
    · rw [if_pos h1, if_pos h1]; exact .int _
    · rw [if_neg h1, if_neg h1]
      by_cases h2 : z = "2"
      · rw [if_pos h2, if_pos h2]; exact .int _
      · rw [if_neg h2, if_neg h2]
        by_cases h3 : z = "3"
        · rw [if_pos h3, if_pos h3]; exact .int _
        · rw [if_neg h3, if_neg h3]
          by_cases h4 : z = "4"
          · rw [if_pos h4, if_pos h4]; exact .int _
          · rw [if_neg h4, if_neg h4]; exact .str _
structure DigA (K : PySem.W.Frag) (w : World) (mg : Str → Option Value) (p : Addr) : Prop where
  g : mg "DIGITS" = some (.ref p)
  D : ∃ es n, KDict K w p es n
  h : ∀ z : Str, PyData.strOk z = true → ∃ r, PySem.W.nsIn K p z = some r ∧ RelO (digV z) r
def isTwo : List Str → Bool
  | o :: _ => decide (o ∈ askTwo)
  | [] => false
def manyW (w : Str) (r : List Str) : Nat := if w = "count" then 2 else if w = "ask" then (if isTwo r = true then 4 else 3) else 1
theorem many_count {r : List Str} : manyW "count" r = 2 := if_pos rfl
theorem many_ask {r : List Str} : manyW "ask" r = if isTwo r = true then 4 else 3 := by
  unfold manyW
  rw [if_neg (by decide +kernel), if_pos rfl]
theorem many_one {w : Str} {r : List Str} (h1 : w ≠ "count") (h2 : w ≠ "ask") : manyW w r = 1 := by
  unfold manyW
  rw [if_neg h1, if_neg h2]
/-- some parts, one behind the other -/
def rdL (g : List Str → Option (PyData × Nat)) : Nat → List Str → Option (List PyData × Nat)
  | 0, _ => some ([], 0)
  | m + 1, r => match rdL g m r with
    | none => none
    | some (l, i) => match g (r.drop i) with
      | none => none
      | some (a, k) => some (l ++ [a], i + k)
def partsW (w : Str) : Nat := if w = "not" then 1 else 3
def rdW : Nat → List Str → Option (PyData × Nat)
  | 0, _ => none
  | _ + 1, [] => none
  | f + 1, w :: r => if w ∈ partW then (match rdL (rdW f) (partsW w) r with | none => none | some (l, i) => some (.tuple (.str w :: l), i + 1)) else some (.tuple (.str w :: (r.take (manyW w r - 1)).map digD), manyW w r)
theorem rdL_none {g : List Str → Option (PyData × Nat)} {r : List Str} {m : Nat} (h : rdL g m r = none) : ∀ k, rdL g (m + k) r = none
  | 0 => h
  | k + 1 => by
    show (match rdL g (m + k) r with | none => none | some (l, i) => match g (r.drop i) with | none => none | some (a, k) => some (l ++ [a], i + k)) = none
    rw [rdL_none h k]
def spMany (K : PySem.W.Frag) : Sp := fun vs H Q _ => ∃ (W : Addr) (ws : List Str) (at' : Nat) (w : Str) (r : List Str), vs = [.ref W, .int (at' : Int)] ∧ SqL K H W (ws.map V.str) ∧ ws.drop at' = w :: r ∧ ws.length ≤ 1000 ∧ ∀ H', Same H H' → Q (.int (manyW w r : Int)) H'
def spRead (K : PySem.W.Frag) (C : Addr) (n : Nat) : Sp := fun vs H Q E => ∃ (W : Addr) (ws : List Str) (at' : Nat), vs = [.ref W, .int (at' : Int)] ∧ SqL K H W (ws.map V.str) ∧ (∀ w ∈ ws, PyData.strOk w = true) ∧ ws.length ≤ 100 ∧ ws.length < at' + n ∧ 1 ≤ n ∧
  (∀ d k, rdW n (ws.drop at') = some (d, k) → ∀ t v H', Same H H' → H' t = some (.tup [v, .int ((at' + k : Nat) : Int)]) → Dp K H' v d → Q (.ref t) H') ∧
  (rdW n (ws.drop at') = none → ∀ H', Same H H' → OutF C "line" .non H' E)
theorem drop_at {ws : List Str} {i : Nat} {w : Str} {r : List Str} (h : ws.drop i = w :: r) : i < ws.length ∧ ws[i]? = some w ∧ ws.drop (i + 1) = r := by
  have l : i < ws.length := by
    apply Classical.byContradiction
    intro c
    rw [List.drop_eq_nil_of_le (by omega)] at h
    cases h
  rw [List.drop_eq_getElem_cons l] at h
  have e := List.cons.inj h
  exact ⟨l, by rw [List.getElem?_eq_getElem l, e.1], e.2⟩
theorem at_str {ws : List Str} {i : Nat} {w : Str} (h : ws[i]? = some w) : atI (ws.map V.str) (i : Int) = some (.str w) :=
  Rd.atN (Int.natCast_nonneg i) (by simp [h])
theorem cut_str (ws : List Str) (i j : Nat) : cutV (ws.map V.str) (some (i : Int)) (some (j : Int)) = (((ws.drop i).take (j - i)).map V.str) := by
  unfold cutV
  rw [HT.sIx_nat, HT.sIx_nat, List.length_map, List.map_take, List.map_drop]
  by_cases h : i ≤ ws.length
  · rw [Nat.min_eq_left h]
    by_cases h2 : j ≤ ws.length
    · rw [Nat.min_eq_left h2]
    · rw [Nat.min_eq_right (show ws.length ≤ j by omega), List.take_of_length_le (by simp), List.take_of_length_le (by simp; omega)]
  · rw [Nat.min_eq_right (show ws.length ≤ i by omega), List.drop_of_length_le (by simp), List.drop_of_length_le (by simp; omega)]
    simp
section
variable {P : Program} {w : World} {K : PySem.W.Frag} {mg : Str → Option Value} {base : Heap}
abbrev sMany_words : Stmt := top 43
abbrev nMany_words : List Str := ["words", "at", "asked"]
theorem scMany_words : FnScope nMany_words ["words", "at"] (defScope sMany_words) := ⟨rfl, rfl, rfl, by decide +kernel, rfl, by decide +kernel, by decide +kernel⟩
theorem ok_many (T : Txt K mg) {p_ASKED_OF_TWO : Addr} (g_ASKED_OF_TWO : mg "ASKED_OF_TWO" = some (.ref p_ASKED_OF_TWO)) (t2 : ∀ H, SqT K H p_ASKED_OF_TWO (askTwo.map V.str)) (D : DefAt K mg "_many_words" sMany_words ["words", "at"]) (CIs_one_of : CalG P w K mg base 1 "is_one_of" (spOneOf K)) :
    CalG P w K mg base 2 "_many_words" (spMany K) := by
  refine D.by scMany_words (fun vs H Q E h => ?_) (fun f cd A hg outer s H vs Q E hr h => ?_)
  · obtain ⟨_, _, _, _, _, rfl, _⟩ := h
    rfl
  · obtain ⟨W, ws, i, z, r, rfl, hs, hd, hl, q⟩ := h
    obtain ⟨il, iz, id⟩ := drop_at hd
    refine ⟨_, (pss_cons (ps_if (pt_cmpR op_eq (pe_ix (r := rIxL K) ix_list (pv 0) (pv 1) (fun _ _ => rfl)) pe_str (nomark _))
  (pss_one (ps_ret pe_int))
  pss_nil)
  (pss_cons (ps_if (pt_cmpR op_ne (pe_ix (r := rIxL K) ix_list (pv 0) (pv 1) (fun _ _ => rfl)) pe_str (nomark _))
  (pss_one (ps_ret pe_int))
  pss_nil)
  (pss_cons (ps_set (i := 2) scMany_words.nd rfl (Or.inl rfl) (pe_slice (r := rSlL K) sl_list (pv 0) (po_some (pe_op op_add (pv 1) pe_int)) (po_some (pe_op op_add (pv 1) pe_int))))
  (pss_one (ps_ret (pe_ifExp (PW.pt (pw_and (Rd.ptTru (K := K) rfl (pt_truth (pv 2) (by intro _; rfl))) (pw_and1 (pt_val (pe_cG CIs_one_of hg hr (by decide) (pa_cons (pe_ix (r := rIxL K) ix_list (pv 2) pe_int (fun _ _ => rfl)) (pa_cons (pe_glob (v := .ref p_ASKED_OF_TWO) (by rfl) g_ASKED_OF_TWO rfl) pa_nil))))))) pe_int pe_int)))))), ?_⟩
    repeat walk_at "rd"
    refine Rd.ixL hs (at_str iz) ?_
    repeat walk_at "rd"
    refine Rd.dec (fun c => ?_) (fun c => ?_)
    · obtain rfl := V.str.inj c
      repeat walk_at "rd"
      have q := q H (Same.refl _)
      rw [many_count] at q
      exact q
    · have c1 : z ≠ "count" := fun e => c (by rw [e])
      repeat walk_at "rd"
      refine Rd.ixL hs (at_str iz) ?_
      repeat walk_at "rd"
      refine Rd.ndec (fun c => ?_) (fun c => ?_)
      · have c2 : z ≠ "ask" := fun e => c (by rw [e])
        repeat walk_at "rd"
        have q := q H (Same.refl _)
        rw [many_one c1 c2] at q
        exact q
      · obtain rfl := V.str.inj c
        rw [many_ask] at q
        repeat walk_at "rd"
        refine Rd.slL hs fun p hp => ?_
        have ec : cutV (ws.map V.str) (some ((i : Int) + 1)) (some ((i : Int) + 2)) = (r.take 1).map V.str := by
          rw [show ((i : Int) + 1) = ((i + 1 : Nat) : Int) from rfl, show ((i : Int) + 2) = ((i + 2 : Nat) : Int) from rfl, cut_str, id]
          rw [show i + 2 - (i + 1) = 1 by omega]
        rw [ec]
        have s1 := Rd.sNew (o := .lst ((r.take 1).map V.str)) hp
        have ep : upd H p (.lst ((r.take 1).map V.str)) p = some (.lst ((r.take 1).map V.str)) := upd_same
        generalize upd H p (.lst ((r.take 1).map V.str)) = H1 at s1 ep ⊢
        have q := q H1 s1
        repeat walk_at "rd"
        cases r with
        | nil =>
          refine Rd.ff_ ?_
          refine Rd.ff_ ?_
          repeat walk_at "rd"
          exact q
        | cons o r =>
          have ep : H1 p = some (.lst [.str o]) := ep
          refine Rd.tt_ ?_
          repeat walk_at "rd"
          refine ⟨.str o, p_ASKED_OF_TWO, "str", askTwo, rfl, kd_str o, t2 _, ?_⟩
          have q : Q (.int ((if decide (o ∈ askTwo) = true then 4 else 3 : Nat) : Int)) H1 := q
          rw [show isIn (.str o) askTwo = decide (o ∈ askTwo) from rfl]
          repeat walk_at "rd"
          refine Rd.bool (fun c => ?_) (fun c => ?_)
          · rw [c, if_pos rfl] at q
            repeat walk_at "rd"
            exact q
          · rw [c, if_neg Bool.false_ne_true] at q
            repeat walk_at "rd"
            exact q
end
end Ab
namespace Ab
open PySem.Spec PyProof.Rows
local macro_rules | `(tactic| walk_at "rd") => `(tactic| (with_reducible first | refine Rd.tt_ ?_ | refine Rd.ff_ ?_))
theorem digs_noL : ∀ us : List Str, noListA (us.map digD) = true
  | [] => rfl
  | u :: us => by
    have h : noList (digD u) = true := by
      unfold digD
      (repeat' split) <;> rfl
    show (noList (digD u) && noListA (us.map digD)) = true
    rw [h, digs_noL us]
    rfl
theorem rdL_noL {g : List Str → Option (PyData × Nat)} (hg : ∀ r d k, g r = some (d, k) → noList d = true) {r : List Str} : ∀ (m : Nat) (l : List PyData) (k : Nat), rdL g m r = some (l, k) → noListA l = true ∧ l.length = m
  | 0, l, k, h => by
    cases h
    exact ⟨rfl, rfl⟩
  | m + 1, l, k, h => by
    rw [rdL] at h
    cases e : rdL g m r with
    | none => rw [e] at h; cases h
    | some p =>
      obtain ⟨l1, i⟩ := p
      obtain ⟨n1, l2⟩ := rdL_noL hg m l1 i e
      rw [e] at h
      have h : (match g (r.drop i) with | none => none | some (a, k) => some (l1 ++ [a], i + k)) = some (l, k) := h
      cases e2 : g (r.drop i) with
      | none => rw [e2] at h; cases h
      | some q =>
        obtain ⟨a, kk⟩ := q
        rw [e2] at h
        cases h
        refine ⟨?_, by rw [List.length_append, l2]; rfl⟩
        rw [noListA_app, n1]
        show (true && (noList a && true)) = true
        rw [hg _ _ _ e2]
        rfl
theorem rdW_noL : ∀ (n : Nat) (r : List Str) (d : PyData) (k : Nat), rdW n r = some (d, k) → noList d = true
  | 0, _, _, _, h => by cases h
  | _ + 1, [], _, _, h => by cases h
  | n + 1, z :: r, d, k, h => by
    rw [rdW] at h
    split at h
    · cases e : rdL (rdW n) (partsW z) r with
      | none => rw [e] at h; cases h
      | some p =>
        obtain ⟨l, i⟩ := p
        rw [e] at h
        cases h
        show noListA (.str z :: l) = true
        show (noList (.str z) && noListA l) = true
        rw [(rdL_noL (rdW_noL n) _ _ _ e).1]
        rfl
    · cases h
      show (noList (.str z) && noListA ((r.take (manyW z r - 1)).map digD)) = true
      rw [digs_noL]
      rfl
theorem lcIL {K : PySem.W.Frag} {tl te : TE} {g : TG} {tt : TT} {vs : List Nat} {σ : L2.St} {H : Hp} {Q : VK} (k : tl σ H fun x H1 => tLc (iList K (tC x)) g tt te vs σ H1 Q) : tLc (iList K tl) g tt te vs σ H Q := k
section
variable {P : Program} {w : World} {K : PySem.W.Frag} {mg : Str → Option Value} {base : Heap}
abbrev sRead_expression : Stmt := top 44
abbrev nRead_expression : List Str := ["words", "at", "word", "behind", "told", "part", "node", "_"]
theorem scRead_expression : FnScope nRead_expression ["words", "at"] (defScope sRead_expression) := ⟨rfl, rfl, rfl, by decide +kernel, rfl, by decide +kernel, by decide +kernel⟩
set_option pp.maxSteps 3000 in
theorem ok_read (T : Txt K mg) {C p_PARTS p_DIGITS : Addr} (pt : PartsA K w mg p_PARTS) (dg : DigA K w mg p_DIGITS) (T_NoNote : Ex.ErrC K mg "NoNote" "line" C) (M_NoNote : Ex.InitOk P w K mg base "line" C) (D : DefAt K mg "_read_expression" sRead_expression ["words", "at"])
    (CMany_words : CalG P w K mg base 2 "_many_words" (spMany K)) : ∀ n, Ex.CalX P w K mg base (n + 3) "_read_expression" (spRead K C n)
  | 0 => Ex.byX D scRead_expression (fun vs H Q E h => by obtain ⟨_, _, _, rfl, _⟩ := h; rfl) (fun f cd A hg outer s H vs Q E hr h => by
    obtain ⟨_, _, _, _, _, _, _, _, h, _⟩ := h
    omega)
  | n + 1 => by
    have CRead_expression := ok_read T pt dg T_NoNote M_NoNote D CMany_words n
    have g_PARTS := pt.g
    have g_DIGITS := dg.g
    obtain ⟨es, n1, D_PARTS⟩ := pt.D
    obtain ⟨es2, n2, D_DIGITS⟩ := dg.D
    refine Ex.byX D scRead_expression (fun vs H Q E h => ?_) (fun f cd A hg outer s H vs Q E hr h => ?_)
    · obtain ⟨_, _, _, rfl, _⟩ := h
      rfl
    · obtain ⟨W, ws, i, rfl, hs, wok, hl, hn, h1, q1, q2⟩ := h
      refine ⟨_, (pss_cons (ps_if (pt_cmpR op_ge (pv 1) (pe_callB (r := Rd.rLenK K) Rd.callLen (by rfl) T.len PySem.boot_len (pa_cons (pv 0) pa_nil)) (nomark _))
  (pss_one (ps_raise rfl (takes_of rfl rfl rfl rfl) (Ex.pmkE T_NoNote M_NoNote hr (by omega) (pa_cons pe_non pa_nil))))
  pss_nil)
  (pss_cons (ps_set (i := 2) scRead_expression.nd rfl (Or.inl rfl) (pe_ix (r := rIxL K) ix_list (pv 0) (pv 1) (fun _ _ => rfl)))
  (pss_cons (ps_if (pt_cmpR (r := Wt.rNotInKd K p_PARTS) (Wt.op_notInKd D_PARTS) (pv 2) (pe_glob (v := .ref p_PARTS) (by rfl) g_PARTS rfl) (by rfl))
  (pss_cons (ps_set (i := 3) scRead_expression.nd rfl (Or.inl rfl) (pe_op op_add (pv 1) (pe_cG CMany_words hg hr (by omega) (pa_cons (pv 0) (pa_cons (pv 1) pa_nil)))))
  (pss_cons (ps_setLc (i := 4) (wi := iList K _) (own := [("part", 5)]) (g := gName 5) (by rfl) scRead_expression.nd rfl rfl (sw_true rfl rfl rfl (by decide +kernel)) (pi_list (pe_slice (r := rSlL K) sl_list (pv 0) (po_some (pe_op op_add (pv 1) pe_int)) (po_some (pv 3)))) (blkOk_by (N := nRead_expression) (sc := defScope sRead_expression) (by decide +kernel)) (fun _ _ _ _ _ => pg_name (i := 5) scRead_expression.nd rfl (Or.inl rfl)) (fun _ _ _ _ _ => pts_nil) (fun _ _ _ _ _ => (Wt.pe_kget2 (K := K) rfl D_DIGITS (pe_glob (v := .ref p_DIGITS) (by rfl) g_DIGITS rfl) (pv 5) (pv 5) ⟨rfl, rfl, rfl, rfl⟩)))
  (pss_one (ps_ret (pe_tup (pa_cons (pe_tup (pa_cons (pv 2) (StX.pa_star (pv 4) pa_nil))) (pa_cons (pv 3) pa_nil)))))))
  pss_nil)
  (pss_cons (ps_set (i := 6) scRead_expression.nd rfl (Or.inl rfl) (pe_lst (pa_cons (pv 2) pa_nil)))
  (pss_cons (ps_aug (i := 1) scRead_expression.nd rfl (Or.inl rfl) pe_int ip_add)
  (pss_cons (ps_for PassesOwn.leaving rfl (pi_range1 (by rfl) T.range (pa_cons (pe_ix (r := rIxD K w) ix_kdict (pe_glob (v := .ref p_PARTS) (by rfl) g_PARTS rfl) (pv 2) (fun _ _ => rfl)) pa_nil)) (pg_name (i := 7) scRead_expression.nd rfl (Or.inl rfl))
  (pss_cons (ps_asg (Ex.pe_x CRead_expression hg hr (by omega) (takes_of rfl rfl rfl rfl) (pa_cons (pv 0) (pa_cons (pv 1) pa_nil))) (pg_tup (by rfl) (pgs_cons (pg_name (i := 5) scRead_expression.nd rfl (Or.inl rfl)) (pgs_cons (pg_name (i := 1) scRead_expression.nd rfl (Or.inl rfl)) pgs_nil))))
  (pss_one (ps_expr (pe_bm PySem.F.plainAttrs_list PySem.F.slot_list_append PySem.F.type_list_append mt_append (pv 6) (pa_cons (pv 5) pa_nil))))))
  (pss_one (ps_ret (pe_tup (pa_cons (pe_callTy call_tuple_of (by rfl) T.tuple (by decide +kernel) (pa_cons (pv 6) pa_nil)) (pa_cons (pv 1) pa_nil))))))))))), ?_⟩
      repeat walk_at "rd"
      refine Rd.dec (fun c => ?_) (fun c => ?_)
      · have e : ws.drop i = [] := List.drop_of_length_le (by rw [List.length_map] at c; omega)
        rw [e] at q2
        repeat walk_at "rd"
        refine Ex.mk ?_
        repeat walk_at "rd"
        exact Ex.made (q2 rfl H (Same.refl _))
      rw [List.length_map] at c
      have il : i < ws.length := by omega
      have hd : ws.drop i = ws[i] :: ws.drop (i + 1) := List.drop_eq_getElem_cons il
      have iz : ws[i]? = some ws[i] := List.getElem?_eq_getElem il
      have zok := wok _ (List.getElem_mem il)
      rw [hd] at q1 q2
      generalize ws[i] = z at hd iz zok q1 q2
      generalize hr' : ws.drop (i + 1) = r at hd q1 q2
      repeat walk_at "rd"
      refine Rd.ixL hs (at_str iz) ?_
      repeat walk_at "rd"
      obtain ⟨o, hr1, hr2⟩ := pt.h z zok
      refine ⟨z, o, rfl, rfl, hr1, ?_⟩
      rw [hr2]
      refine ⟨_, rfl, ?_⟩
      refine Rd.ndec (fun c => ?_) (fun c => ?_)
      · rw [rdW, if_neg c] at q1
        repeat walk_at "rd"
        refine ⟨W, ws, i, z, r, rfl, hs, hd, by omega, fun H1 s1 => ?_⟩
        repeat walk_at "rd"
        refine lcIL ?_
        repeat walk_at "rd"
        refine Rd.slL (s1.seq hs) fun p hp => ?_
        have mp : 1 ≤ manyW z r := by
          unfold manyW
          (repeat' split) <;> omega
        have m4 : manyW z r ≤ 4 := by
          unfold manyW
          (repeat' split) <;> omega
        have ec : cutV (ws.map V.str) (some ((i : Int) + 1)) (some ((i : Int) + (manyW z r : Int))) = (r.take (manyW z r - 1)).map V.str := by
          rw [show ((i : Int) + 1) = ((i + 1 : Nat) : Int) from rfl, show ((i : Int) + (manyW z r : Int)) = ((i + manyW z r : Nat) : Int) from rfl, cut_str, hr']
          rw [show i + manyW z r - (i + 1) = manyW z r - 1 by omega]
        rw [ec]
        have s2 := s1.trans (Rd.sNew (o := .lst ((r.take (manyW z r - 1)).map V.str)) hp)
        have ep : upd H1 p (.lst ((r.take (manyW z r - 1)).map V.str)) p = some (.lst ((r.take (manyW z r - 1)).map V.str)) := upd_same
        have rok : ∀ w ∈ r.take (manyW z r - 1), PyData.strOk w = true := fun w hw => wok w (List.mem_of_mem_drop (by rw [hr']; exact List.mem_of_mem_take hw))
        have rl : (r.take (manyW z r - 1)).length ≤ 3 := by rw [List.length_take]; omega
        have q1 := q1 _ _ rfl
        generalize r.take (manyW z r - 1) = us at ep rok rl q1 s2 ⊢
        generalize upd H1 p (.lst (us.map V.str)) = H2 at ep s2 ⊢
        have pu : Paired (fun (z : Str) (x : V) => x = .str z) us (us.map V.str) := by
          clear ep rok rl q1 s2
          induction us with
          | nil => exact .nil
          | cons u us ih => exact .cons rfl ih
        refine Rd.lcL (K := K) (a := p) (xs := us.map V.str) (bs := us) (fun z x _ => x = .str z) (fun d y H => Dp K H y d) (fun _ => true) digD (fun R k => k) (SqL.of ep) (fun _ _ _ _ _ h => h) (fun _ _ _ _ s h => dp_mono s h) pu (by rw [List.length_map]; omega) (fun _ => rfl) ?_ ?_ ?_
        · intro b x H3 R _ _ _ _ k
          repeat walk_at "rd"
          exact k _ (Same.refl _)
        · rintro b x H3 R hb _ rfl _ _ k
          obtain ⟨o3, ho1, ho2⟩ := dg.h b (rok b hb)
          refine Rd.cst ⟨rfl, Rd.var rfl (Rd.var rfl ⟨b, o3, _, rfl, ho1, ho2, ?_⟩)⟩
          exact k _ H3 (Same.refl _) fun D o _ _ => dig_dp b
        · intro L ys H3 hL s3 eL pr
          have fall : us.filter (fun _ => true) = us := List.filter_eq_self.mpr fun _ _ => rfl
          rw [fall] at pr
          have S3 := s2.trans s3
          have yl := Rd.pair_len pr
          rw [List.length_map] at yl
          repeat walk_at "rd"
          refine starT ?_
          repeat walk_at "rd"
          refine ⟨L, ys, rfl, .inr (SqL.of eL), ?_⟩
          repeat walk_at "rd"
          rw [List.append_nil]
          refine ⟨Rd.sz (by rw [List.length_cons]; omega), fun t ht => ?_⟩
          have s4 := Rd.sNew (o := .tup (.str z :: ys)) ht
          have et : upd H3 t (.tup (.str z :: ys)) t = some (.tup (.str z :: ys)) := upd_same
          generalize upd H3 t (.tup (.str z :: ys)) = H4 at s4 et ⊢
          repeat walk_at "rd"
          refine ⟨Rd.sz (by simp), fun t2 ht2 => ?_⟩
          have s5 := Rd.sNew (o := .tup [.ref t, .int ((i : Int) + (manyW z r : Int))]) ht2
          have dpa : ∀ {l : List PyData} {ys : List V}, Paired (fun c y => Dp K H3 y c) l ys → DpAll K H3 ys l := by
            intro l ys h
            induction h with
            | nil => exact .nil
            | cons a b ih => exact .cons a ih
          exact q1 t2 (.ref t) _ ((S3.trans s4).trans s5) upd_same (.tup (.inl (.inl (s5 _ _ et))) (.cons (.str _) (dpa_mono (s4.trans s5) (dpa pr))))
      · have zc : z = "not" ∨ z = "if" := by simpa [partW] using c
        have rl : r.length < n := by
          have e := congrArg List.length hr'
          rw [List.length_drop] at e
          omega
        have n1' : 1 ≤ n := by omega
        have rw1 : ∀ l k, rdL (rdW n) (partsW z) r = some (l, k) → rdW (n + 1) (z :: r) = some (.tuple (.str z :: l), k + 1) := fun l k e => by
          rw [rdW, if_pos c, e]
        have rw2 : rdL (rdW n) (partsW z) r = none → rdW (n + 1) (z :: r) = none := fun e => by
          rw [rdW, if_pos c, e]
        have kd : KDct K w p_PARTS z (.int (partsW z : Int)) := by
          rcases zc with rfl | rfl
          · exact pt.n1
          · exact pt.n3
        repeat walk_at "rd"
        refine ⟨Rd.sz (by simp), fun N hN => ?_⟩
        have s1 := Rd.sNew (o := .lst [V.str z]) hN
        have eN : upd H N (.lst [V.str z]) N = some (.lst [V.str z]) := upd_same
        generalize upd H N (.lst [V.str z]) = H1 at s1 eN ⊢
        repeat walk_at "rd"
        refine ⟨.int (i : Int), rfl, Rd.cst ⟨_, _, rfl, rfl, ?_⟩⟩
        repeat walk_at "rd"
        refine ⟨p_PARTS, z, _, rfl, rfl, kd, ?_⟩
        repeat walk_at "rd"
        have pw : partsW z ≤ 3 := by
          unfold partsW
          split <;> omega
        refine Rd.rng (by omega) (by omega) ?_
        show Rd.ForGo (Itr 0 (partsW z)) _ _ _ _ _
        refine Rd.forGo (fun j σ H' => ∃ l k x5 x7 ys, rdL (rdW n) j r = some (l, k) ∧ σ = [some (.ref W), some (.int ((i + 1 + k : Nat) : Int)), some (.str z), none, none, x5, some (.ref N), x7] ∧ Same H H' ∧ H' N = some (.lst (.str z :: ys)) ∧ DpAll K H' ys l ∧ l.length = j) ⟨[], 0, _, _, [], rfl, rfl, s1, eN, .nil, rfl⟩ ?_ ?_
        · rintro j σ H2 hj ⟨l, k, x5, x7, ys, e1, rfl, s2, e2, dpl, ll⟩
          have dk : ws.drop (i + 1 + k) = r.drop k := by rw [← List.drop_drop, hr']
          repeat walk_at "rd"
          refine ⟨W, ws, i + 1 + k, rfl, s2.seq hs, wok, hl, by omega, n1', fun d kk ed t v H3 s3 et dpv => ?_, fun en H3 s3 => ?_⟩
          · rw [dk] at ed
            refine Rd.gtup (.inl (.inl et)) rfl ?_
            repeat walk_at "rd"
            have e3 := s3 _ _ e2
            have yl := dpa_len dpl
            refine ⟨Rd.ty_list e3, ?_⟩
            repeat walk_at "rd"
            refine Rd.app e3 (Rd.szl (by rw [List.length_cons]; omega)) ?_
            repeat walk_at "rd"
            have e4 : rdL (rdW n) (j + 1) r = some (l ++ [d], k + kk) := by
              rw [rdL, e1]
              show (match rdW n (r.drop k) with | none => none | some (a, kk) => some (l ++ [a], k + kk)) = _
              rw [ed]
            refine ⟨l ++ [d], k + kk, some v, some (.int (j : Int)), ys ++ [v], e4, ?_, Rd.sMut (s2.trans s3) hN, upd_same, ?_, by rw [List.length_append, ll]; rfl⟩
            · rw [show i + 1 + k + kk = i + 1 + (k + kk) by omega]
              rfl
            · have kp : Keep N H3 (upd H3 N (.lst (.str z :: ys ++ [v]))) := Keep.put fun _ _ _ e => e
              have a1 := dpa_keepT kp (nt_lst e3) (dpa_mono s3 dpl) (rdL_noL (rdW_noL n) _ _ _ e1).1
              have a2 := dp_keepT kp (nt_lst e3) dpv (rdW_noL n _ _ _ ed)
              exact dpa_app a1 (.cons a2 .nil)
          · rw [dk] at en
            refine q2 (rw2 ?_) H3 (s2.trans s3)
            have e4 : rdL (rdW n) (j + 1) r = none := by
              rw [rdL, e1]
              show (match rdW n (r.drop k) with | none => none | some (a, kk) => some (l ++ [a], k + kk)) = _
              rw [en]
            have e5 := rdL_none e4 (partsW z - (j + 1))
            rwa [show j + 1 + (partsW z - (j + 1)) = partsW z by omega] at e5
        · rintro σ H2 ⟨l, k, x5, x7, ys, e1, rfl, s2, e2, dpl, ll⟩
          repeat walk_at "rd"
          refine ⟨N, .str z :: ys, rfl, .inl ⟨SqL.of e2, fun t ht => ?_⟩⟩
          have s3 := Rd.sNew (o := .tup (.str z :: ys)) ht
          have et : upd H2 t (.tup (.str z :: ys)) t = some (.tup (.str z :: ys)) := upd_same
          show tCons _ _ _ (upd H2 t (.tup (.str z :: ys))) _
          generalize upd H2 t (.tup (.str z :: ys)) = H3 at s3 et ⊢
          repeat walk_at "rd"
          refine ⟨Rd.sz (by simp), fun t2 ht2 => ?_⟩
          have s4 := Rd.sNew (o := .tup [.ref t, .int ((i + 1 + k : Nat) : Int)]) ht2
          refine q1 _ _ (rw1 l k e1) t2 (.ref t) _ ((s2.trans s3).trans s4) ?_ (.tup (.inl (.inl (s4 _ _ et))) (.cons (.str _) (dpa_mono (s3.trans s4) dpl)))
          rw [upd_same, show i + 1 + k = i + (k + 1) by omega]
end
end Ab
namespace Ab
open PySem.Spec PyProof.Rows
/-! ### what is read of the words of a right body -/
theorem dig0 : digD "0" = .int 0 := if_pos rfl
theorem dig1 : digD "1" = .int 1 := by unfold digD; rw [if_neg (by decide +kernel), if_pos rfl]
theorem dig2 : digD "2" = .int 2 := by unfold digD; rw [if_neg (by decide +kernel), if_neg (by decide +kernel), if_pos rfl]
theorem dig3 : digD "3" = .int 3 := by unfold digD; rw [if_neg (by decide +kernel), if_neg (by decide +kernel), if_neg (by decide +kernel), if_pos rfl]
theorem dig4 : digD "4" = .int 4 := by unfold digD; rw [if_neg (by decide +kernel), if_neg (by decide +kernel), if_neg (by decide +kernel), if_neg (by decide +kernel), if_pos rfl]
theorem dig_num {i : Int} (h0 : 0 ≤ i) (h4 : i ≤ 4) : digD ((toString i : String) : Str) = .int i := by
  have e : i = 0 ∨ i = 1 ∨ i = 2 ∨ i = 3 ∨ i = 4 := by omega
  rcases e with rfl | rfl | rfl | rfl | rfl
  · rw [show ((toString (0 : Int) : String) : Str) = "0" by decide +kernel, dig0]
  · rw [show ((toString (1 : Int) : String) : Str) = "1" by decide +kernel, dig1]
  · rw [show ((toString (2 : Int) : String) : Str) = "2" by decide +kernel, dig2]
  · rw [show ((toString (3 : Int) : String) : Str) = "3" by decide +kernel, dig3]
  · rw [show ((toString (4 : Int) : String) : Str) = "4" by decide +kernel, dig4]
theorem dig_no {z : Str} (h : z ∉ (["0", "1", "2", "3", "4"] : List Str)) : digD z = .str z := by
  simp only [List.mem_cons, List.not_mem_nil, or_false, not_or] at h
  obtain ⟨h0, h1, h2, h3, h4⟩ := h
  unfold digD
  rw [if_neg h0, if_neg h1, if_neg h2, if_neg h3, if_neg h4]
def plainW : List Str := ["truth", "size", "hash", "member", "like", "unlike", "before", "behind", "self", "other"]
theorem plain_no : ∀ z ∈ plainW, z ∉ (["0", "1", "2", "3", "4"] : List Str) := by decide +kernel
theorem plain_one : ∀ z ∈ askOne, z ∈ plainW := by decide +kernel
theorem plain_two : ∀ z ∈ askTwo, z ∈ plainW := by decide +kernel
theorem plain_role : ∀ z ∈ (["self", "other"] : List Str), z ∈ plainW := by decide +kernel
theorem dig_word (z : Str) (h : z ∈ plainW) : digD z = .str z := dig_no (plain_no z h)
theorem one_two : ∀ z ∈ askOne, z ∉ askTwo := by decide +kernel
theorem word_out : ∀ z ∈ (["yes", "no", "raise", "further", "decline"] : List Str), z ∉ partW ∧ z ≠ "count" ∧ z ≠ "ask" := by decide +kernel
theorem roles_two {m r : Str} (h : r ∈ rolesOf m) : r ∈ (["self", "other"] : List Str) := by
  unfold rolesOf at h
  split at h
  · exact h
  · have := List.mem_singleton.mp h
    subst this
    decide +kernel
theorem drop_words {l r : List Str} : (l ++ r).drop l.length = r := by simp
theorem rdW_words {m : Str} : ∀ (nd : Nd) (t : Bool) (n : Nat) (rest : List Str), nd.all m t = true → nd.words.length ≤ n → rdW n (nd.words ++ rest) = some (nd.d, nd.words.length)
  | .word z, t, 0, rest, h, hn => absurd hn (by simp [Nd.words])
  | .cnt i, t, 0, rest, h, hn => absurd hn (by simp [Nd.words])
  | .ask1 o r, t, 0, rest, h, hn => absurd hn (by simp [Nd.words])
  | .ask2 o r q, t, 0, rest, h, hn => absurd hn (by simp [Nd.words])
  | .no a, t, 0, rest, h, hn => absurd hn (by simp [Nd.words])
  | .iff a b c, t, 0, rest, h, hn => absurd hn (by simp [Nd.words])
  | .word z, t, n + 1, rest, h, hn => by
    have w := of_decide_eq_true (show decide (z ∈ (["yes", "no", "raise", "further", "decline"] : List Str)) = true from top_wd (nd := .word z) h)
    obtain ⟨h1, h2, h3⟩ := word_out z w
    show rdW (n + 1) (z :: rest) = _
    rw [rdW, if_neg h1, many_one h2 h3]
    rfl
  | .cnt i, t, n + 1, rest, h, hn => by
    have h2 : (decide (0 ≤ i) && decide (i ≤ 4)) = true := h
    simp only [Bool.and_eq_true, decide_eq_true_eq] at h2
    show rdW (n + 1) ("count" :: ((toString i : String) : Str) :: rest) = _
    rw [rdW, if_neg (by decide +kernel), many_count]
    show some (PyData.tuple [.str "count", digD ((toString i : String) : Str)], 2) = _
    rw [dig_num h2.1 h2.2]
    rfl
  | .ask1 o r, t, n + 1, rest, h, hn => by
    have h : (decide (o ∈ askOne) && decide (r ∈ rolesOf m)) = true := h
    simp only [Bool.and_eq_true, decide_eq_true_eq] at h
    show rdW (n + 1) ("ask" :: o :: r :: rest) = _
    have e : isTwo (o :: r :: rest) = false := decide_eq_false (one_two o h.1)
    rw [rdW, if_neg (by decide +kernel), many_ask, e, if_neg Bool.false_ne_true]
    show some (PyData.tuple [.str "ask", digD o, digD r], 3) = _
    rw [dig_word o (plain_one o h.1), dig_word r (plain_role r (roles_two h.2))]
    rfl
  | .ask2 o r q, t, n + 1, rest, h, hn => by
    have h : (decide (o ∈ askTwo) && decide (r ∈ rolesOf m) && decide (q ∈ rolesOf m) && decide (r ≠ q)) = true := h
    simp only [Bool.and_eq_true, decide_eq_true_eq] at h
    show rdW (n + 1) ("ask" :: o :: r :: q :: rest) = _
    have e : isTwo (o :: r :: q :: rest) = true := decide_eq_true h.1.1.1
    rw [rdW, if_neg (by decide +kernel), many_ask, e, if_pos rfl]
    show some (PyData.tuple [.str "ask", digD o, digD r, digD q], 4) = _
    rw [dig_word o (plain_two o h.1.1.1), dig_word r (plain_role r (roles_two h.1.1.2)), dig_word q (plain_role q (roles_two h.1.2))]
    rfl
  | .no a, t, n + 1, rest, h, hn => by
    have h : a.all m false = true := h
    have hl : a.words.length ≤ n := by simp only [Nd.words, List.length_cons] at hn; omega
    have ih := rdW_words a false n rest h hl
    show rdW (n + 1) ("not" :: (a.words ++ rest)) = _
    rw [rdW, if_pos (by decide +kernel)]
    have e : rdL (rdW n) (partsW "not") (a.words ++ rest) = some ([a.d], a.words.length) := by
      show rdL (rdW n) 1 (a.words ++ rest) = _
      simp only [rdL, List.drop_zero, ih, List.nil_append, Nat.zero_add]
    rw [e]
    rfl
  | .iff a b c, t, n + 1, rest, h, hn => by
    have h : (a.all m false && b.all m t && c.all m t) = true := h
    rw [Bool.and_eq_true, Bool.and_eq_true] at h
    simp only [Nd.words, List.length_cons, List.length_append] at hn
    have i1 := rdW_words a false n (b.words ++ (c.words ++ rest)) h.1.1 (by omega)
    have i2 := rdW_words b t n (c.words ++ rest) h.1.2 (by omega)
    have i3 := rdW_words c t n rest h.2 (by omega)
    show rdW (n + 1) ("if" :: (a.words ++ (b.words ++ c.words) ++ rest)) = _
    rw [rdW, if_pos (by decide +kernel)]
    have er : a.words ++ (b.words ++ c.words) ++ rest = a.words ++ (b.words ++ (c.words ++ rest)) := by simp
    have d1 : (a.words ++ (b.words ++ (c.words ++ rest))).drop a.words.length = b.words ++ (c.words ++ rest) := by simp
    have d2 : (a.words ++ (b.words ++ (c.words ++ rest))).drop (a.words.length + b.words.length) = c.words ++ rest := by rw [← List.drop_drop, d1]; simp
    have e : rdL (rdW n) (partsW "if") (a.words ++ (b.words ++ c.words) ++ rest) = some ([a.d, b.d, c.d], a.words.length + b.words.length + c.words.length) := by
      show rdL (rdW n) 3 _ = _
      rw [er]
      simp only [rdL, List.drop_zero, i1, List.nil_append, Nat.zero_add, d1, i2, d2, i3, List.cons_append]
    rw [e]
    simp only [Nd.words, Nd.d, List.length_cons, List.length_append]
    rw [show a.words.length + b.words.length + c.words.length + 1 = a.words.length + (b.words.length + c.words.length) + 1 by omega]
theorem text_split {ws : List Str} (hne : ws ≠ []) (h : ∀ w ∈ ws, 32 ∉ TL.tl w) : Txt.split (Txt.join " " ws) " " = ws :=
  TL.split_join (y := " ") (s := 32) (S := []) (by decide +kernel) (by decide +kernel) hne h
end Ab
namespace Ab
open PySem.Spec PyProof.Rows
local macro_rules | `(tactic| walk_at "rd") => `(tactic| (with_reducible first | refine Rd.tt_ ?_ | refine Rd.ff_ ?_ | refine Rd.sfld ?_ | refine Rd.dget ?_ | refine Rd.methR ?_ | refine Rd.propR ?_ | refine Rd.getR ?_))
/-- what reading gives is small -/
def Sm (n : Nat) (d : PyData) : Prop := okU d = true ∧ wid d ≤ 4 ∧ PyData.depth d ≤ n
theorem sm_dig {z : Str} (h : PyData.strOk z = true) : Sm 0 (digD z) := by
  unfold digD
  (repeat' split)
  all_goals first
    | exact ⟨by decide, Nat.zero_le _, Nat.le_refl _⟩
    | exact ⟨h, Nat.zero_le _, Nat.le_refl _⟩
theorem sm_all {n : Nat} : ∀ {l : List PyData}, (∀ d ∈ l, Sm n d) → okUA l = true ∧ widA l ≤ 4 ∧ PyData.depthAll l ≤ n
  | [], _ => ⟨rfl, Nat.zero_le _, Nat.zero_le _⟩
  | d :: l, h => by
    obtain ⟨a, b, c⟩ := h d List.mem_cons_self
    obtain ⟨a2, b2, c2⟩ := sm_all fun x hx => h x (List.mem_cons_of_mem _ hx)
    refine ⟨?_, ?_, ?_⟩
    · rw [okUA, a, a2]; rfl
    · rw [widA]; omega
    · rw [PyData.depthAll]; omega
theorem sm_tup {n : Nat} {l : List PyData} (h : ∀ d ∈ l, Sm n d) (hl : l.length ≤ 4) : Sm (n + 1) (.tuple l) := by
  obtain ⟨a, b, c⟩ := sm_all h
  refine ⟨?_, ?_, ?_⟩
  · rw [okU]; exact a
  · rw [wid]; omega
  · rw [PyData.depth]; omega
theorem Sm.mono {n m : Nat} {d : PyData} (h : Sm n d) (l : n ≤ m) : Sm m d := ⟨h.1, h.2.1, by have := h.2.2; omega⟩
theorem sm_str {n : Nat} {z : Str} (h : PyData.strOk z = true) : Sm n (.str z) := ⟨h, Nat.zero_le _, Nat.zero_le _⟩
theorem rdL_sm {g : List Str → Option (PyData × Nat)} {n : Nat} {r : List Str} (hg : ∀ i d k, g (r.drop i) = some (d, k) → Sm n d) : ∀ (m : Nat) (l : List PyData) (k : Nat), rdL g m r = some (l, k) → ∀ d ∈ l, Sm n d
  | 0, l, k, h => by
    cases h
    simp
  | m + 1, l, k, h => by
    rw [rdL] at h
    cases e : rdL g m r with
    | none => rw [e] at h; cases h
    | some p =>
      obtain ⟨l1, i⟩ := p
      have ih := rdL_sm hg m l1 i e
      rw [e] at h
      have h : (match g (r.drop i) with | none => none | some (a, k) => some (l1 ++ [a], i + k)) = some (l, k) := h
      cases e2 : g (r.drop i) with
      | none => rw [e2] at h; cases h
      | some q =>
        obtain ⟨a, kk⟩ := q
        rw [e2] at h
        cases h
        intro d hd
        rcases List.mem_append.mp hd with hd | hd
        · exact ih d hd
        · obtain rfl := List.mem_singleton.mp hd
          exact hg _ _ _ e2
theorem rdW_sm : ∀ (n : Nat) (r : List Str) (d : PyData) (k : Nat), (∀ w ∈ r, PyData.strOk w = true) → rdW n r = some (d, k) → Sm n d
  | 0, _, _, _, _, h => by cases h
  | _ + 1, [], _, _, _, h => by cases h
  | n + 1, z :: r, d, k, hr, h => by
    have zr : ∀ w ∈ r, PyData.strOk w = true := fun w hw => hr w (List.mem_cons_of_mem _ hw)
    rw [rdW] at h
    split at h
    · cases e : rdL (rdW n) (partsW z) r with
      | none => rw [e] at h; cases h
      | some p =>
        obtain ⟨l, i⟩ := p
        rw [e] at h
        cases h
        have hl := (rdL_noL (rdW_noL n) _ _ _ e).2
        have sm := rdL_sm (n := n) (fun i d k h => rdW_sm n _ d k (fun w hw => zr w (List.mem_of_mem_drop hw)) h) _ _ _ e
        refine sm_tup (fun d hd => ?_) ?_
        · rcases List.mem_cons.mp hd with rfl | hd
          · exact sm_str (hr z List.mem_cons_self)
          · exact sm d hd
        · rw [List.length_cons, hl]
          unfold partsW
          split <;> omega
    · cases h
      refine sm_tup (fun d hd => ?_) ?_
      · rcases List.mem_cons.mp hd with rfl | hd
        · exact sm_str (hr z List.mem_cons_self)
        · obtain ⟨w, hw, rfl⟩ := List.mem_map.mp hd
          exact (sm_dig (zr w (List.mem_of_mem_take hw))).mono (Nat.zero_le _)
      · rw [List.length_cons, List.length_map, List.length_take]
        have m4 : manyW z r ≤ 4 := by
          unfold manyW
          (repeat' split) <;> omega
        omega
theorem rdW_uni {n : Nat} {r : List Str} {d : PyData} {k : Nat} (hn : n ≤ 400) (hr : ∀ w ∈ r, PyData.strOk w = true) (h : rdW n r = some (d, k)) : Uni d := by
  obtain ⟨a, b, c⟩ := rdW_sm n r d k hr h
  exact ⟨a, by omega, by omega⟩
section
variable {P : Program} {w : World} {K : PySem.W.Frag} {mg : Str → Option Value} {base : Heap}
abbrev sWrite_body : Stmt := top 42
abbrev nWrite_body : List Str := ["body"]
theorem scWrite_body : FnScope nWrite_body ["body"] (defScope sWrite_body) := ⟨rfl, rfl, rfl, by decide +kernel, rfl, by decide +kernel, by decide +kernel⟩
def spWrite (K : PySem.W.Frag) (C : Addr) : Sp := fun vs H Q _ => ∃ (b L : Addr) (m : Str) (v : V) (nd : Nd), vs = [.ref b] ∧ BdA K C H b L m v nd ∧ BdOk m nd ∧ ∀ H', Same H H' → Q (.str nd.text) H'
theorem ok_write (T : Txt K mg) {C_Body : Addr} (K_Body : BdF K mg C_Body) (D : DefAt K mg "write_body" sWrite_body ["body"]) (CWords_of : CalG P w K mg base 7 "_words_of" (spWords K 6)) : CalG P w K mg base 8 "write_body" (spWrite K C_Body) := by
  refine D.by scWrite_body (fun vs H Q E h => ?_) (fun f cd A hg outer s H vs Q E hr h => ?_)
  · obtain ⟨_, _, _, _, _, rfl, _⟩ := h
    rfl
  · obtain ⟨b, L, m, v, nd, rfl, bk, ok, q⟩ := h
    obtain ⟨dx, hb⟩ := bk.ins
    obtain ⟨co, vo⟩ := all_vocab nd true ok.all
    have wl := words_len nd
    have sz := ok.size
    refine ⟨_, (pss_one (ps_ret (pe_join pe_str (pe_cG CWords_of hg hr (by decide) (pa_cons (pe_fld (pv 0) (by rfl)) pa_nil))))), ?_⟩
    repeat walk_at "rd"
    refine Rd.fldV rfl hb K_Body.cl K_Body.n2 rfl ?_
    repeat walk_at "rd"
    refine ⟨v, nd, rfl, bk.dp, co, ok.dep, by omega, fun p H1 hp s1 e1 => ?_⟩
    refine ⟨" ", p, nd.words, rfl, rfl, .inl (SqL.of e1), ?_, q H1 s1⟩
    have := sum_le8 vo
    have e : (" " : Str).length = 1 := by decide +kernel
    rw [e]
    omega
end
end Ab
namespace Ab
open PySem.Spec PyProof.Rows
local macro_rules | `(tactic| walk_at "rd") => `(tactic| (with_reducible first | refine Rd.tt_ ?_ | refine Rd.ff_ ?_ | refine Rd.sfld ?_ | refine Rd.dget ?_ | refine Rd.methR ?_ | refine Rd.propR ?_ | refine Rd.getR ?_))
/-- a text, as its words -/
structure TxtOf (t : Str) (ws : List Str) : Prop where
  ne : ws ≠ []
  sp : ∀ w ∈ ws, 32 ∉ TL.tl w
  ok : ∀ w ∈ ws, PyData.strOk w = true
  eq : t = Txt.join " " ws
  len : t.length ≤ 90000
theorem TxtOf.split {t : Str} {ws : List Str} (h : TxtOf t ws) : Txt.split t " " = ws := by rw [h.eq]; exact text_split h.ne h.sp
theorem bdok_len {m : Str} {nd : Nd} (ok : BdOk m nd) : nd.words.length ≤ 64 ∧ 1 ≤ nd.words.length := by
  have h := words_len nd
  have := ok.size
  omega
theorem bdok_txt {m : Str} {nd : Nd} (ok : BdOk m nd) : Txt.split nd.text " " = nd.words := by
  obtain ⟨_, v⟩ := all_vocab nd true ok.all
  refine text_split (fun e => ?_) fun w hw => (vocab_ok w (v w hw)).2.1
  have := (bdok_len ok).2
  rw [e] at this
  cases this
theorem node_good {m : Str} {t : Bool} {nd : Nd} (h : nd.all m t = true) : nodeD m t nd.d = true := by
  cases nd with
  | word z =>
    have w := of_decide_eq_true (show decide (z ∈ (["yes", "no", "raise", "further", "decline"] : List Str)) = true from top_wd (nd := .word z) h)
    obtain ⟨h1, h2, h3⟩ := word_out z w
    have h1 : z ≠ "not" ∧ z ≠ "if" := by simpa [partW, not_or] using h1
    show wordD m z [] t = true
    unfold wordD
    rw [if_neg h1.1, if_neg h1.2, if_neg h2, if_neg h3]
    exact h
  | cnt i => exact h
  | ask1 o r =>
    have h : (decide (o ∈ askOne) && decide (r ∈ rolesOf m)) = true := h
    exact h
  | ask2 o r q =>
    have h : (decide (o ∈ askTwo) && decide (r ∈ rolesOf m) && decide (q ∈ rolesOf m) && decide (r ≠ q)) = true := h
    show (decide (o ∈ askTwo) && decide (r ∈ rolesOf m) && decide (q ∈ rolesOf m) && !(PyData.eqv (.str r) (.str q))) = true
    rw [eqv_str]
    simp only [Bool.and_eq_true, decide_eq_true_eq] at h
    simp [h]
  | no a => rfl
  | iff a b c => rfl
theorem dep1 (nd : Nd) : 1 ≤ nd.dep := dep_pos nd
theorem size1 (nd : Nd) : 1 ≤ nd.size := by cases nd <;> simp [Nd.size]
theorem wrF_good {m : Str} : ∀ (nd : Nd) (t : Bool) (f k : Nat), nd.all m t = true → nd.dep ≤ f → nd.size ≤ k → wrF m f nd.d t k = (none, k - nd.size)
  | nd, t, 0, k, h, hf, hk => absurd hf (by have := dep1 nd; omega)
  | .word z, t, f + 1, k, h, hf, hk => by
    have s1 := size1 (.word z)
    rw [wrF, if_neg (fun e => e.elim (fun e => by omega) fun e => by rw [node_good h] at e; cases e)]
    have w := of_decide_eq_true (show decide (z ∈ (["yes", "no", "raise", "further", "decline"] : List Str)) = true from top_wd (nd := .word z) h)
    have e : kidsD (Nd.word z).d = [] := if_neg (word_out z w).1
    rw [e]
    rfl
  | .cnt i, t, f + 1, k, h, hf, hk => by
    have s1 := size1 (.cnt i)
    rw [wrF, if_neg (fun e => e.elim (fun e => by omega) fun e => by rw [node_good h] at e; cases e)]
    rfl
  | .ask1 o r, t, f + 1, k, h, hf, hk => by
    have s1 := size1 (.ask1 o r)
    rw [wrF, if_neg (fun e => e.elim (fun e => by omega) fun e => by rw [node_good h] at e; cases e)]
    rfl
  | .ask2 o r q, t, f + 1, k, h, hf, hk => by
    have s1 := size1 (.ask2 o r q)
    rw [wrF, if_neg (fun e => e.elim (fun e => by omega) fun e => by rw [node_good h] at e; cases e)]
    rfl
  | .no a, t, f + 1, k, h, hf, hk => by
    have s1 := size1 (.no a)
    have h2 : a.all m false = true := h
    have hf : a.dep + 1 ≤ f + 1 := hf
    have hk : a.size + 1 ≤ k := hk
    rw [wrF, if_neg (fun e => e.elim (fun e => by omega) fun e => by rw [node_good h] at e; cases e)]
    show foldW (wrF m f) [(a.d, false)] (k - 1) = _
    have ih := wrF_good a false f (k - 1) h2 (by omega) (by omega)
    rw [foldW]
    show (match wrF m f a.d false (k - 1) with | (some n, k') => (some n, k') | (none, k') => foldW (wrF m f) [] k') = _
    rw [ih]
    show (none, k - 1 - a.size) = (none, k - (a.size + 1))
    rw [show k - 1 - a.size = k - (a.size + 1) by omega]
  | .iff a b c, t, f + 1, k, h, hf, hk => by
    have s1 := size1 (.iff a b c)
    have h2 : (a.all m false && b.all m t && c.all m t) = true := h
    rw [Bool.and_eq_true, Bool.and_eq_true] at h2
    have hf : max a.dep (max b.dep c.dep) + 1 ≤ f + 1 := hf
    have hk : a.size + b.size + c.size + 1 ≤ k := hk
    rw [wrF, if_neg (fun e => e.elim (fun e => by omega) fun e => by rw [node_good h] at e; cases e)]
    show foldW (wrF m f) [(a.d, false), (b.d, t), (c.d, t)] (k - 1) = _
    have i1 := wrF_good a false f (k - 1) h2.1.1 (by omega) (by omega)
    have i2 := wrF_good b t f (k - 1 - a.size) h2.1.2 (by omega) (by omega)
    have i3 := wrF_good c t f (k - 1 - a.size - b.size) h2.2 (by omega) (by omega)
    rw [foldW]
    show (match wrF m f a.d false (k - 1) with | (some n, k') => (some n, k') | (none, k') => foldW (wrF m f) [(b.d, t), (c.d, t)] k') = _
    rw [i1]
    show foldW (wrF m f) [(b.d, t), (c.d, t)] (k - 1 - a.size) = _
    rw [foldW]
    show (match wrF m f b.d t (k - 1 - a.size) with | (some n, k') => (some n, k') | (none, k') => foldW (wrF m f) [(c.d, t)] k') = _
    rw [i2]
    show foldW (wrF m f) [(c.d, t)] (k - 1 - a.size - b.size) = _
    rw [foldW]
    show (match wrF m f c.d t (k - 1 - a.size - b.size) with | (some n, k') => (some n, k') | (none, k') => foldW (wrF m f) [] k') = _
    rw [i3]
    show (none, k - 1 - a.size - b.size - c.size) = (none, k - (a.size + b.size + c.size + 1))
    rw [show k - 1 - a.size - b.size - c.size = k - (a.size + b.size + c.size + 1) by omega]
theorem goW_good {m : Str} {nd : Nd} (ok : BdOk m nd) : goW m 16 [(nd.d, 1, true)] = none := by
  rw [goW_top, wrF_good nd true 6 16 ok.all ok.dep ok.size]
theorem d_inj : ∀ {a b : Nd}, a.d = b.d → a = b
  | .no a, .no b, h => by
    have h : PyData.tuple [.str "not", a.d] = .tuple [.str "not", b.d] := h
    injection h with h
    have := (List.cons.inj (List.cons.inj h).2).1
    rw [d_inj this]
  | .iff a b c, .iff a' b' c', h => by
    have h : PyData.tuple [.str "if", a.d, b.d, c.d] = .tuple [.str "if", a'.d, b'.d, c'.d] := h
    injection h with h
    have h1 := List.cons.inj (List.cons.inj h).2
    have h2 := List.cons.inj h1.2
    have h3 := List.cons.inj h2.2
    rw [d_inj h1.1, d_inj h2.1, d_inj h3.1]
  | .word z, b, h => by cases b <;> simp [Nd.d] at h <;> simp [h]
  | .cnt i, b, h => by cases b with
    | no a => simp only [Nd.d, PyData.tuple.injEq, List.cons.injEq, PyData.str.injEq] at h; exact absurd h.1 (by decide +kernel)
    | _ => simp [Nd.d] at h <;> simp [h]
  | .ask1 o r, b, h => by cases b <;> simp [Nd.d] at h <;> simp [h]
  | .ask2 o r q, b, h => by cases b with
    | iff a b c => simp only [Nd.d, PyData.tuple.injEq, List.cons.injEq, PyData.str.injEq] at h; exact absurd h.1 (by decide +kernel)
    | _ => simp [Nd.d] at h <;> simp [h]
  | .no a, .word _, h => by simp [Nd.d] at h
  | .no a, .cnt _, h => by simp only [Nd.d, PyData.tuple.injEq, List.cons.injEq, PyData.str.injEq] at h; exact absurd h.1 (by decide +kernel)
  | .no a, .ask1 _ _, h => by simp [Nd.d] at h
  | .no a, .ask2 _ _ _, h => by simp [Nd.d] at h
  | .no a, .iff _ _ _, h => by simp [Nd.d] at h
  | .iff a b c, .word _, h => by simp [Nd.d] at h
  | .iff a b c, .cnt _, h => by simp [Nd.d] at h
  | .iff a b c, .ask1 _ _, h => by simp [Nd.d] at h
  | .iff a b c, .ask2 _ _ _, h => by simp only [Nd.d, PyData.tuple.injEq, List.cons.injEq, PyData.str.injEq] at h; exact absurd h.1 (by decide +kernel)
  | .iff a b c, .no _, h => by simp [Nd.d] at h
theorem words_rd {m : Str} {nd : Nd} (ok : BdOk m nd) : rdW 65 nd.words = some (nd.d, nd.words.length) := by
  have h := rdW_words nd true 65 [] ok.all (by have := (bdok_len ok).1; omega)
  rwa [List.append_nil] at h
theorem words_inj {m m2 : Str} {a b : Nd} (oa : BdOk m a) (ob : BdOk m2 b) (h : a.words = b.words) : a = b := by
  have h1 := words_rd oa
  rw [h, words_rd ob] at h1
  exact (d_inj (Prod.mk.inj (Option.some.inj h1)).1).symm
def spReadB (K : PySem.W.Frag) (C CN CM : Addr) : Sp := fun vs H Q E => ∃ (x y : V) (tn : String), vs = [x, y] ∧ Kd K H x tn ∧ (isIn x bodyM = false → OutF CN "value" x H E) ∧
  ∀ m, x = .str m → m ∈ bodyM →
    ((∃ ty, TyX K H y (.type ty) ∧ kitB ty "str" = some false ∧ OutF CM "line" .non H E) ∨
     ∃ t ws, y = .str t ∧ TxtOf t ws ∧ ((∃ nd, BdOk m nd ∧ nd.words = ws ∧ ∀ b L v H', Same H H' → H b = none → H L = none → BdA K C H' b L m v nd → Q (.ref b) H') ∨
       ((∀ nd, BdOk m nd → nd.words ≠ ws) ∧ ∀ H', Same H H' → OutF CM "line" .non H' E)))
section
variable {P : Program} {w : World} {K : PySem.W.Frag} {mg : Str → Option Value} {base : Heap}
abbrev sRead_body : Stmt := top 45
abbrev nRead_body : List Str := ["method", "text", "words", "expression", "_", "body"]
theorem scRead_body : FnScope nRead_body ["method", "text"] (defScope sRead_body) := ⟨rfl, rfl, rfl, by decide +kernel, rfl, by decide +kernel, by decide +kernel⟩
set_option pp.maxSteps 3000 in
theorem ok_readB (T : Txt K mg) {C_Body CN CB CM : Addr} {t64 : Tok} (g_MOST_WORDS : mg "MOST_WORDS" = some (.int 64 t64)) (K_Body : BdF K mg C_Body) (T_NoNote : Ex.ErrC K mg "NoNote" "line" CM) (M_NoNote : Ex.InitOk P w K mg base "line" CM) (H_NoNote : Hn.InitH P w K mg base "line" CM)
    (T_NoBody : Ex.ErrC K mg "NoBody" "place" CB) (D : DefAt K mg "read_body" sRead_body ["method", "text"]) (CCheck_body_method : Ex.CalX P w K mg base 5 "check_body_method" (spCheckB K CN)) (CRead_expression : Ex.CalX P w K mg base 68 "_read_expression" (spRead K CM 65))
    (I_Body : Ob.MkCal P w K mg base (L2N.CX P w) C_Body 9 "Body" (spBN K C_Body CB)) (CWrite_body : CalG P w K mg base 8 "write_body" (spWrite K C_Body)) : Ex.CalX P w K mg base 69 "read_body" (spReadB K C_Body CN CM) := by
  refine Ex.byX D scRead_body (fun vs H Q E h => ?_) (fun f cd A hg outer s H vs Q E hr h => ?_)
  · obtain ⟨_, _, _, rfl, _⟩ := h
    rfl
  · obtain ⟨x, y, tn, rfl, kd, q1, q2⟩ := h
    refine ⟨_, (pss_cons (ps_expr (Ex.pe_x CCheck_body_method hg hr (by decide) (takes_of rfl rfl rfl rfl) (pa_cons (pv 0) pa_nil)))
  (pss_cons (ps_if (pt_not (pt_val (pe_callB (r := rIsi K) call_isi (by rfl) T.isinstance (by decide +kernel) (pa_cons (pv 1) (pa_cons (pe_bltn (v := .ty "str") (by rfl) T.str (by decide +kernel) rfl) pa_nil)))))
  (pss_one (ps_raise rfl (takes_of rfl rfl rfl rfl) (Ex.pmkE T_NoNote M_NoNote hr (by decide) (pa_cons pe_non pa_nil))))
  pss_nil)
  (pss_cons (ps_set (i := 2) scRead_body.nd rfl (Or.inl rfl) (pe_split (pv 1) pe_str))
  (pss_cons (ps_if (pt_cmpR op_gt (pe_callB (r := Rd.rLenK K) Rd.callLen (by rfl) T.len PySem.boot_len (pa_cons (pv 2) pa_nil)) (pe_glob (v := .int 64) (by rfl) g_MOST_WORDS ⟨_, rfl⟩) (nomark _))
  (pss_one (ps_raise rfl (takes_of rfl rfl rfl rfl) (Ex.pmkE T_NoNote M_NoNote hr (by decide) (pa_cons pe_non pa_nil))))
  pss_nil)
  (pss_cons (ps_asg (Ex.pe_x CRead_expression hg hr (by decide) (takes_of rfl rfl rfl rfl) (pa_cons (pv 2) (pa_cons pe_int pa_nil))) (pg_tup (by rfl) (pgs_cons (pg_name (i := 3) scRead_body.nd rfl (Or.inl rfl)) (pgs_cons (pg_name (i := 4) scRead_body.nd rfl (Or.inl rfl)) pgs_nil))))
  (pss_cons (L2H.ps_try_onlyX (Wout := fun cls d _ H => E cls d H) rfl rfl ⟨rfl, by decide, Or.inl T_NoBody.g⟩ (fun hd => L2H.passesAt_of rfl hd) (takes_of rfl rfl rfl rfl)
  (fun W pn xe tk _ _ => (pss_one (ps_set (i := 5) scRead_body.nd rfl (Or.inl rfl) (Hn.makeN tk I_Body hg hr (by decide) (pa_cons (pv 0) (pa_cons (pv 3) pa_nil))))))
  (fun a oe cls d pn hz hf tk hc => (pss_one (L2H.ps_raiseH hc tk (Hn.pmkH T_NoNote H_NoNote hc (L2H.roomH_mark hr _) (by decide) (pa_cons pe_non pa_nil))))))
  (pss_cons (ps_if (pt_cmpR op_ne (pe_cG CWrite_body hg hr (by decide) (pa_cons (pv 5) pa_nil)) (pv 1) (nomark _))
  (pss_one (ps_raise rfl (takes_of rfl rfl rfl rfl) (Ex.pmkE T_NoNote M_NoNote hr (by decide) (pa_cons pe_non pa_nil))))
  pss_nil)
  (pss_one (ps_ret (pv 5)))))))))), ?_⟩
    repeat walk_at "rd"
    refine ⟨x, tn, rfl, kd, fun c => ?_, q1⟩
    obtain ⟨m, rfl, hm⟩ := isIn_str c
    have q2 := q2 m rfl hm
    have mm := bodyM_in m hm
    repeat walk_at "rd"
    rcases q2 with ⟨ty, tyy, kt, q2⟩ | ⟨t, ws, rfl, tx, q2⟩
    · refine isi tyy kt ?_
      repeat walk_at "rd"
      refine Rd.tt_ ?_
      refine Ex.mk ?_
      repeat walk_at "rd"
      exact Ex.made q2
    refine isi (.base (.str t)) (by show kitB "str" "str" = some true; decide +kernel) ?_
    repeat walk_at "rd"
    refine Rd.ff_ ?_
    repeat walk_at "rd"
    have er : Txt.split t " " = ws := tx.split
    refine ⟨t, " ", rfl, rfl, by decide +kernel, Rd.sz (by have := tx.len; omega), fun W hW => ?_⟩
    rw [er]
    have s1 := Rd.sNew (o := .lst (ws.map V.str)) hW
    have eW : upd H W (.lst (ws.map V.str)) W = some (.lst (ws.map V.str)) := upd_same
    generalize upd H W (.lst (ws.map V.str)) = H1 at s1 eW ⊢
    have fail : (∀ nd, BdOk m nd → nd.words ≠ ws) → ∀ H', Same H H' → OutF CM "line" .non H' E := fun no => by
      rcases q2 with ⟨nd, ok, e, _⟩ | ⟨_, q2⟩
      · exact absurd e (no nd ok)
      · exact q2
    have good : ∀ nd, BdOk m nd → nd.words = ws → ∀ b L v H', Same H H' → H b = none → H L = none → BdA K C_Body H' b L m v nd → Q (.ref b) H' := fun nd ok e => by
      rcases q2 with ⟨nd2, ok2, e2, q2⟩ | ⟨no, _⟩
      · rw [words_inj ok ok2 (e.trans e2.symm)]
        exact q2
      · exact absurd e (no nd ok)
    repeat walk_at "rd"
    refine Rd.dec (fun c => ?_) (fun c => ?_)
    · repeat walk_at "rd"
      refine Ex.mk ?_
      repeat walk_at "rd"
      refine Ex.made (fail (fun nd ok e => ?_) H1 s1)
      have := (bdok_len ok).1
      rw [e] at this
      rw [List.length_map] at c
      omega
    rw [List.length_map] at c
    have hl : ws.length ≤ 64 := by omega
    repeat walk_at "rd"
    refine ⟨W, ws, 0, rfl, SqL.of eW, tx.ok, by omega, by omega, by decide, fun d k ed t2 v H2 s2 et dv => ?_, fun en H2 s2 => ?_⟩
    case refine_2 =>
      refine fail (fun nd ok e => ?_) H2 (s1.trans s2)
      have h := words_rd ok
      rw [e] at h
      rw [List.drop_zero, h] at en
      cases en
    rw [List.drop_zero] at ed
    refine Rd.gtup (.inl (.inl et)) rfl ?_
    have s3 := s1.trans s2
    have un := rdW_uni (by decide) tx.ok ed
    repeat walk_at "rd"
    refine Mt.makeR ?_
    repeat walk_at "rd"
    refine fun b dx hb hdx ne => ?_
    have sB : Same H2 (upd (upd H2 dx (.own b)) b (.ins C_Body dx [])) := fun c u e => by
      rw [upd_ne (ne_of_none e hb), upd_ne (ne_of_none e hdx)]
      exact e
    have back : ∀ {H H' : Hp} {c : Addr}, Same H H' → H' c = none → H c = none := fun {H H' c} s h => by
      cases z : H c with
      | none => rfl
      | some u => rw [s _ _ z] at h; cases h
    have s4 := s3.trans sB
    refine ⟨b, dx, m, v, d, rfl, hm, upd_same, dp_mono sB dv, un, fun n en H3 s5 dd hdd => ?_, fun en L H3 kp hL hb3 => ?_⟩
    · refine ⟨true, T_NoBody.te, fun _ a ha => ?_, fun z => by cases z⟩
      refine Ex.mk ?_
      repeat walk_at "rd"
      refine Ex.made (fail (fun nd ok e => ?_) _ ((s4.trans s5).trans (Rd.sNew hdd)))
      have h := words_rd ok
      rw [e, ed] at h
      have g := goW_good ok
      rw [← (Prod.mk.inj (Option.some.inj h)).1, en] at g
      cases g
    · obtain ⟨nd, rfl, al, dep, sz⟩ := goW_none en
      have ok : BdOk m nd := ⟨mm, (bodyM_iff m mm).mpr hm, al, sz, dep⟩
      have bk : BdA K C_Body H3 b L m v nd := ⟨⟨dx, hb3⟩, nd_keep kp (nt_ins upd_same) nd v (dp_mono sB dv)⟩
      refine ⟨rfl, ?_⟩
      have s6 : Same H H3 := fun c u e => kp c u (ne_of_none (s3 _ _ e) hb) (s4 _ _ e)
      repeat walk_at "rd"
      refine ⟨b, L, m, v, nd, rfl, bk, ok, fun H4 s7 => ?_⟩
      repeat walk_at "rd"
      refine Rd.ndec (fun c => ?_) (fun c => ?_)
      · repeat walk_at "rd"
        refine Ex.mk ?_
        repeat walk_at "rd"
        refine Ex.made (fail (fun nd2 ok2 e => c ?_) _ (s6.trans s7))
        have h := words_rd ok2
        rw [e, ed] at h
        have ee := d_inj (Prod.mk.inj (Option.some.inj h)).1
        rw [tx.eq, ← e, ← ee]
        rfl
      · have et2 : nd.text = t := V.str.inj c
        have ew : nd.words = ws := by rw [← bdok_txt ok, et2, er]
        repeat walk_at "rd"
        exact good nd ok ew b L v _ (s6.trans s7) (back s3 hb) (back s4 hL) (bk.mono s7)
end
end Ab
namespace Ab
open PySem.Spec PyProof.Rows
structure PoolOk (x y : Int) : Prop where
  x0 : 0 ≤ x
  y0 : 0 ≤ y
  y1 : y < 2147483647
def spTake : Sp := fun vs H Q _ => ∃ (p : Addr) (x y m : Int), vs = [.ref p, .int m] ∧ H p = some (.lst [.int x, .int y]) ∧ PoolOk x y ∧ 0 < m ∧ m < 100000 ∧
  ∀ r x' y' : Int, PoolOk x' y' → 0 ≤ r → r < m → Q (.int r) (upd H p (.lst [.int x', .int y']))
section
variable {P : Program} {w : World} {K : PySem.W.Frag} {mg : Str → Option Value} {base : Heap}
abbrev sL_take : Stmt := top 48
abbrev nL_take : List Str := ["_law_pool_here", "_law_many", "_law_found"]
theorem scL_take : FnScope nL_take ["_law_pool_here", "_law_many"] (defScope sL_take) := ⟨rfl, rfl, rfl, by decide +kernel, rfl, by decide +kernel, by decide +kernel⟩
theorem ok_take (T : Txt K mg) (D : DefAt K mg "_law_take" sL_take ["_law_pool_here", "_law_many"]) : CalG P w K mg base 1 "_law_take" spTake := by
  refine D.by scL_take (fun vs H Q E h => ?_) (fun f cd A hg outer s H vs Q E hr h => ?_)
  · obtain ⟨p, x, y, m, rfl, _⟩ := h
    rfl
  · obtain ⟨p, x, y, m, rfl, hp, ok, m0, m1, k⟩ := h
    refine ⟨_, (pss_cons (ps_if (pt_cmpR op_gt (pe_ix (r := rIxL K) ix_list (pv 0) pe_int (fun _ _ => rfl)) pe_int (nomark _))
  (pss_cons (ps_set (i := 2) scL_take.nd rfl (Or.inl rfl) (pe_op op_modN (pe_callTy call_int1 (by rfl) T.int (by decide +kernel) (pa_cons (pe_ix (r := rIxL K) ix_list (pv 0) pe_int (fun _ _ => rfl)) pa_nil)) (pv 1)))
  (pss_cons (ps_asg (pe_op op_fdivN (pe_ix (r := rIxL K) ix_list (pv 0) pe_int (fun _ _ => rfl)) (pv 1)) (pg_sub (pv 0) pe_int set_list))
  (pss_one (ps_ret (pv 2)))))
  pss_nil)
  (pss_cons (ps_asg (pe_op op_modN (pe_callTy call_int1 (by rfl) T.int (by decide +kernel) (pa_cons (pe_op op_add (pe_op op_mul (pe_ix (r := rIxL K) ix_list (pv 0) pe_int (fun _ _ => rfl)) pe_int) pe_int) pa_nil)) pe_int) (pg_sub (pv 0) pe_int set_list))
  (pss_one (ps_ret (pe_op op_modN (pe_op op_fdivN (pe_op op_modN (pe_callTy call_int1 (by rfl) T.int (by decide +kernel) (pa_cons (pe_op op_mul (pe_ix (r := rIxL K) ix_list (pv 0) pe_int (fun _ _ => rfl)) (pe_ix (r := rIxL K) ix_list (pv 0) pe_int (fun _ _ => rfl))) pa_nil)) pe_int) pe_int) (pv 1)))))), ?_⟩
    repeat walk_at "rd"
    refine Rd.dec (fun c => ?_) (fun c => ?_)
    · repeat walk_at "rd"
      have e := Int.fdiv_eq_ediv_of_nonneg x (Int.le_of_lt m0)
      have e' := Int.fmod_eq_emod_of_nonneg x (Int.le_of_lt m0)
      have a := Int.emod_nonneg x (show m ≠ 0 by omega)
      have b := Int.emod_lt_of_pos x m0
      have d := Int.ediv_nonneg (a := x) (b := m) (by omega) (by omega)
      exact k _ _ _ ⟨by omega, ok.y0, ok.y1⟩ (by omega) (by omega)
    · have y0 := ok.y0
      have y1 := ok.y1
      obtain ⟨z0, z1⟩ := Rd.fm (i := y * 48271 + 11) (m := 2147483647) (by decide)
      repeat walk_at "rd"
      obtain ⟨r0, r1⟩ := Rd.fm (i := ((((y * 48271 + 11).fmod 2147483647) * ((y * 48271 + 11).fmod 2147483647)).fmod 2147483629).fdiv 64) m0
      exact k _ _ _ ⟨ok.x0, z0, z1⟩ r0 r1
def spPool (K : PySem.W.Frag) : Sp := fun vs H Q _ => ∃ (a : Addr) (ns : List Int) (k : Int), vs = [.ref a, .int k] ∧ SqL K H a (ns.map V.int) ∧ 0 ≤ k ∧ k < 1000 ∧
  ∀ (p : Addr) (x y : Int), H p = none → PoolOk x y → Q (.ref p) (upd H p (.lst [.int x, .int y]))
abbrev sL_pool : Stmt := top 47
abbrev nL_pool : List Str := ["_law_script", "_law_k", "_law_cell", "_law_size"]
theorem scL_pool : FnScope nL_pool ["_law_script", "_law_k"] (defScope sL_pool) := ⟨rfl, rfl, rfl, by decide +kernel, rfl, by decide +kernel, by decide +kernel⟩
theorem ok_pool (T : Txt K mg) (D : DefAt K mg "_law_pool" sL_pool ["_law_script", "_law_k"]) : CalG P w K mg base 1 "_law_pool" (spPool K) := by
  refine D.by scL_pool (fun vs H Q E h => ?_) (fun f cd A hg outer s H vs Q E hr h => ?_)
  · obtain ⟨a, ns, k, rfl, _⟩ := h
    rfl
  · obtain ⟨a, ns, k, rfl, hS, k0, k1, q⟩ := h
    refine ⟨_, (pss_cons (ps_set (i := 2) scL_pool.nd rfl (Or.inl rfl) pe_int)
  (pss_cons (ps_if (pt_cmpR op_lt (pv 1) (pe_callB (r := Rd.rLenK K) Rd.callLen (by rfl) T.len PySem.boot_len (pa_cons (pv 0) pa_nil)) (nomark _))
  (pss_one (ps_set (i := 2) scL_pool.nd rfl (Or.inl rfl) (pe_ix (r := rIxL K) ix_list (pv 0) (pv 1) (fun _ _ => rfl))))
  pss_nil)
  (pss_cons (ps_set (i := 3) scL_pool.nd rfl (Or.inl rfl) (pe_callB (call_max2 rfl) (by rfl) T.max (by decide +kernel) (pa_cons (pv 2) (pa_cons (pe_op op_sub (pe_un un_neg pe_int) (pv 2)) pa_nil))))
  (pss_one (ps_ret (pe_lst (pa_cons (pe_op op_mul (pv 3) (pe_callTy call_int1 (by rfl) T.int (by decide +kernel) (pa_cons (pe_cmpR op_ge (pv 3) (pe_op op_pow pe_int pe_int) (nomark _)) pa_nil))) (pa_cons (pe_op op_modN (pe_op op_mul (pe_callTy call_int1 (by rfl) T.int (by decide +kernel) (pa_cons (pe_op op_add (pe_op op_add (pe_op op_modN (pe_callTy call_int1 (by rfl) T.int (by decide +kernel) (pa_cons (pv 3) pa_nil)) pe_int) (pe_op op_mul pe_int (pv 1))) pe_int) pa_nil)) pe_int) pe_int) pa_nil)))))))), ?_⟩
    repeat walk_at "rd"
    have fin : ∀ (sz : Int) (k1 : Int), 0 ≤ sz → 0 ≤ k1 → k1 < 1000 → PoolOk (sz * (if decide ((10 : Int) ^ (Int.toNat 18) ≤ sz) = true then 1 else 0)) (((sz.fmod 2147483629 + 7919 * k1 + 104729) * 48271).fmod 2147483647) := by
      intro sz k1 h0 h1 h2
      obtain ⟨y0, y1⟩ := Rd.fm (i := (sz.fmod 2147483629 + 7919 * k1 + 104729) * 48271) (m := 2147483647) (by decide)
      refine ⟨?_, y0, y1⟩
      split
      · omega
      · omega
    refine Rd.dec (fun c => ?_) (fun c => ?_)
    · repeat walk_at "rd"
      obtain ⟨cell, ix⟩ := Rd.at_int k0 c
      refine Rd.ixL hS ix ?_
      have sz0 : 0 ≤ (if (-1 : Int) - cell > cell then -1 - cell else cell) := by split <;> omega
      have fmz := Rd.fm (i := (if (-1 : Int) - cell > cell then -1 - cell else cell)) (m := 2147483629) (by decide)
      repeat walk_at "rd"
      refine ⟨Rd.sz (by simp), fun p hp => ?_⟩
      exact q p _ _ hp (fin _ _ sz0 k0 k1)
    · have sz0 : 0 ≤ (if (-1 : Int) - 0 > 0 then -1 - 0 else (0 : Int)) := by split <;> omega
      have fmz := Rd.fm (i := (if (-1 : Int) - 0 > 0 then -1 - 0 else (0 : Int))) (m := 2147483629) (by decide)
      repeat walk_at "rd"
      refine ⟨Rd.sz (by simp), fun p hp => ?_⟩
      exact q p _ _ hp (fin _ _ sz0 k0 k1)
/-- one of a list's items, by the pool -/
def spOne (K : PySem.W.Frag) : Sp := fun vs H Q _ => ∃ (p l : Addr) (x y : Int) (xs : List V), vs = [.ref p, .ref l] ∧ H p = some (.lst [.int x, .int y]) ∧ SqL K H l xs ∧ (∀ o, SqL K (upd H p o) l xs) ∧ PoolOk x y ∧ 0 < xs.length ∧ xs.length < 1000 ∧
  ∀ (v : V) (x' y' : Int), v ∈ xs → PoolOk x' y' → Q v (upd H p (.lst [.int x', .int y']))
abbrev sL_one : Stmt := top 49
abbrev nL_one : List Str := ["_law_pool_here", "_law_some"]
theorem scL_one : FnScope nL_one ["_law_pool_here", "_law_some"] (defScope sL_one) := ⟨rfl, rfl, rfl, by decide +kernel, rfl, by decide +kernel, by decide +kernel⟩
theorem ok_one (T : Txt K mg) (D : DefAt K mg "_law_one" sL_one ["_law_pool_here", "_law_some"]) (CL_take : CalG P w K mg base 1 "_law_take" spTake) : CalG P w K mg base 2 "_law_one" (spOne K) := by
  refine D.by scL_one (fun vs H Q E h => ?_) (fun f cd A hg outer s H vs Q E hr h => ?_)
  · obtain ⟨a, ns, k, _, _, rfl, _⟩ := h
    rfl
  · obtain ⟨p, l, x, y, xs, rfl, hp, hl, hl2, ok, l0, l1, q⟩ := h
    refine ⟨_, (pss_one (ps_ret (pe_ix (r := rIxL K) ix_list (pv 1) (pe_cG CL_take hg hr (by decide) (pa_cons (pv 0) (pa_cons (pe_callB (r := Rd.rLenK K) Rd.callLen (by rfl) T.len PySem.boot_len (pa_cons (pv 1) pa_nil)) pa_nil))) (fun _ _ => rfl)))), ?_⟩
    repeat walk_at "rd"
    refine ⟨p, x, y, _, rfl, hp, ok, by omega, by omega, fun r x' y' ok' r0 r1 => ?_⟩
    have hr : r.toNat < xs.length := by omega
    exact Rd.ixL (hl2 _) (Rd.atN r0 (List.getElem?_eq_getElem hr)) (q _ _ _ (List.getElem_mem hr) ok')
end
end Ab
namespace Ab
open PySem.Spec PyProof.Rows
/-- a list of nodes -/
def Lns (K : PySem.W.Frag) (H : Hp) (L : Addr) (ns : List Nd) : Prop := ∃ xs, H L = some (.lst xs) ∧ Paired (fun nd x => Dp K H x nd.d) ns xs
theorem Lns.mono {K : PySem.W.Frag} {H H' : Hp} {L : Addr} {ns : List Nd} (s : Same H H') (h : Lns K H L ns) : Lns K H' L ns :=
  let ⟨xs, h1, h2⟩ := h
  ⟨xs, s _ _ h1, Rd.pair_imp (fun _ _ h => dp_mono s h) h2⟩
theorem pair_at {α β : Type} {F : α → β → Prop} : ∀ {as : List α} {bs : List β} {b : β}, Paired F as bs → b ∈ bs → ∃ a ∈ as, F a b
  | _, _, _, .nil, h => by cases h
  | _, _, _, .cons h t, hm => by
    rcases List.mem_cons.mp hm with rfl | hm
    · exact ⟨_, List.mem_cons_self, h⟩
    · obtain ⟨a, ha, hf⟩ := pair_at t hm
      exact ⟨a, List.mem_cons_of_mem _ ha, hf⟩
theorem Lns.keep {K : PySem.W.Frag} {p : Addr} {H H' : Hp} {L : Addr} {ns : List Nd} (k : Keep p H H') (n : NoTup H p) (ne : L ≠ p) (h : Lns K H L ns) : Lns K H' L ns :=
  let ⟨xs, h1, h2⟩ := h
  ⟨xs, k _ _ ne h1, Rd.pair_imp (fun nd _ h => nd_keep k n nd _ h) h2⟩
theorem dW {K : PySem.W.Frag} {H H' : Hp} {p t : Addr} {z : Str} (h : H t = some (.tup [.str z])) (k : Keep p H H') (n : NoTup H p) : Dp K H' (.ref t) (Nd.word z).d := nd_keep k n (.word z) _ (.tup (.inl (.inl h)) (.cons (.str _) .nil))
theorem dC {K : PySem.W.Frag} {H H' : Hp} {p t : Addr} {i : Int} (h : H t = some (.tup [.str "count", .int i])) (k : Keep p H H') (n : NoTup H p) : Dp K H' (.ref t) (Nd.cnt i).d := nd_keep k n (.cnt i) _ (.tup (.inl (.inl h)) (.cons (.str _) (.cons (.int _) .nil)))
/-- the state of a leaf in the making -/
structure Lf (K : PySem.W.Frag) (H H' : Hp) (p L : Addr) (m : Str) (tail : Bool) (ns : List Nd) (x y : Int) (N : Nat) : Prop where
  k : Keep p H H'
  hp : H' p = some (.lst [.int x, .int y])
  ok : PoolOk x y
  l : Lns K H' L ns
  n : 0 < ns.length ∧ ns.length ≤ N
  a : ∀ nd ∈ ns, nd.all m tail = true ∧ nd.dep = 1 ∧ nd.size = 1
theorem word_ok {m z : Str} {t : Bool} (h : z ∈ answerW) : (Nd.word z).all m t = true ∧ (Nd.word z).dep = 1 ∧ (Nd.word z).size = 1 := by
  refine ⟨?_, rfl, rfl⟩
  show (if z = "further" then t else if z = "decline" then t && decide (m ∈ decliners) else decide (z ∈ answerW)) = true
  rw [if_neg (fun e : z = "further" => by subst e; exact absurd h (by decide +kernel)), if_neg (fun e : z = "decline" => by subst e; exact absurd h (by decide +kernel)), decide_eq_true h]
theorem further_ok {m : Str} : (Nd.word "further").all m true = true ∧ (Nd.word "further").dep = 1 ∧ (Nd.word "further").size = 1 := by
  refine ⟨?_, rfl, rfl⟩
  show (if ("further" : Str) = "further" then true else if ("further" : Str) = "decline" then true && decide (m ∈ decliners) else decide (("further" : Str) ∈ answerW)) = true
  rw [if_pos rfl]
theorem decline_ok {m : Str} (h : m ∈ decliners) : (Nd.word "decline").all m true = true ∧ (Nd.word "decline").dep = 1 ∧ (Nd.word "decline").size = 1 := by
  refine ⟨?_, rfl, rfl⟩
  show (if ("decline" : Str) = "further" then true else if ("decline" : Str) = "decline" then true && decide (m ∈ decliners) else decide (("decline" : Str) ∈ answerW)) = true
  rw [if_neg (by decide +kernel), if_pos rfl, decide_eq_true h]
  rfl
theorem Lf.same {K : PySem.W.Frag} {H H1 H2 : Hp} {p L : Addr} {m : Str} {tail : Bool} {ns : List Nd} {x y : Int} {N : Nat} (f : Lf K H H1 p L m tail ns x y N) (s : Same H1 H2) : Lf K H H2 p L m tail ns x y N :=
  ⟨f.k.trans (Keep.same s), s _ _ f.hp, f.ok, f.l.mono s, f.n, f.a⟩
theorem cnt_ok {m : Str} {i : Int} {t : Bool} (h0 : 0 ≤ i) (h1 : i ≤ 4) : (Nd.cnt i).all m t = true ∧ (Nd.cnt i).dep = 1 ∧ (Nd.cnt i).size = 1 := by
  refine ⟨?_, rfl, rfl⟩
  show (decide (0 ≤ i) && decide (i ≤ 4)) = true
  rw [decide_eq_true h0, decide_eq_true h1]; rfl
section
variable {P : Program} {w : World} {K : PySem.W.Frag} {mg : Str → Option Value} {base : Heap}
abbrev sL_leaf : Stmt := top 50
abbrev nL_leaf : List Str := ["_law_pool_here", "_law_method", "_law_at_tail", "_law_some"]
theorem scL_leaf : FnScope nL_leaf ["_law_pool_here", "_law_method", "_law_at_tail"] (defScope sL_leaf) := ⟨rfl, rfl, rfl, by decide +kernel, rfl, by decide +kernel, by decide +kernel⟩
def spLeaf (K : PySem.W.Frag) : Sp := fun vs H Q _ => ∃ (p : Addr) (x y : Int) (m : Str) (tail : Bool), vs = [.ref p, .str m, .bl tail] ∧ H p = some (.lst [.int x, .int y]) ∧ PoolOk x y ∧
  ∀ (v : V) (nd : Nd) H' x' y', Keep p H H' → H' p = some (.lst [.int x', .int y']) → PoolOk x' y' → Dp K H' v nd.d → nd.all m tail = true → nd.dep = 1 → nd.size = 1 → Q v H'
theorem ok_leaf (T : Txt K mg) (D : DefAt K mg "_law_leaf" sL_leaf ["_law_pool_here", "_law_method", "_law_at_tail"]) (CL_take : CalG P w K mg base 1 "_law_take" spTake) (CL_one : CalG P w K mg base 2 "_law_one" (spOne K)) : CalG P w K mg base 3 "_law_leaf" (spLeaf K) := by
  refine D.by scL_leaf (fun vs H Q E h => ?_) (fun f cd A hg outer s H vs Q E hr h => ?_)
  · obtain ⟨_, _, _, _, _, rfl, _⟩ := h
    rfl
  · obtain ⟨p, x, y, m, tail, rfl, hp, ok, q⟩ := h
    refine ⟨_, (pss_cons (ps_set (i := 3) scL_leaf.nd rfl (Or.inl rfl) (pe_lst (pa_cons (pe_tup (pa_cons pe_str pa_nil)) (pa_cons (pe_tup (pa_cons pe_str pa_nil)) (pa_cons (pe_tup (pa_cons pe_str (pa_cons (pe_cG CL_take hg hr (by decide) (pa_cons (pv 0) (pa_cons pe_int pa_nil))) pa_nil))) (pa_cons (pe_tup (pa_cons pe_str pa_nil)) pa_nil))))))
  (C8.pss_cut (ps_if (pt_cmpR (r := rIn K false) op_in_seq (pv 1) (pe_lst (pa_cons pe_str (pa_cons pe_str pa_nil))) (by rfl))
  (pss_one (ps_set (i := 3) scL_leaf.nd rfl (Or.inl rfl) (pe_lst (pa_cons (pe_tup (pa_cons pe_str (pa_cons (pe_cG CL_take hg hr (by decide) (pa_cons (pv 0) (pa_cons pe_int pa_nil))) pa_nil))) (pa_cons (pe_tup (pa_cons pe_str (pa_cons pe_int pa_nil))) (pa_cons (pe_tup (pa_cons pe_str pa_nil)) (pa_cons (pe_tup (pa_cons pe_str pa_nil)) pa_nil)))))))
  pss_nil)
  (C8.pss_cut (ps_if (pt_val (pv 2))
  (pss_one (ps_set (i := 3) scL_leaf.nd rfl (Or.inl rfl) (pe_op op_cat (pv 3) (pe_lst (pa_cons (pe_tup (pa_cons pe_str pa_nil)) (pa_cons (pe_tup (pa_cons pe_str pa_nil)) pa_nil))))))
  pss_nil)
  (C8.pss_cut (ps_if (PW.pt (pw_and (pt_val (pv 2)) (pw_and1 (pt_cmpR (r := rIn K false) op_in_seq (pv 1) (pe_lst (pa_cons pe_str (pa_cons pe_str (pa_cons pe_str (pa_cons pe_str pa_nil))))) (by rfl)))))
  (pss_one (ps_set (i := 3) scL_leaf.nd rfl (Or.inl rfl) (pe_op op_cat (pv 3) (pe_lst (pa_cons (pe_tup (pa_cons pe_str pa_nil)) (pa_cons (pe_tup (pa_cons pe_str pa_nil)) pa_nil))))))
  pss_nil)
  (pss_one (ps_ret (pe_cG CL_one hg hr (by decide) (pa_cons (pv 0) (pa_cons (pv 3) pa_nil))))))))), ?_⟩
    obtain ⟨H0, eH⟩ : ∃ H0, H0 = H := ⟨_, rfl⟩
    have hp0 : H0 p = some (.lst [.int x, .int y]) := by rw [eH]; exact hp
    have nt0 := nt_lst hp0
    rw [← eH] at q ⊢
    repeat walk_at "rd"
    refine ⟨Rd.sz (by simp), fun t1 h1 => ?_⟩
    have S1 := Rd.sNew (o := .tup [.str "yes"]) h1
    have hp1 := S1 _ _ hp0
    have K1 := Keep.same (p := p) S1
    have N1 : upd H0 t1 (.tup [.str "yes"]) t1 = some (.tup [.str "yes"]) := upd_same
    generalize upd H0 t1 (.tup [.str "yes"]) = H1 at S1 hp1 K1 N1 ⊢
    repeat walk_at "rd"
    refine ⟨Rd.sz (by simp), fun t2 h2 => ?_⟩
    have S2 := Rd.sNew (o := .tup [.str "no"]) h2
    have hp2 := S2 _ _ hp1
    have K2 := Keep.same (p := p) S2
    have N2 : upd H1 t2 (.tup [.str "no"]) t2 = some (.tup [.str "no"]) := upd_same
    generalize upd H1 t2 (.tup [.str "no"]) = H2 at S2 hp2 K2 N2 ⊢
    repeat walk_at "rd"
    refine ⟨p, x, y, 5, rfl, hp2, ok, by decide, by decide, fun c x1 y1 ok1 c0 c1 => ?_⟩
    have hp3 : upd H2 p (.lst [.int x1, .int y1]) p = some (.lst [.int x1, .int y1]) := upd_same
    have K3 : Keep p H2 (upd H2 p (.lst [.int x1, .int y1])) := Keep.put (fun _ _ _ e => e)
    generalize upd H2 p (.lst [.int x1, .int y1]) = H3 at hp3 K3 ⊢
    repeat walk_at "rd"
    refine ⟨Rd.sz (by simp), fun t3 h3 => ?_⟩
    have S4 := Rd.sNew (o := .tup [.str "count", .int c]) h3
    have hp4 := S4 _ _ hp3
    have K4 := Keep.same (p := p) S4
    have N4 : upd H3 t3 (.tup [.str "count", .int c]) t3 = some (.tup [.str "count", .int c]) := upd_same
    generalize upd H3 t3 (.tup [.str "count", .int c]) = H4 at S4 hp4 K4 N4 ⊢
    repeat walk_at "rd"
    refine ⟨Rd.sz (by simp), fun t4 h4 => ?_⟩
    have S5 := Rd.sNew (o := .tup [.str "raise"]) h4
    have hp5 := S5 _ _ hp4
    have K5 := Keep.same (p := p) S5
    have N5 : upd H4 t4 (.tup [.str "raise"]) t4 = some (.tup [.str "raise"]) := upd_same
    generalize upd H4 t4 (.tup [.str "raise"]) = H5 at S5 hp5 K5 N5 ⊢
    repeat walk_at "rd"
    refine ⟨Rd.sz (by simp), fun L1 h5 => ?_⟩
    have S6 := Rd.sNew (o := .lst [.ref t1, .ref t2, .ref t3, .ref t4]) h5
    have hp6 := S6 _ _ hp5
    have K6 := Keep.same (p := p) S6
    have N6 : upd H5 L1 (.lst [.ref t1, .ref t2, .ref t3, .ref t4]) L1 = some (.lst [.ref t1, .ref t2, .ref t3, .ref t4]) := upd_same
    generalize upd H5 L1 (.lst [.ref t1, .ref t2, .ref t3, .ref t4]) = H6 at S6 hp6 K6 N6 ⊢
    repeat walk_at "rd"
    have z4 := K5.trans K6
    have z2 := (K3.trans K4).trans z4
    have z1 := K2.trans z2
    have lf1 : Lf K H0 H6 p L1 m tail [.word "yes", .word "no", .cnt c, .word "raise"] x1 y1 4 := ⟨K1.trans z1, hp6, ok1, ⟨_, N6, .cons (dW N1 z1 (nt_lst hp1)) (.cons (dW N2 z2 (nt_lst hp2)) (.cons (dC N4 z4 (nt_lst hp4)) (.cons (dW N5 K6 (nt_lst hp5)) .nil)))⟩, by simp, fun nd hn => by
      simp only [List.mem_cons, List.not_mem_nil, or_false] at hn
      rcases hn with rfl | rfl | rfl | rfl
      · exact word_ok (by decide +kernel)
      · exact word_ok (by decide +kernel)
      · exact cnt_ok (by omega) (by omega)
      · exact word_ok (by decide +kernel)⟩
    clear z1 z2 z4 K1 K2 K3 K4 K5 K6 N1 N2 N4 N5 N6 S1 S2 S4 S5 S6 h1 h2 h3 h4 h5 hp1 hp2 hp3 hp4 hp5
    refine Rd.cut (fun σ' H' => ∃ L ns x y, σ' = [some (.ref p), some (.str m), some (.bl tail), some (.ref L)] ∧ Lf K H0 H' p L m tail ns x y 4) ?_ (fun σ' H' h => ?_)
    · repeat walk_at "rd"
      refine ⟨Rd.sz (by simp), fun lm hlm => ?_⟩
      have S7 := Rd.sNew (o := .lst [.str "length", .str "hash"]) hlm
      have lf7 := lf1.same S7
      refine Rd.inL (xs := [.str "length", .str "hash"]) (SqL.of upd_same) rfl rfl ?_
      generalize upd H6 lm (.lst [.str "length", .str "hash"]) = H7 at S7 lf7 ⊢
      have hp7 := lf7.hp
      repeat walk_at "rd"
      refine Rd.bool (fun _ => ?_) (fun _ => ?_)
      · repeat walk_at "rd"
        refine ⟨p, x1, y1, 5, rfl, hp7, ok1, by decide, by decide, fun c x2 y2 ok2 c0 c1 => ?_⟩
        have hp8 : upd H7 p (.lst [.int x2, .int y2]) p = some (.lst [.int x2, .int y2]) := upd_same
        have K8 : Keep p H7 (upd H7 p (.lst [.int x2, .int y2])) := Keep.put (fun _ _ _ e => e)
        generalize upd H7 p (.lst [.int x2, .int y2]) = H8 at hp8 K8 ⊢
        repeat walk_at "rd"
        refine ⟨Rd.sz (by simp), fun t5 g1 => ?_⟩
        have S9 := Rd.sNew (o := .tup [.str "count", .int c]) g1
        have hp9 := S9 _ _ hp8
        have K9 := Keep.same (p := p) S9
        have N9 : upd H8 t5 (.tup [.str "count", .int c]) t5 = some (.tup [.str "count", .int c]) := upd_same
        generalize upd H8 t5 (.tup [.str "count", .int c]) = H9 at S9 hp9 K9 N9 ⊢
        repeat walk_at "rd"
        refine ⟨Rd.sz (by simp), fun t6 g2 => ?_⟩
        have S10 := Rd.sNew (o := .tup [.str "count", .int 0]) g2
        have hp10 := S10 _ _ hp9
        have K10 := Keep.same (p := p) S10
        have N10 : upd H9 t6 (.tup [.str "count", .int 0]) t6 = some (.tup [.str "count", .int 0]) := upd_same
        generalize upd H9 t6 (.tup [.str "count", .int 0]) = H10 at S10 hp10 K10 N10 ⊢
        repeat walk_at "rd"
        refine ⟨Rd.sz (by simp), fun t7 g3 => ?_⟩
        have S11 := Rd.sNew (o := .tup [.str "no"]) g3
        have hp11 := S11 _ _ hp10
        have K11 := Keep.same (p := p) S11
        have N11 : upd H10 t7 (.tup [.str "no"]) t7 = some (.tup [.str "no"]) := upd_same
        generalize upd H10 t7 (.tup [.str "no"]) = H11 at S11 hp11 K11 N11 ⊢
        repeat walk_at "rd"
        refine ⟨Rd.sz (by simp), fun t8 g4 => ?_⟩
        have S12 := Rd.sNew (o := .tup [.str "raise"]) g4
        have hp12 := S12 _ _ hp11
        have K12 := Keep.same (p := p) S12
        have N12 : upd H11 t8 (.tup [.str "raise"]) t8 = some (.tup [.str "raise"]) := upd_same
        generalize upd H11 t8 (.tup [.str "raise"]) = H12 at S12 hp12 K12 N12 ⊢
        repeat walk_at "rd"
        refine ⟨Rd.sz (by simp), fun L2 g5 => ?_⟩
        have S13 := Rd.sNew (o := .lst [.ref t5, .ref t6, .ref t7, .ref t8]) g5
        have hp13 := S13 _ _ hp12
        have K13 := Keep.same (p := p) S13
        have N13 : upd H12 L2 (.lst [.ref t5, .ref t6, .ref t7, .ref t8]) L2 = some (.lst [.ref t5, .ref t6, .ref t7, .ref t8]) := upd_same
        generalize upd H12 L2 (.lst [.ref t5, .ref t6, .ref t7, .ref t8]) = H13 at S13 hp13 K13 N13 ⊢
        repeat walk_at "rd"
        have z10 := K11.trans K12
        have z9 := K10.trans z10
        have z8 := (K9.trans z9)
        have z7 := K8.trans z8
        have z11 := K12
        exact ⟨L2, _, x2, y2, rfl, lf7.k.trans (z7.trans K13), hp13, ok2, ⟨_, N13, .cons (dC N9 (((K10.trans K11).trans K12).trans K13) (nt_lst hp9)) (.cons (dC N10 ((K11.trans K12).trans K13) (nt_lst hp10)) (.cons (dW N11 (K12.trans K13) (nt_lst hp11)) (.cons (dW N12 K13 (nt_lst hp12)) .nil)))⟩, by simp, fun nd hn => by
          simp only [List.mem_cons, List.not_mem_nil, or_false] at hn
          rcases hn with rfl | rfl | rfl | rfl
          · exact cnt_ok (by omega) (by omega)
          · exact cnt_ok (by omega) (by omega)
          · exact word_ok (by decide +kernel)
          · exact word_ok (by decide +kernel)⟩
      · repeat walk_at "rd"
        exact ⟨L1, _, x1, y1, rfl, lf7⟩
    · clear lf1
      obtain ⟨L, ns, x3, y3, rfl, lf⟩ := h
      refine Rd.cut (fun σ' H' => ∃ L ns x y, σ' = [some (.ref p), some (.str m), some (.bl tail), some (.ref L)] ∧ Lf K H0 H' p L m tail ns x y 6) ?_ (fun σ' H'' h => ?_)
      · repeat walk_at "rd"
        refine Rd.bool (fun c => ?_) (fun c => ?_)
        · subst c
          repeat walk_at "rd"
          refine ⟨Rd.sz (by simp), fun u1 g1 => ?_⟩
          have A1 := Rd.sNew (o := .tup [.str "further"]) g1
          repeat walk_at "rd"
          refine ⟨Rd.sz (by simp), fun u2 g2 => ?_⟩
          have A2 := Rd.sNew (o := .tup [.str "further"]) g2
          repeat walk_at "rd"
          refine ⟨Rd.sz (by simp), fun u3 g3 => ?_⟩
          have A3 := Rd.sNew (o := .lst [.ref u1, .ref u2]) g3
          obtain ⟨xs, hL, pr⟩ := lf.l
          have len := pair_len' pr
          obtain ⟨n0, n8⟩ := lf.n
          have v1 := A3 _ _ (A2 _ _ (show upd H' u1 (.tup [.str "further"]) u1 = some (.tup [.str "further"]) from upd_same))
          have v2 := A3 _ _ (show upd (upd H' u1 (.tup [.str "further"])) u2 (.tup [.str "further"]) u2 = some (.tup [.str "further"]) from upd_same)
          refine Rd.cat (A3 _ _ (A2 _ _ (A1 _ _ hL))) upd_same (Nat.le_of_lt (Rd.szl (by simp only [List.length_cons, List.length_nil]; omega))) fun cc hcc => ?_
          have A4 := Rd.sNew (o := .lst (xs ++ [.ref u1, .ref u2])) hcc
          have SS := ((A1.trans A2).trans A3).trans A4
          have lff := lf.same SS
          repeat walk_at "rd"
          exact ⟨cc, ns ++ [.word "further", .word "further"], x3, y3, rfl, lff.k, lff.hp, lff.ok, ⟨_, upd_same, pair_cat (Rd.pair_imp (fun nd _ h => dp_mono SS h) pr) (.cons (.tup (.inl (.inl (A4 _ _ v1))) (.cons (.str _) .nil)) (.cons (.tup (.inl (.inl (A4 _ _ v2))) (.cons (.str _) .nil)) .nil))⟩, by
            rw [List.length_append]
            simp only [List.length_cons, List.length_nil]
            omega, fun nd hn => by
            rcases List.mem_append.mp hn with h | h
            · exact lf.a nd h
            · simp only [List.mem_cons, List.not_mem_nil, or_false] at h
              rcases h with rfl | rfl <;> exact further_ok⟩
        · repeat walk_at "rd"
          exact ⟨L, ns, x3, y3, rfl, lf.k, lf.hp, lf.ok, lf.l, ⟨lf.n.1, by have := lf.n.2; omega⟩, lf.a⟩
      · clear lf
        obtain ⟨L, ns, x3, y3, rfl, lf⟩ := h
        refine Rd.cut (fun σ' H' => ∃ L ns x y, σ' = [some (.ref p), some (.str m), some (.bl tail), some (.ref L)] ∧ Lf K H0 H' p L m tail ns x y 8) ?_ (fun σ' H3 h => ?_)
        · repeat walk_at "rd"
          refine Rd.bool (fun c => ?_) (fun c => ?_)
          · subst c
            repeat walk_at "rd"
            refine ⟨Rd.sz (by simp), fun lm hlm => ?_⟩
            have S9 := Rd.sNew (o := .lst [.str "like", .str "unlike", .str "before", .str "behind"]) hlm
            refine Rd.inL (xs := (["like", "unlike", "before", "behind"] : List Str).map V.str) (SqL.of upd_same) rfl rfl ?_
            rw [if_neg Bool.false_ne_true, inV_str]
            have lf9 := lf.same S9
            generalize upd H'' lm (.lst [.str "like", .str "unlike", .str "before", .str "behind"]) = H9 at S9 lf9 ⊢
            repeat walk_at "rd"
            refine Rd.dec (fun c => ?_) (fun c => ?_)
            · have md : m ∈ decliners := by
                simp only [List.mem_cons, List.not_mem_nil, or_false] at c
                rcases c with rfl | rfl | rfl | rfl <;> decide +kernel
              repeat walk_at "rd"
              refine ⟨Rd.sz (by simp), fun u1 g1 => ?_⟩
              have A1 := Rd.sNew (o := .tup [.str "decline"]) g1
              repeat walk_at "rd"
              refine ⟨Rd.sz (by simp), fun u2 g2 => ?_⟩
              have A2 := Rd.sNew (o := .tup [.str "decline"]) g2
              repeat walk_at "rd"
              refine ⟨Rd.sz (by simp), fun u3 g3 => ?_⟩
              have A3 := Rd.sNew (o := .lst [.ref u1, .ref u2]) g3
              obtain ⟨xs, hL, pr⟩ := lf9.l
              have len := pair_len' pr
              obtain ⟨n0, n8⟩ := lf9.n
              have v1 := A3 _ _ (A2 _ _ (show upd H9 u1 (.tup [.str "decline"]) u1 = some (.tup [.str "decline"]) from upd_same))
              have v2 := A3 _ _ (show upd (upd H9 u1 (.tup [.str "decline"])) u2 (.tup [.str "decline"]) u2 = some (.tup [.str "decline"]) from upd_same)
              refine Rd.cat (A3 _ _ (A2 _ _ (A1 _ _ hL))) upd_same (Nat.le_of_lt (Rd.szl (by simp only [List.length_cons, List.length_nil]; omega))) fun cc hcc => ?_
              have A4 := Rd.sNew (o := .lst (xs ++ [.ref u1, .ref u2])) hcc
              have SS := ((A1.trans A2).trans A3).trans A4
              have lff := lf9.same SS
              repeat walk_at "rd"
              exact ⟨cc, ns ++ [.word "decline", .word "decline"], x3, y3, rfl, lff.k, lff.hp, lff.ok, ⟨_, upd_same, pair_cat (Rd.pair_imp (fun nd _ h => dp_mono SS h) pr) (.cons (.tup (.inl (.inl (A4 _ _ v1))) (.cons (.str _) .nil)) (.cons (.tup (.inl (.inl (A4 _ _ v2))) (.cons (.str _) .nil)) .nil))⟩, by
                rw [List.length_append]
                simp only [List.length_cons, List.length_nil]
                omega, fun nd hn => by
                rcases List.mem_append.mp hn with h | h
                · exact lf9.a nd h
                · simp only [List.mem_cons, List.not_mem_nil, or_false] at h
                  rcases h with rfl | rfl <;> exact (decline_ok md)⟩
            · repeat walk_at "rd"
              exact ⟨L, ns, x3, y3, rfl, lf9.k, lf9.hp, lf9.ok, lf9.l, ⟨lf9.n.1, by have := lf9.n.2; omega⟩, lf9.a⟩
          · repeat walk_at "rd"
            exact ⟨L, ns, x3, y3, rfl, lf.k, lf.hp, lf.ok, lf.l, ⟨lf.n.1, by have := lf.n.2; omega⟩, lf.a⟩
        · clear lf
          obtain ⟨L, ns, x3, y3, rfl, lf⟩ := h
          obtain ⟨xs, hL, pr⟩ := lf.l
          have len := pair_len' pr
          obtain ⟨n0, n8⟩ := lf.n
          have Lp : L ≠ p := fun e => by
            rw [e, lf.hp] at hL
            cases hL
            cases pr with
            | cons a _ =>
              obtain ⟨_, _, _, z, _⟩ := nd_at a
              cases z
          repeat walk_at "rd"
          refine ⟨p, L, x3, y3, xs, rfl, lf.hp, SqL.of hL, fun o => SqL.of (by rw [upd_ne Lp]; exact hL), lf.ok, by omega, by omega, fun v x' y' hv ok' => ?_⟩
          obtain ⟨nd, hn, dn⟩ := pair_at pr hv
          obtain ⟨a1, a2, a3⟩ := lf.a nd hn
          have kp : Keep p H3 (upd H3 p (.lst [.int x', .int y'])) := Keep.put (fun _ _ _ e => e)
          exact q v nd _ x' y' (lf.k.trans kp) upd_same ok' (nd_keep kp (nt_lst lf.hp) _ _ dn) a1 a2 a3
end
end Ab
namespace Ab
open PySem.Spec PyProof.Rows
/-- what an asking node for m may be -/
theorem ask1_all {m o r : Str} (t : Bool) (ho : o ∈ askOne) (hr : r ∈ rolesOf m) : (Nd.ask1 o r).all m t = true := by
  show (decide (o ∈ askOne) && decide (r ∈ rolesOf m)) = true
  rw [decide_eq_true ho, decide_eq_true hr]; rfl
theorem ask2_all {m o r q : Str} (t : Bool) (ho : o ∈ askTwo) (hr : r ∈ rolesOf m) (hq : q ∈ rolesOf m) (ne : r ≠ q) : (Nd.ask2 o r q).all m t = true := by
  show (decide (o ∈ askTwo) && decide (r ∈ rolesOf m) && decide (q ∈ rolesOf m) && decide (r ≠ q)) = true
  rw [decide_eq_true ho, decide_eq_true hr, decide_eq_true hq, decide_eq_true ne]; rfl
theorem ne_lp {H : Hp} {l p : Addr} {ws : List Str} {x y : Int} (h : H l = some (.lst (ws.map V.str))) (hp : H p = some (.lst [.int x, .int y])) : l ≠ p := fun e => by
  rw [e, hp] at h
  cases ws with
  | nil => cases h
  | cons a r => cases h
/-- one of a list of texts that stands -/
theorem oneSs {K : PySem.W.Frag} {H : Hp} {Q : VK} {E : XK} {p l : Addr} {x y : Int} {ws : List Str} (hp : H p = some (.lst [.int x, .int y])) (hl : H l = some (.lst (ws.map V.str))) (ne : l ≠ p) (ok : PoolOk x y) (n0 : 0 < ws.length) (n1 : ws.length < 1000)
    (k : ∀ (o : Str) H' x' y', o ∈ ws → Keep p H H' → H' p = some (.lst [.int x', .int y']) → PoolOk x' y' → Q (.str o) H') : spOne K ([.ref p, .ref l] ++ []) H Q E := by
  refine ⟨p, l, x, y, ws.map V.str, rfl, hp, SqL.of hl, fun o => SqL.of (by rw [upd_ne ne]; exact hl), ok, by rw [List.length_map]; exact n0, by rw [List.length_map]; exact n1, fun v x' y' hv ok' => ?_⟩
  obtain ⟨o, ho, rfl⟩ := List.mem_map.mp hv
  exact k o _ x' y' ho (Keep.put (fun _ _ _ e => e)) upd_same ok'
/-- one of a list of texts just laid -/
theorem oneS {K : PySem.W.Frag} {H : Hp} {Q : VK} {E : XK} {p l : Addr} {x y : Int} {ws : List Str} (hp : H p = some (.lst [.int x, .int y])) (hl : H l = none) (ok : PoolOk x y) (n0 : 0 < ws.length) (n1 : ws.length < 1000)
    (k : ∀ (o : Str) H' x' y', o ∈ ws → Keep p H H' → Keep p H H' → H' p = some (.lst [.int x', .int y']) → PoolOk x' y' → Q (.str o) H') : spOne K ([.ref p, .ref l] ++ []) (upd H l (.lst (ws.map V.str))) Q E := by
  have S := Rd.sNew (o := .lst (ws.map V.str)) hl
  have ne : l ≠ p := fun e => by rw [e, hp] at hl; cases hl
  exact oneSs (S _ _ hp) upd_same ne ok n0 n1 fun o H' x' y' ho kk hp' ok' => k o H' x' y' ho ((Keep.same S).trans kk) ((Keep.same S).trans kk) hp' ok'
theorem self_role (m : Str) : ("self" : Str) ∈ rolesOf m := by
  unfold rolesOf
  split <;> decide +kernel
theorem two_roles : ∀ m ∈ bodyM, m ∉ (["truth", "length", "hash"] : List Str) → rolesOf m = (["self", "other"] : List Str) := by decide +kernel
section
variable {P : Program} {w : World} {K : PySem.W.Frag} {mg : Str → Option Value} {base : Heap}
abbrev sL_asking : Stmt := top 51
abbrev nL_asking : List Str := ["_law_pool_here", "_law_method", "_law_some", "_law_asked"]
theorem scL_asking : FnScope nL_asking ["_law_pool_here", "_law_method"] (defScope sL_asking) := ⟨rfl, rfl, rfl, by decide +kernel, rfl, by decide +kernel, by decide +kernel⟩
def spAsking (K : PySem.W.Frag) : Sp := fun vs H Q _ => ∃ (p : Addr) (x y : Int) (m : Str), vs = [.ref p, .str m] ∧ H p = some (.lst [.int x, .int y]) ∧ PoolOk x y ∧ m ∈ bodyM ∧
  ∀ (v : V) (nd : Nd) H' x' y', Keep p H H' → H' p = some (.lst [.int x', .int y']) → PoolOk x' y' → Dp K H' v nd.d → (∀ t, nd.all m t = true) → nd.dep = 1 → nd.size = 1 → Q v H'
set_option pp.maxSteps 3000 in
theorem ok_asking (T : Txt K mg) (D : DefAt K mg "_law_asking" sL_asking ["_law_pool_here", "_law_method"]) (CL_take : CalG P w K mg base 1 "_law_take" spTake) (CL_one : CalG P w K mg base 2 "_law_one" (spOne K)) : CalG P w K mg base 3 "_law_asking" (spAsking K) := by
  refine D.by scL_asking (fun vs H Q E h => ?_) (fun f cd A hg outer s H vs Q E hr h => ?_)
  · obtain ⟨_, _, _, _, rfl, _⟩ := h
    rfl
  · obtain ⟨p, x, y, m, rfl, hp, ok, hm, q⟩ := h
    refine ⟨_, (pss_cons (ps_if (pt_cmpR (r := rIn K false) op_in_seq (pv 1) (pe_lst (pa_cons pe_str (pa_cons pe_str (pa_cons pe_str pa_nil)))) (by rfl))
  (pss_one (ps_ret (pe_tup (pa_cons pe_str (pa_cons (pe_cG CL_one hg hr (by decide) (pa_cons (pv 0) (pa_cons (pe_lst (pa_cons pe_str (pa_cons pe_str (pa_cons pe_str pa_nil)))) pa_nil))) (pa_cons pe_str pa_nil))))))
  pss_nil)
  (pss_cons (ps_if (pt_cmpR op_eq (pe_cG CL_take hg hr (by decide) (pa_cons (pv 0) (pa_cons pe_int pa_nil))) pe_int (nomark _))
  (pss_cons (ps_set (i := 2) scL_asking.nd rfl (Or.inl rfl) (pe_lst (pa_cons pe_str (pa_cons pe_str (pa_cons pe_str pa_nil)))))
  (pss_one (ps_ret (pe_tup (pa_cons pe_str (pa_cons (pe_cG CL_one hg hr (by decide) (pa_cons (pv 0) (pa_cons (pv 2) pa_nil))) (pa_cons (pe_cG CL_one hg hr (by decide) (pa_cons (pv 0) (pa_cons (pe_lst (pa_cons pe_str (pa_cons pe_str pa_nil))) pa_nil))) pa_nil)))))))
  pss_nil)
  (pss_cons (ps_set (i := 2) scL_asking.nd rfl (Or.inl rfl) (pe_lst (pa_cons pe_str (pa_cons pe_str (pa_cons pe_str (pa_cons pe_str (pa_cons pe_str (pa_cons pe_str (pa_cons pe_str pa_nil)))))))))
  (pss_cons (ps_set (i := 3) scL_asking.nd rfl (Or.inl rfl) (pe_cG CL_one hg hr (by decide) (pa_cons (pv 0) (pa_cons (pv 2) pa_nil))))
  (pss_cons (ps_if (pt_cmpR op_eq (pe_cG CL_take hg hr (by decide) (pa_cons (pv 0) (pa_cons pe_int pa_nil))) pe_int (nomark _))
  (pss_one (ps_ret (pe_tup (pa_cons pe_str (pa_cons (pv 3) (pa_cons pe_str (pa_cons pe_str pa_nil)))))))
  pss_nil)
  (pss_one (ps_ret (pe_tup (pa_cons pe_str (pa_cons (pv 3) (pa_cons pe_str (pa_cons pe_str pa_nil)))))))))))), ?_⟩
    repeat walk_at "rd"
    refine ⟨Rd.sz (by simp), fun lm hlm => ?_⟩
    have S1 := Rd.sNew (o := .lst [.str "truth", .str "length", .str "hash"]) hlm
    have hp1 := S1 _ _ hp
    refine Rd.inL (xs := (["truth", "length", "hash"] : List Str).map V.str) (SqL.of upd_same) rfl rfl ?_
    rw [if_neg Bool.false_ne_true, inV_str]
    generalize upd H lm (.lst [.str "truth", .str "length", .str "hash"]) = H1 at S1 hp1 ⊢
    have K1 := Keep.same (p := p) S1
    repeat walk_at "rd"
    refine Rd.dec (fun c => ?_) (fun c => ?_)
    · repeat walk_at "rd"
      refine ⟨Rd.sz (by simp), fun l6 h6 => ?_⟩
      repeat walk_at "rd"
      refine oneS (ws := askOne) hp1 h6 ok (by decide) (by decide) fun o H6 x6 y6 ho s6 K6 hp6 ok6 => ?_
      repeat walk_at "rd"
      refine ⟨Rd.sz (by simp), fun t8 h8 => ?_⟩
      have S8 := Rd.sNew (o := .tup [.str "ask", .str o, .str "self"]) h8
      refine q (.ref t8) (.ask1 o "self") _ x6 y6 ((K1.trans K6).trans (Keep.same S8)) (S8 _ _ hp6) ok6 ?_ (fun t => ask1_all t ho (self_role m)) rfl rfl
      exact .tup (.inl (.inl upd_same)) (.cons (.str _) (.cons (.str _) (.cons (.str _) .nil)))
    · have ro := two_roles m hm c
      repeat walk_at "rd"
      refine ⟨p, x, y, 4, rfl, hp1, ok, by decide, by decide, fun c4 x2 y2 ok2 c0 c1 => ?_⟩
      have K2 : Keep p H1 (upd H1 p (.lst [.int x2, .int y2])) := Keep.put (fun _ _ _ e => e)
      have hp2 : upd H1 p (.lst [.int x2, .int y2]) p = some (.lst [.int x2, .int y2]) := upd_same
      have K02 := K1.trans K2
      generalize upd H1 p (.lst [.int x2, .int y2]) = H2 at K2 hp2 K02 ⊢
      clear K2 K1 S1
      repeat walk_at "rd"
      refine Rd.dec (fun _ => ?_) (fun _ => ?_)
      · repeat walk_at "rd"
        refine ⟨Rd.sz (by simp), fun l5 h5 => ?_⟩
        have S5 := Rd.sNew (o := .lst (askOne.map V.str)) h5
        have hp5 := S5 _ _ hp2
        have K5 := Keep.same (p := p) S5
        have l5e : upd H2 l5 (.lst (askOne.map V.str)) l5 = some (.lst (askOne.map V.str)) := upd_same
        show gName _ _ _ (upd H2 l5 (.lst (askOne.map V.str))) _
        generalize upd H2 l5 (.lst (askOne.map V.str)) = H5 at S5 hp5 K5 l5e ⊢
        repeat walk_at "rd"
        refine oneSs hp5 l5e (ne_lp l5e hp5) ok2 (by decide) (by decide) fun o H6 x6 y6 ho K6 hp6 ok6 => ?_
        repeat walk_at "rd"
        refine ⟨Rd.sz (by simp), fun l7 h7 => ?_⟩
        repeat walk_at "rd"
        refine oneS (ws := ["self", "other"]) hp6 h7 ok6 (by decide) (by decide) fun r H8 x8 y8 hr8 s8 K8 hp8 ok8 => ?_
        repeat walk_at "rd"
        refine ⟨Rd.sz (by simp), fun t9 h9 => ?_⟩
        have S9 := Rd.sNew (o := .tup [.str "ask", .str o, .str r]) h9
        refine q (.ref t9) (.ask1 o r) _ x8 y8 ((((K02.trans K5).trans K6).trans K8).trans (Keep.same S9)) (S9 _ _ hp8) ok8 ?_ (fun t => ask1_all t ho (by rw [ro]; exact hr8)) rfl rfl
        exact .tup (.inl (.inl upd_same)) (.cons (.str _) (.cons (.str _) (.cons (.str _) .nil)))
      · repeat walk_at "rd"
        refine ⟨Rd.sz (by simp), fun l7 h7 => ?_⟩
        have S7 := Rd.sNew (o := .lst ((["member", "like", "unlike", "like", "unlike", "before", "behind"] : List Str).map V.str)) h7
        have hp7 := S7 _ _ hp2
        have K7 := Keep.same (p := p) S7
        have l7e : upd H2 l7 (.lst ((["member", "like", "unlike", "like", "unlike", "before", "behind"] : List Str).map V.str)) l7 = some (.lst ((["member", "like", "unlike", "like", "unlike", "before", "behind"] : List Str).map V.str)) := upd_same
        show gName _ _ _ (upd H2 l7 (.lst ((["member", "like", "unlike", "like", "unlike", "before", "behind"] : List Str).map V.str))) _
        generalize upd H2 l7 (.lst ((["member", "like", "unlike", "like", "unlike", "before", "behind"] : List Str).map V.str)) = H7 at S7 hp7 K7 l7e ⊢
        repeat walk_at "rd"
        refine oneSs hp7 l7e (ne_lp l7e hp7) ok2 (by decide) (by decide) fun o H8 x8 y8 ho K8 hp8 ok8 => ?_
        have ho2 : o ∈ askTwo := (show ∀ z ∈ (["member", "like", "unlike", "like", "unlike", "before", "behind"] : List Str), z ∈ askTwo by decide +kernel) o ho
        repeat walk_at "rd"
        refine ⟨p, x8, y8, 2, rfl, hp8, ok8, by decide, by decide, fun c2 x9 y9 ok9 c0 c1 => ?_⟩
        have K9 : Keep p H8 (upd H8 p (.lst [.int x9, .int y9])) := Keep.put (fun _ _ _ e => e)
        have hp9 : upd H8 p (.lst [.int x9, .int y9]) p = some (.lst [.int x9, .int y9]) := upd_same
        have K09 := ((K02.trans K7).trans K8).trans K9
        generalize upd H8 p (.lst [.int x9, .int y9]) = H9 at K9 hp9 K09 ⊢
        repeat walk_at "rd"
        have fin : ∀ (r1 r2 : Str), r1 ≠ r2 → r1 ∈ rolesOf m → r2 ∈ rolesOf m → ∀ ta, H9 ta = none → Q (.ref ta) (upd H9 ta (.tup [.str "ask", .str o, .str r1, .str r2])) := fun r1 r2 n12 i1 i2 ta ha => by
          have Sa := Rd.sNew (o := .tup [.str "ask", .str o, .str r1, .str r2]) ha
          refine q (.ref ta) (.ask2 o r1 r2) _ x9 y9 (K09.trans (Keep.same Sa)) (Sa _ _ hp9) ok9 ?_ (fun t => ask2_all t ho2 i1 i2 n12) rfl rfl
          exact .tup (.inl (.inl upd_same)) (.cons (.str _) (.cons (.str _) (.cons (.str _) (.cons (.str _) .nil))))
        refine Rd.dec (fun _ => ?_) (fun _ => ?_)
        · repeat walk_at "rd"
          exact ⟨Rd.sz (by simp), fin "self" "other" (by decide +kernel) (by rw [ro]; decide +kernel) (by rw [ro]; decide +kernel)⟩
        · repeat walk_at "rd"
          exact ⟨Rd.sz (by simp), fin "other" "self" (by decide +kernel) (by rw [ro]; decide +kernel) (by rw [ro]; decide +kernel)⟩
end
end Ab
namespace Ab
open PySem.Spec PyProof.Rows
local macro_rules | `(tactic| walk_at "rd") => `(tactic| (with_reducible first | refine Rd.tt_ ?_ | refine Rd.ff_ ?_))
def szD : Nat → Nat
  | 0 => 1
  | n + 1 => 3 * szD n + 1
theorem szD_pos : ∀ n, 1 ≤ szD n
  | 0 => Nat.le_refl _
  | n + 1 => by rw [szD]; omega
theorem szD_mono {a b : Nat} (h : a ≤ b) : szD a ≤ szD b := by
  induction h with
  | refl => exact Nat.le_refl _
  | step _ ih => rw [szD]; omega
section
variable {P : Program} {w : World} {K : PySem.W.Frag} {mg : Str → Option Value} {base : Heap}
abbrev sL_deep : Stmt := top 52
abbrev nL_deep : List Str := ["_law_pool_here", "_law_method", "_law_deep_here", "_law_at_tail", "_law_way", "_law_asked", "_law_one_here"]
theorem scL_deep : FnScope nL_deep ["_law_pool_here", "_law_method", "_law_deep_here", "_law_at_tail"] (defScope sL_deep) := ⟨rfl, rfl, rfl, by decide +kernel, rfl, by decide +kernel, by decide +kernel⟩
def spPart (K : PySem.W.Frag) (n : Nat) : Sp := fun vs H Q _ => ∃ (p : Addr) (x y : Int) (m : Str) (tail : Bool), vs = [.ref p, .str m, .int (n : Int), .bl tail] ∧ H p = some (.lst [.int x, .int y]) ∧ PoolOk x y ∧ m ∈ bodyM ∧
  ∀ (v : V) (nd : Nd) H' x' y', Keep p H H' → H' p = some (.lst [.int x', .int y']) → PoolOk x' y' → Dp K H' v nd.d → nd.all m tail = true → nd.dep ≤ n + 1 → nd.size ≤ szD n → Q v H'
/-- of depth n at most -/
def spPartA (K : PySem.W.Frag) (n : Nat) : Sp := fun vs H Q E => ∃ j, j ≤ n ∧ spPart K j vs H Q E
theorem part_step (T : Txt K mg) (D : DefAt K mg "_law_deep" sL_deep ["_law_pool_here", "_law_method", "_law_deep_here", "_law_at_tail"]) (CL_take : CalG P w K mg base 1 "_law_take" spTake) (CL_leaf : CalG P w K mg base 3 "_law_leaf" (spLeaf K)) (CL_asking : CalG P w K mg base 3 "_law_asking" (spAsking K))
    {k top : Nat} (hk : 3 ≤ k) {sp : Sp} (CL_deep : CalG P w K mg base k "_law_deep" sp) (hsp : ∀ i, i < top → ∀ vs H Q E, spPart K i vs H Q E → sp vs H Q E) : CalG P w K mg base (k + 1) "_law_deep" (spPartA K top) := by
  refine D.by scL_deep (fun vs H Q E h => ?_) (fun f cd A hg outer s H vs Q E hr h => ?_)
  · obtain ⟨_, _, _, _, _, _, _, rfl, _⟩ := h
    rfl
  · obtain ⟨j, hj, p, x, y, m, tail, rfl, hp, ok, hm, q⟩ := h
    refine ⟨_, (pss_cons (ps_set (i := 4) scL_deep.nd rfl (Or.inl rfl) (pe_cG CL_take hg hr (by omega) (pa_cons (pv 0) (pa_cons pe_int pa_nil))))
  (pss_cons (ps_if (PW.pt (pw_or (pt_cmpR op_lt (pv 4) pe_int (nomark _)) (pw_or1 (PW.pt (pw_and (pt_cmpR op_eq (pv 2) pe_int (nomark _)) (pw_and1 (pt_cmpR op_lt (pv 4) pe_int (nomark _))))))))
  (pss_one (ps_ret (pe_cG CL_leaf hg hr (by omega) (pa_cons (pv 0) (pa_cons (pv 1) (pa_cons (pv 3) pa_nil))))))
  pss_nil)
  (pss_cons (ps_if (PW.pt (pw_or (pt_cmpR op_lt (pv 4) pe_int (nomark _)) (pw_or1 (pt_cmpR op_eq (pv 2) pe_int (nomark _)))))
  (pss_one (ps_ret (pe_cG CL_asking hg hr (by omega) (pa_cons (pv 0) (pa_cons (pv 1) pa_nil)))))
  pss_nil)
  (pss_cons (ps_if (pt_cmpR op_eq (pv 4) pe_int (nomark _))
  (pss_one (ps_ret (pe_tup (pa_cons pe_str (pa_cons (pe_cG CL_deep hg hr (by omega) (pa_cons (pv 0) (pa_cons (pv 1) (pa_cons (pe_op op_sub (pv 2) pe_int) (pa_cons pe_bl pa_nil))))) pa_nil)))))
  pss_nil)
  (pss_cons (ps_par (i := 5) (j := 6) (by rfl) scL_deep.nd rfl rfl (by decide) rfl rfl (pa_cons (pe_cG CL_deep hg hr (by omega) (pa_cons (pv 0) (pa_cons (pv 1) (pa_cons (pe_op op_sub (pv 2) pe_int) (pa_cons pe_bl pa_nil))))) (pa_cons (pe_cG CL_deep hg hr (by omega) (pa_cons (pv 0) (pa_cons (pv 1) (pa_cons (pe_op op_sub (pv 2) pe_int) (pa_cons (pv 3) pa_nil))))) pa_nil)) (by rfl))
  (pss_one (ps_ret (pe_tup (pa_cons pe_str (pa_cons (pv 5) (pa_cons (pv 6) (pa_cons (pe_cG CL_deep hg hr (by omega) (pa_cons (pv 0) (pa_cons (pv 1) (pa_cons (pe_op op_sub (pv 2) pe_int) (pa_cons (pv 3) pa_nil))))) pa_nil)))))))))))), ?_⟩
    repeat walk_at "rd"
    refine ⟨p, x, y, 8, rfl, hp, ok, by decide, by decide, fun c x1 y1 ok1 c0 c1 => ?_⟩
    have K1 : Keep p H (upd H p (.lst [.int x1, .int y1])) := Keep.put (fun _ _ _ e => e)
    have hp1 : upd H p (.lst [.int x1, .int y1]) p = some (.lst [.int x1, .int y1]) := upd_same
    generalize upd H p (.lst [.int x1, .int y1]) = H1 at K1 hp1 ⊢
    match j, hj, q with
    | 0, hj, q =>
      have leaf : spLeaf K ([.ref p, .str m, .bl tail] ++ []) H1 Q E0 := ⟨p, x1, y1, m, tail, rfl, hp1, ok1, fun v nd H2 x2 y2 K2 hp2 ok2 dp a1 a2 a3 => q v nd H2 x2 y2 (K1.trans K2) hp2 ok2 dp a1 (by omega) (by rw [szD]; omega)⟩
      have asking : spAsking K ([.ref p, .str m] ++ []) H1 Q E0 := ⟨p, x1, y1, m, rfl, hp1, ok1, hm, fun v nd H2 x2 y2 K2 hp2 ok2 dp a1 a2 a3 => q v nd H2 x2 y2 (K1.trans K2) hp2 ok2 dp (a1 tail) (by omega) (by rw [szD]; omega)⟩
      repeat walk_at "rd"
      refine Rd.dec (fun _ => ?_) (fun e2 => ?_)
      · repeat walk_at "rd"
        exact leaf
      repeat walk_at "rd"
      refine Rd.dec (fun _ => ?_) (fun e => absurd rfl e)
      repeat walk_at "rd"
      refine Rd.dec (fun _ => ?_) (fun e4 => ?_)
      · repeat walk_at "rd"
        exact leaf
      · repeat walk_at "rd"
        refine Rd.dec (fun _ => ?_) (fun e5 => ?_)
        · repeat walk_at "rd"
          exact asking
        repeat walk_at "rd"
        refine Rd.dec (fun _ => ?_) (fun e => absurd rfl e)
        repeat walk_at "rd"
        exact asking
    | n + 1, hj, q =>
      have hn : n < top := hj
      have sz1 := szD_pos (n + 1)
      have leaf : spLeaf K ([.ref p, .str m, .bl tail] ++ []) H1 Q E0 := ⟨p, x1, y1, m, tail, rfl, hp1, ok1, fun v nd H2 x2 y2 K2 hp2 ok2 dp a1 a2 a3 => q v nd H2 x2 y2 (K1.trans K2) hp2 ok2 dp a1 (by omega) (by omega)⟩
      have asking : spAsking K ([.ref p, .str m] ++ []) H1 Q E0 := ⟨p, x1, y1, m, rfl, hp1, ok1, hm, fun v nd H2 x2 y2 K2 hp2 ok2 dp a1 a2 a3 => q v nd H2 x2 y2 (K1.trans K2) hp2 ok2 dp (a1 tail) (by omega) (by omega)⟩
      have szn : szD (n + 1) = 3 * szD n + 1 := rfl
      have dn : (((n + 1 : Nat) : Int) - 1) = (n : Int) := by omega
      repeat walk_at "rd"
      refine Rd.dec (fun _ => ?_) (fun e2 => ?_)
      · repeat walk_at "rd"
        exact leaf
      · repeat walk_at "rd"
        refine Rd.dec (fun e => absurd (V.int.inj e) (by omega)) (fun _ => ?_)
        repeat walk_at "rd"
        refine Rd.dec (fun _ => ?_) (fun e5 => ?_)
        · repeat walk_at "rd"
          exact asking
        · repeat walk_at "rd"
          refine Rd.dec (fun e => absurd (V.int.inj e) (by omega)) (fun _ => ?_)
          repeat walk_at "rd"
          refine Rd.dec (fun _ => ?_) (fun e6 => ?_)
          · repeat walk_at "rd"
            rw [dn]
            refine hsp n hn _ _ _ _ ⟨p, x1, y1, m, false, rfl, hp1, ok1, hm, fun v nd H2 x2 y2 K2 hp2 ok2 dp a1 a2 a3 => ?_⟩
            repeat walk_at "rd"
            refine ⟨Rd.sz (by simp), fun t ht => ?_⟩
            have S3 := Rd.sNew (o := .tup [.str "not", v]) ht
            refine q (.ref t) (.no nd) _ x2 y2 ((K1.trans K2).trans (Keep.same S3)) (S3 _ _ hp2) ok2 ?_ a1 (by show nd.dep + 1 ≤ _; omega) (by show nd.size + 1 ≤ _; omega)
            exact .tup (.inl (.inl upd_same)) (.cons (.str _) (.cons (dp_mono S3 dp) .nil))
          · repeat walk_at "rd"
            rw [dn]
            refine hsp n hn _ _ _ _ ⟨p, x1, y1, m, false, rfl, hp1, ok1, hm, fun v1 nd1 H2 x2 y2 K2 hp2 ok2 dp1 a1 a2 a3 => ?_⟩
            repeat walk_at "rd"
            rw [dn]
            refine hsp n hn _ _ _ _ ⟨p, x2, y2, m, tail, rfl, hp2, ok2, hm, fun v2 nd2 H3 x3 y3 K3 hp3 ok3 dp2 b1 b2 b3 => ?_⟩
            have dp1 := nd_keep K3 (nt_lst hp2) _ _ dp1
            refine ⟨_, _, rfl, ?_⟩
            repeat walk_at "rd"
            rw [dn]
            refine hsp n hn _ _ _ _ ⟨p, x3, y3, m, tail, rfl, hp3, ok3, hm, fun v3 nd3 H4 x4 y4 K4 hp4 ok4 dp3 c1 c2 c3 => ?_⟩
            have dp1 := nd_keep K4 (nt_lst hp3) _ _ dp1
            have dp2 := nd_keep K4 (nt_lst hp3) _ _ dp2
            repeat walk_at "rd"
            refine ⟨Rd.sz (by simp), fun t ht => ?_⟩
            have S5 := Rd.sNew (o := .tup [.str "if", v1, v2, v3]) ht
            refine q (.ref t) (.iff nd1 nd2 nd3) _ x4 y4 ((((K1.trans K2).trans K3).trans K4).trans (Keep.same S5)) (S5 _ _ hp4) ok4 ?_ ?_ ?_ ?_
            · exact .tup (.inl (.inl upd_same)) (.cons (.str _) (.cons (dp_mono S5 dp1) (.cons (dp_mono S5 dp2) (.cons (dp_mono S5 dp3) .nil))))
            · show (nd1.all m false && nd2.all m tail && nd3.all m tail) = true
              rw [a1, b1, c1]; rfl
            · show max nd1.dep (max nd2.dep nd3.dep) + 1 ≤ _; omega
            · show nd1.size + nd2.size + nd3.size + 1 ≤ _; omega
theorem ok_part (T : Txt K mg) (D : DefAt K mg "_law_deep" sL_deep ["_law_pool_here", "_law_method", "_law_deep_here", "_law_at_tail"]) (CL_take : CalG P w K mg base 1 "_law_take" spTake) (CL_leaf : CalG P w K mg base 3 "_law_leaf" (spLeaf K)) (CL_asking : CalG P w K mg base 3 "_law_asking" (spAsking K)) :
    ∀ n, CalG P w K mg base (n + 4) "_law_deep" (spPartA K n)
  | 0 => part_step T D CL_take CL_leaf CL_asking (Nat.le_refl 3) (sp := fun _ _ _ _ => False) (by
      obtain ⟨f, fd, h1, h2, h3⟩ := D
      exact ⟨f, fd, _, ⟨fun _ _ _ _ h => h.elim, fun _ _ _ _ _ _ _ _ _ _ _ _ _ _ h => h.elim⟩, h1, h2.kp, h3⟩) fun i h => absurd h (Nat.not_lt_zero i)
  | n + 1 => part_step T D CL_take CL_leaf CL_asking (by omega) (ok_part T D CL_take CL_leaf CL_asking n) fun i h vs H Q E q => ⟨i, Nat.lt_succ_iff.mp h, q⟩
end
end Ab
namespace Rd
open PySem.Spec PyProof.Rows
theorem callS {sp : Sp} {E : L2.St → XK} {t : TA} {σ : L2.St} {H : Hp} {Q : VK} (k : t σ H fun vs H1 => sp vs H1 Q (E σ)) : tCallS sp E t σ H Q := k
end Rd
namespace Ab
open PySem.Spec PyProof.Rows
local macro_rules | `(tactic| walk_at "rd") => `(tactic| (with_reducible first | refine Rd.tt_ ?_ | refine Rd.ff_ ?_ | refine Rd.sfld ?_ | refine Rd.dget ?_ | refine Rd.methR ?_ | refine Rd.propR ?_ | refine Rd.getR ?_ | refine Mt.makeR ?_ | refine Rd.callS ?_))
structure Errs (K : PySem.W.Frag) (CA CN CM : Addr) : Prop where
  aN : PySem.W.kitOne K (.ref CN) (.ref CA) = some true
  aM : PySem.W.kitOne K (.ref CM) (.ref CA) = some true
  nM : PySem.W.kitOne K (.ref CM) (.ref CN) = some false
  mN : PySem.W.kitOne K (.ref CN) (.ref CM) = some false
  xN : PySem.W.exmOne K (.ref CN) (.ref CM) = some false
def noteV : List V := [.str "note", .non, .bl true, .bl false]
section
variable {P : Program} {w : World} {K : PySem.W.Frag} {mg : Str → Option Value} {base : Heap}
abbrev sL_due : Stmt := top 55
abbrev nL_due : List Str := ["_law_method", "_law_told"]
theorem scL_due : FnScope nL_due ["_law_method", "_law_told"] (defScope sL_due) := ⟨rfl, rfl, rfl, by decide +kernel, rfl, by decide +kernel, by decide +kernel⟩
def spLDue (K : PySem.W.Frag) (C : Addr) : Sp := fun vs H Q _ => ∃ (m : Str) (v : V) (nd : Nd), vs = [.str m, v] ∧ m ∈ bodyM ∧ Dp K H v nd.d ∧ Uni nd.d ∧
  (¬ BdOk m nd → ∀ l H', Same H H' → H' l = some (.lst noteV) → Q (.ref l) H') ∧ (BdOk m nd → ∀ b L H', Same H H' → BdA K C H' b L m v nd → Q (.ref b) H')
theorem ok_ldue (T : Txt K mg) {C_Body CB : Addr} (T_NoBody : Ex.ErrC K mg "NoBody" "place" CB) (I_Body : Ob.MkCal P w K mg base (L2.CX P w) C_Body 9 "Body" (spBN K C_Body CB)) (D : DefAt K mg "_law_due" sL_due ["_law_method", "_law_told"]) : CalG P w K mg base 11 "_law_due" (spLDue K C_Body) := by
  refine D.by scL_due (fun vs H Q E h => ?_) (fun f cd A hg outer s H vs Q E hr h => ?_)
  · obtain ⟨_, _, _, rfl, _⟩ := h
    rfl
  · obtain ⟨m, v, nd, rfl, hm, dp, un, q1, q2⟩ := h
    refine ⟨_, (pss_one (ps_try_only (Wout := fun _ _ _ _ => False) rfl rfl ⟨rfl, by decide, Or.inl T_NoBody.g⟩ takes0
  (fun W pn xe tk _ => (pss_one (ps_ret (Mt.makeS tk I_Body hg hr (by decide) (pa_cons (pv 0) (pa_cons (pv 1) pa_nil))))))
  (fun a oe cls d pn hz hf => (pss_one (ps_ret (pe_lst (pa_cons pe_str (pa_cons pe_non (pa_cons pe_bl (pa_cons pe_bl pa_nil)))))))))), ?_⟩
    repeat walk_at "rd"
    intro b dxa hb hdx nb
    have s1 : Same H (upd (upd H dxa (.own b)) b (.ins C_Body dxa [])) := fun a u e => by
      rw [upd_ne (ne_of_none e hb), upd_ne (ne_of_none e hdx)]
      exact e
    have hb1 : upd (upd H dxa (.own b)) b (.ins C_Body dxa []) b = some (.ins C_Body dxa []) := upd_same
    generalize upd (upd H dxa (.own b)) b (.ins C_Body dxa []) = H1 at s1 hb1 ⊢
    refine ⟨b, dxa, m, v, nd.d, rfl, hm, hb1, dp_mono s1 dp, un, fun n en H2 s2 dd hdd => ⟨true, T_NoBody.te, fun _ a0 ha0 => ?_, fun z => nomatch z⟩, fun en L H2 k2 nL hb2 => ⟨rfl, ?_⟩⟩
    · have s3 := (s1.trans s2).trans (Rd.sNew (o := .xd [(("place" : Str), V.int (n : Int))]) hdd)
      repeat walk_at "rd"
      refine ⟨Rd.sz (by simp), fun l hl => ?_⟩
      exact q1 (fun ok => by rw [goW_good ok] at en; cases en) l _ (s3.trans (Rd.sNew hl)) upd_same
    · have s2 : Same H H2 := fun a u e => k2 a u (ne_of_none e hb) (s1 _ _ e)
      obtain ⟨nd2, e, al, dep, sz⟩ := goW_none en
      obtain rfl := d_inj e
      exact q2 ⟨bodyM_in m hm, (bodyM_iff m (bodyM_in m hm)).mpr hm, al, sz, dep⟩ b L _ s2 ⟨⟨dxa, hb2⟩, dp_mono s2 dp⟩
abbrev sL_read : Stmt := top 54
abbrev nL_read : List Str := ["_law_method", "_law_text", "e"]
theorem scL_read : FnScope nL_read ["_law_method", "_law_text"] (defScope sL_read) := ⟨rfl, rfl, rfl, by decide +kernel, rfl, by decide +kernel, by decide +kernel⟩
def spLRead (K : PySem.W.Frag) (C : Addr) : Sp := fun vs H Q _ => ∃ (x y : V) (tn : String), vs = [x, y] ∧ Kd K H x tn ∧ (isIn x bodyM = false → ∀ l H', Same H H' → H' l = some (.lst [.str "name", x, .bl true, .bl false]) → Q (.ref l) H') ∧
  ∀ m, x = .str m → m ∈ bodyM →
    ((∃ ty, TyX K H y (.type ty) ∧ kitB ty "str" = some false ∧ ∀ l H', Same H H' → H' l = some (.lst noteV) → Q (.ref l) H') ∨
     ∃ t ws, y = .str t ∧ TxtOf t ws ∧ ((∃ nd, BdOk m nd ∧ nd.words = ws ∧ ∀ b L v H', Same H H' → BdA K C H' b L m v nd → Q (.ref b) H') ∨
       ((∀ nd, BdOk m nd → nd.words ≠ ws) ∧ ∀ l H', Same H H' → H' l = some (.lst noteV) → Q (.ref l) H')))
set_option pp.maxSteps 3000 in
theorem ok_lread (T : Txt K mg) {C_Body C_AnswerError C_NoName C_NoNote : Addr} (R : Errs K C_AnswerError C_NoName C_NoNote) (T_NoName : Ex.ErrC K mg "NoName" "value" C_NoName) (T_NoNote : Ex.ErrC K mg "NoNote" "line" C_NoNote) (G_AnswerError : mg "AnswerError" = some (.ref C_AnswerError))
    (D : DefAt K mg "_law_read" sL_read ["_law_method", "_law_text"]) (CRead_body : Ex.CalX P w K mg base 69 "read_body" (spReadB K C_Body C_NoName C_NoNote)) : CalG P w K mg base 70 "_law_read" (spLRead K C_Body) := by
  have G_NoName := T_NoName.g
  have G_NoNote := T_NoNote.g
  refine D.by scL_read (fun vs H Q E h => ?_) (fun f cd A hg outer s H vs Q E hr h => ?_)
  · obtain ⟨_, _, _, rfl, _⟩ := h
    rfl
  · obtain ⟨x, y, tn, rfl, kd, q1, q2⟩ := h
    refine ⟨_, (pss_one (Et.ps_tryN (i := 2) (out := fun _ _ _ _ => False) rfl rfl scL_read.nd rfl rfl takes0
  (fun W pn xe tk _ => (pss_one (ps_ret (Ex.pe_xS CRead_body hg hr (by decide) tk (pa_cons (pv 0) (pa_cons (pv 1) pa_nil))))))
  (Et.Clauses.cons ⟨rfl, by decide, Or.inl T_NoNote.g⟩ (fun a oe cls d pn hz hf => (pss_one (ps_ret (pe_lst (pa_cons pe_str (pa_cons (pe_xf T_NoNote.xf T_NoNote.no hz hf (pv 2)) (pa_cons (pe_callB (r := Ex.rIsD K C_NoNote a cls d) (Ex.call_isD T_NoNote.ic hz hf) (by rfl) T.isinstance (by decide +kernel) (pa_cons (pv 2) (pa_cons (pe_glob (v := .ref C_AnswerError) (by rfl) G_AnswerError rfl) pa_nil))) (pa_cons (pe_callB (r := Ex.rIsD K C_NoNote a cls d) (Ex.call_isD T_NoNote.ic hz hf) (by rfl) T.isinstance (by decide +kernel) (pa_cons (pv 2) (pa_cons (pe_glob (v := .ref C_NoName) (by rfl) G_NoName rfl) pa_nil))) pa_nil))))))))
  (Et.Clauses.cons ⟨rfl, by decide, Or.inl T_NoName.g⟩ (fun a oe cls d pn hz hf => (pss_one (ps_ret (pe_lst (pa_cons pe_str (pa_cons (pe_xf T_NoName.xf T_NoName.no hz hf (pv 2)) (pa_cons (pe_callB (r := Ex.rIsD K C_NoName a cls d) (Ex.call_isD T_NoName.ic hz hf) (by rfl) T.isinstance (by decide +kernel) (pa_cons (pv 2) (pa_cons (pe_glob (v := .ref C_AnswerError) (by rfl) G_AnswerError rfl) pa_nil))) (pa_cons (pe_callB (r := Ex.rIsD K C_NoName a cls d) (Ex.call_isD T_NoName.ic hz hf) (by rfl) T.isinstance (by decide +kernel) (pa_cons (pv 2) (pa_cons (pe_glob (v := .ref C_NoNote) (by rfl) G_NoNote rfl) pa_nil))) pa_nil))))))))
  Et.Clauses.nil)))), ?_⟩
    repeat walk_at "rd"
    refine ⟨x, y, tn, rfl, kd, fun c dd hdd => ⟨false, R.xN, (fun z => nomatch z), fun _ => ⟨true, T_NoName.te, fun _ a0 ha0 => ?_, fun z => nomatch z⟩⟩, fun m ex hm => ?_⟩
    · have s2 := Rd.sNew (o := .xd [(("value" : Str), x)]) hdd
      repeat walk_at "rd"
      refine ⟨_, rfl, rfl, rfl, dd, _, x, rfl, upd_same, by simp [List.lookup], ?_⟩
      repeat walk_at "rd"
      refine ⟨_, _, true, dd, _, rfl, .own _, rfl, rfl, upd_same, R.aN, ?_⟩
      repeat walk_at "rd"
      refine ⟨_, _, false, dd, _, rfl, .own _, rfl, rfl, upd_same, R.mN, ?_⟩
      repeat walk_at "rd"
      refine ⟨Rd.sz (by simp), fun l hl => ?_⟩
      exact q1 c l _ (s2.trans (Rd.sNew hl)) upd_same
    rcases q2 m ex hm with ⟨ty, tyy, kt, q3⟩ | ⟨t, ws, ey, tx, ⟨nd, ok, ew, q3⟩ | ⟨no, q3⟩⟩
    · refine .inl ⟨ty, tyy, kt, fun dd hdd => ⟨true, T_NoNote.te, fun _ a0 ha0 => ?_, fun z => nomatch z⟩⟩
      repeat walk_at "rd"
      refine ⟨_, rfl, rfl, rfl, dd, _, .non, rfl, upd_same, by simp [List.lookup], ?_⟩
      repeat walk_at "rd"
      refine ⟨_, _, true, dd, _, rfl, .own _, rfl, rfl, upd_same, R.aM, ?_⟩
      repeat walk_at "rd"
      refine ⟨_, _, false, dd, _, rfl, .own _, rfl, rfl, upd_same, R.nM, ?_⟩
      repeat walk_at "rd"
      refine ⟨Rd.sz (by simp), fun l hl => ?_⟩
      exact q3 l _ ((Rd.sNew hdd).trans (Rd.sNew hl)) upd_same
    · exact .inr ⟨t, ws, ey, tx, .inl ⟨nd, ok, ew, fun b L v H' s1 _ _ bk => q3 b L v H' s1 bk⟩⟩
    · refine .inr ⟨t, ws, ey, tx, .inr ⟨no, fun H1 s1 dd hdd => ⟨true, T_NoNote.te, fun _ a0 ha0 => ?_, fun z => nomatch z⟩⟩⟩
      repeat walk_at "rd"
      refine ⟨_, rfl, rfl, rfl, dd, _, .non, rfl, upd_same, by simp [List.lookup], ?_⟩
      repeat walk_at "rd"
      refine ⟨_, _, true, dd, _, rfl, .own _, rfl, rfl, upd_same, R.aM, ?_⟩
      repeat walk_at "rd"
      refine ⟨_, _, false, dd, _, rfl, .own _, rfl, rfl, upd_same, R.nM, ?_⟩
      repeat walk_at "rd"
      refine ⟨Rd.sz (by simp), fun l hl => ?_⟩
      exact q3 l _ ((s1.trans (Rd.sNew hdd)).trans (Rd.sNew hl)) upd_same
abbrev sL_greatest : Stmt := top 58
abbrev nL_greatest : List Str := ["_law_asked", "_law_found", "_law_turn"]
theorem scL_greatest : FnScope nL_greatest [] (defScope sL_greatest) := ⟨rfl, rfl, rfl, by decide +kernel, rfl, by decide +kernel, by decide +kernel⟩
def askN : Nd := .ask2 "like" "self" "other"
def grN : Nat → Nd
  | 0 => .iff askN askN askN
  | n + 1 => .iff askN askN (grN n)
def spGreat (K : PySem.W.Frag) : Sp := fun vs H Q _ => vs = [] ∧ ∀ v H', Same H H' → Dp K H' v (grN 4).d → Q v H'
theorem ok_great (T : Txt K mg) (D : DefAt K mg "_law_greatest" sL_greatest []) : CalG P w K mg base 1 "_law_greatest" (spGreat K) := by
  refine D.by scL_greatest (fun vs H Q E h => ?_) (fun f cd A hg outer s H vs Q E hr h => ?_)
  · obtain ⟨rfl, _⟩ := h
    rfl
  · obtain ⟨rfl, q⟩ := h
    refine ⟨_, (pss_cons (ps_set (i := 0) scL_greatest.nd rfl (Or.inl rfl) (pe_tup (pa_cons pe_str (pa_cons pe_str (pa_cons pe_str (pa_cons pe_str pa_nil))))))
  (pss_cons (ps_set (i := 1) scL_greatest.nd rfl (Or.inl rfl) (pe_tup (pa_cons pe_str (pa_cons (pv 0) (pa_cons (pv 0) (pa_cons (pv 0) pa_nil))))))
  (pss_cons (ps_for PassesOwn.never rfl (pi_range1 (by rfl) T.range (pa_cons pe_int pa_nil)) (pg_name (i := 2) scL_greatest.nd rfl (Or.inl rfl))
  (pss_one (ps_set (i := 1) scL_greatest.nd rfl (Or.inl rfl) (pe_tup (pa_cons pe_str (pa_cons (pv 0) (pa_cons (pv 0) (pa_cons (pv 1) pa_nil))))))))
  (pss_one (ps_ret (pv 1)))))), ?_⟩
    repeat walk_at "rd"
    refine ⟨Rd.sz (by simp), fun t1 h1 => ?_⟩
    have s1 := Rd.sNew (o := .tup [.str "ask", .str "like", .str "self", .str "other"]) h1
    have d1 : Dp K (upd H t1 (.tup [.str "ask", .str "like", .str "self", .str "other"])) (.ref t1) askN.d := .tup (.inl (.inl upd_same)) (.cons (.str _) (.cons (.str _) (.cons (.str _) (.cons (.str _) .nil))))
    generalize upd H t1 (.tup [.str "ask", .str "like", .str "self", .str "other"]) = H1 at s1 d1 ⊢
    repeat walk_at "rd"
    refine ⟨Rd.sz (by simp), fun t2 h2 => ?_⟩
    have s2 := Rd.sNew (o := .tup [.str "if", .ref t1, .ref t1, .ref t1]) h2
    have d12 := dp_mono s2 d1
    have d2 : Dp K (upd H1 t2 (.tup [.str "if", .ref t1, .ref t1, .ref t1])) (.ref t2) (grN 0).d := .tup (.inl (.inl upd_same)) (.cons (.str _) (.cons d12 (.cons d12 (.cons d12 .nil))))
    have s02 := s1.trans s2
    generalize upd H1 t2 (.tup [.str "if", .ref t1, .ref t1, .ref t1]) = H2 at d12 d2 s02 ⊢
    repeat walk_at "rd"
    (try refine Rd.forR ?_)
    repeat walk_at "rd"
    refine Rd.rng (by omega) (by omega) ?_
    refine Rd.forGo (fun j σ H' => ∃ vf z, σ = [some (.ref t1), some vf, z] ∧ Same H2 H' ∧ Dp K H' vf (grN j).d) ⟨_, _, rfl, Same.refl _, d2⟩ ?_ ?_
    · rintro j σ H3 hj ⟨vf, z, rfl, s3, d3⟩
      repeat walk_at "rd"
      refine ⟨Rd.sz (by simp), fun t4 h4 => ?_⟩
      have s4 := Rd.sNew (o := .tup [.str "if", .ref t1, .ref t1, vf]) h4
      have d14 := dp_mono (s3.trans s4) d12
      exact ⟨_, _, rfl, s3.trans s4, .tup (.inl (.inl upd_same)) (.cons (.str _) (.cons d14 (.cons d14 (.cons (dp_mono s4 d3) .nil))))⟩
    · rintro σ H3 ⟨vf, z, rfl, s3, d3⟩
      repeat walk_at "rd"
      exact q _ _ (s02.trans s3) d3
end
end Ab
namespace Ab
open PySem.Spec PyProof.Rows
/-! ### texts as joined words -/
theorem joinL_app {S : List Nat} : ∀ {a b : List (List Nat)}, a ≠ [] → b ≠ [] → TL.joinL S (a ++ b) = TL.joinL S a ++ (S ++ TL.joinL S b)
  | [], _, h, _ => absurd rfl h
  | [p], [], _, h => absurd rfl h
  | [p], q :: r, _, _ => rfl
  | p :: q :: r, b, _, h => by
    show p ++ (S ++ TL.joinL S (q :: r ++ b)) = p ++ (S ++ TL.joinL S (q :: r)) ++ (S ++ TL.joinL S b)
    rw [joinL_app (by simp) h]
    simp
theorem joinL_glue {S : List Nat} {x y : List Nat} : ∀ {a b : List (List Nat)}, TL.joinL S (a ++ [x]) ++ TL.joinL S (y :: b) = TL.joinL S (a ++ (x ++ y) :: b)
  | [], [] => rfl
  | [], q :: r => by
    show x ++ (y ++ (S ++ TL.joinL S (q :: r))) = x ++ y ++ (S ++ TL.joinL S (q :: r))
    simp
  | [p], b => by
    show p ++ (S ++ x) ++ TL.joinL S (y :: b) = p ++ (S ++ TL.joinL S ((x ++ y) :: b))
    have h := joinL_glue (S := S) (x := x) (y := y) (a := []) (b := b)
    rw [List.nil_append, List.nil_append] at h
    rw [← h]
    show p ++ (S ++ x) ++ TL.joinL S (y :: b) = p ++ (S ++ (x ++ TL.joinL S (y :: b)))
    simp
  | p :: q :: a, b => by
    show p ++ (S ++ TL.joinL S (q :: a ++ [x])) ++ TL.joinL S (y :: b) = p ++ (S ++ TL.joinL S (q :: a ++ (x ++ y) :: b))
    rw [← joinL_glue (S := S) (x := x) (y := y) (a := q :: a) (b := b)]
    simp
theorem joinL_len {S : List Nat} : ∀ a : List (List Nat), (TL.joinL S a).length ≤ (a.map List.length).sum + a.length * S.length
  | [] => Nat.zero_le _
  | [p] => by
    show p.length ≤ _
    simp only [List.map_cons, List.map_nil, List.sum_cons, List.sum_nil]
    omega
  | p :: q :: r => by
    have h := joinL_len (S := S) (q :: r)
    show (p ++ (S ++ TL.joinL S (q :: r))).length ≤ _
    rw [List.map_cons, List.sum_cons, List.length_append, List.length_append, List.length_cons, Nat.add_mul, Nat.one_mul]
    omega
abbrev sp : Str := " "
theorem tl_sp : TL.tl sp = [32] := by decide +kernel
theorem tl_joinS (ws : List Str) : TL.tl (Txt.join sp ws) = TL.joinL [32] (ws.map TL.tl) := by rw [TL.join_eq, TL.tl_join, tl_sp]
theorem len_joinS (ws : List Str) : (Txt.join sp ws).length ≤ (ws.map (·.length)).sum + ws.length := by
  rw [TL.len_tl, tl_joinS]
  have h := joinL_len (S := [32]) (ws.map TL.tl)
  rw [List.map_map, List.length_map] at h
  have e : (List.length ∘ TL.tl) = fun z : Str => z.length := by
    funext z
    exact (TL.len_tl z).symm
  rw [e] at h
  simpa using h
theorem join_app {a b : List Str} (ha : a ≠ []) (hb : b ≠ []) : Txt.join sp (a ++ b) = Txt.join sp a ++ (sp ++ Txt.join sp b) := by
  apply TL.ext_tl
  rw [tl_joinS, List.map_append, joinL_app (by simpa using ha) (by simpa using hb), TL.tl_append, TL.tl_append, tl_joinS, tl_joinS, tl_sp]
theorem join_glue {a b : List Str} {x y : Str} : Txt.join sp (a ++ [x]) ++ Txt.join sp (y :: b) = Txt.join sp (a ++ (x ++ y) :: b) := by
  apply TL.ext_tl
  rw [TL.tl_append, tl_joinS, tl_joinS, tl_joinS, List.map_append, List.map_append, List.map_cons, List.map_cons, List.map_cons, List.map_nil, joinL_glue, TL.tl_append]
theorem join_one (z : Str) : Txt.join sp [z] = z := by
  apply TL.ext_tl
  rw [tl_joinS]
  rfl
theorem join_nil : Txt.join sp [] = "" := by
  apply TL.ext_tl
  rw [tl_joinS]
  rfl
theorem app_assoc (a b c : Str) : a ++ b ++ c = a ++ (b ++ c) := by
  apply TL.ext_tl
  simp [TL.tl_append]
theorem app_nil (a : Str) : a ++ ("" : Str) = a := by
  apply TL.ext_tl
  rw [TL.tl_append, show TL.tl ("" : Str) = [] by decide +kernel, List.append_nil]
theorem nil_app (a : Str) : ("" : Str) ++ a = a := by
  apply TL.ext_tl
  rw [TL.tl_append, show TL.tl ("" : Str) = [] by decide +kernel, List.nil_append]
/-- a word that a text may have -/
def wOk (n : Nat) (w : Str) : Bool := decide (w.length ≤ n) && decide (32 ∉ TL.tl w) && PyData.strOk w
theorem wok_vocab : ∀ w ∈ vocab, wOk 16 w = true := by decide +kernel
theorem sum_len {n : Nat} : ∀ {l : List Str}, (∀ w ∈ l, wOk n w = true) → (l.map (·.length)).sum ≤ n * l.length
  | [], _ => by simp
  | w :: l, h => by
    have h1 := h w List.mem_cons_self
    have h2 := sum_len fun z hz => h z (List.mem_cons_of_mem _ hz)
    simp only [wOk, Bool.and_eq_true, decide_eq_true_iff] at h1
    simp only [List.map_cons, List.sum_cons, List.length_cons, Nat.mul_succ]
    omega
theorem txtOf {n : Nat} {ws : List Str} (ne : ws ≠ []) (h : ∀ w ∈ ws, wOk n w = true) (l : (n + 1) * ws.length ≤ 90000) : TxtOf (Txt.join sp ws) ws := by
  have hs := sum_len h
  have hl := len_joinS ws
  rw [Nat.add_mul, Nat.one_mul] at l
  refine ⟨ne, fun w hw => ?_, fun w hw => ?_, rfl, by omega⟩
  · have h1 := h w hw
    simp only [wOk, Bool.and_eq_true, decide_eq_true_iff] at h1
    exact h1.1.2
  · have h1 := h w hw
    simp only [wOk, Bool.and_eq_true, decide_eq_true_iff] at h1
    exact h1.2
/-- no right body for m has this text -/
def Bad (m t : Str) : Prop := ∃ ws, TxtOf t ws ∧ ∀ nd, BdOk m nd → nd.words ≠ ws
theorem bad_word {m t : Str} {ws : List Str} {z : Str} (tx : TxtOf t ws) (hz : z ∈ ws) (hv : z ∉ vocab) : Bad m t := ⟨ws, tx, fun nd ok e => hv ((all_vocab nd true ok.all).2 z (by rw [e]; exact hz))⟩
theorem bad_rd {m t : Str} {ws : List Str} (tx : TxtOf t ws) (h : (rdW 65 ws).map (·.2) ≠ some ws.length) : Bad m t := ⟨ws, tx, fun nd ok e => h (by
  have r := words_rd ok
  rw [e] at r
  rw [r]
  rfl)⟩
theorem bad_long {m t : Str} {ws : List Str} (tx : TxtOf t ws) (h : 64 < ws.length) : Bad m t := ⟨ws, tx, fun nd ok e => by
  have := (bdok_len ok).1
  rw [e] at this
  omega⟩
theorem rd_pre {m : Str} {nd : Nd} (ok : BdOk m nd) (rest : List Str) : rdW 65 (nd.words ++ rest) = some (nd.d, nd.words.length) := rdW_words nd true 65 rest ok.all (by have := (bdok_len ok).1; omega)
section
variable {m : Str} {nd : Nd}
theorem nd_voc (ok : BdOk m nd) : ∀ w ∈ nd.words, w ∈ vocab := (all_vocab nd true ok.all).2
theorem nd_wok (ok : BdOk m nd) : ∀ w ∈ nd.words, wOk 16 w = true := fun w hw => wok_vocab w (nd_voc ok w hw)
theorem nd_ne (ok : BdOk m nd) : nd.words ≠ [] := fun e => by
  have := (bdok_len ok).2
  rw [e] at this
  cases this
theorem nd_txt (ok : BdOk m nd) : TxtOf nd.text nd.words := txtOf (nd_ne ok) (nd_wok ok) (by have := (bdok_len ok).1; omega)
theorem wok_app {n : Nat} {a b : List Str} (ha : ∀ w ∈ a, wOk n w = true) (hb : ∀ w ∈ b, wOk n w = true) : ∀ w ∈ a ++ b, wOk n w = true := fun w hw => (List.mem_append.mp hw).elim (ha w) (hb w)
theorem nil_no : ("" : Str) ∉ vocab := by decide +kernel
theorem wok_nil : ∀ w ∈ ([""] : List Str), wOk 16 w = true := by decide +kernel
/-- text + ' ' -/
theorem bad1 (ok : BdOk m nd) : Bad m (nd.text ++ (" " : Str)) := by
  have e : nd.text ++ (" " : Str) = Txt.join sp (nd.words ++ ([""] : List Str)) := by rw [join_app (nd_ne ok) (by simp), join_one, app_nil]; rfl
  rw [e]
  exact bad_word (z := "") (txtOf (by simp) (wok_app (nd_wok ok) wok_nil) (by have := (bdok_len ok).1; rw [List.length_append]; simp; omega)) (by simp) nil_no
/-- ' ' + text -/
theorem bad2 (ok : BdOk m nd) : Bad m ((" " : Str) ++ nd.text) := by
  have e : (" " : Str) ++ nd.text = Txt.join sp (([""] : List Str) ++ nd.words) := by rw [join_app (by simp) (nd_ne ok), join_one, nil_app]; rfl
  rw [e]
  exact bad_word (z := "") (txtOf (by simp) (wok_app wok_nil (nd_wok ok)) (by have := (bdok_len ok).1; rw [List.length_append]; simp; omega)) (by simp) nil_no
/-- text + ' yes' -/
theorem bad3 (ok : BdOk m nd) : Bad m (nd.text ++ (" yes" : Str)) := by
  have e : nd.text ++ (" yes" : Str) = Txt.join sp (nd.words ++ (["yes"] : List Str)) := by rw [join_app (nd_ne ok) (by simp), join_one]; exact congrArg (nd.text ++ ·) (show (" yes" : Str) = sp ++ "yes" by decide +kernel)
  rw [e]
  refine bad_rd (txtOf (n := 16) (by simp) (wok_app (nd_wok ok) (by decide +kernel)) (by have := (bdok_len ok).1; rw [List.length_append]; simp; omega)) ?_
  rw [rd_pre ok]
  intro h
  have h := Option.some.inj h
  simp at h
theorem nl_no : ∀ w ∈ vocab, w ++ ("\n" : Str) ∉ vocab ∧ wOk 16 (w ++ ("\n" : Str)) = true := by decide +kernel
theorem snoc_of {α : Type} {l : List α} (h : l ≠ []) : ∃ i x, l = i ++ [x] := ⟨l.dropLast, l.getLast h, (List.dropLast_concat_getLast h).symm⟩
/-- text + '\n' -/
theorem bad4 (ok : BdOk m nd) : Bad m (nd.text ++ ("\n" : Str)) := by
  obtain ⟨i, x, e⟩ := snoc_of (nd_ne ok)
  have hx := nd_voc ok x (by rw [e]; simp)
  obtain ⟨n1, n2⟩ := nl_no x hx
  have e2 : nd.text ++ ("\n" : Str) = Txt.join sp (i ++ [x ++ ("\n" : Str)]) := by
    rw [Nd.text, e, ← join_one ("\n" : Str)]
    exact join_glue (b := []) |>.trans (by rw [join_one])
  rw [e2]
  have l := (bdok_len ok).1
  rw [e] at l
  refine bad_word (txtOf (n := 16) (by simp) (wok_app (fun w hw => nd_wok ok w (by rw [e]; simp [hw])) (by simpa using n2)) ?_) (List.mem_append_right _ List.mem_cons_self) n1
  rw [List.length_append] at l ⊢
  simp at l ⊢
  omega
/-- '' -/
theorem bad5 : Bad m ("" : Str) := by
  have e : ("" : Str) = Txt.join sp [""] := (join_one "").symm
  rw [e]
  exact bad_word (z := "") (txtOf (n := 16) (by simp) (by decide +kernel) (by simp)) (by simp) nil_no
theorem fill (a : List Str) : ∃ b, b ≠ [] ∧ Txt.join sp a = Txt.join sp b ∧ (a ≠ [] → b = a) ∧ (a = [] → b = ([""] : List Str)) := by
  cases a with
  | nil => exact ⟨([""] : List Str), by simp, by rw [join_one, join_nil], fun h => absurd rfl h, fun _ => rfl⟩
  | cons x r => exact ⟨x :: r, by simp, rfl, fun _ => rfl, fun h => by cases h⟩
/-- all words but the last -/
theorem bad6 (ok : BdOk m nd) : Bad m (Txt.join sp nd.words.dropLast) := by
  have l := (bdok_len ok).1
  have e := List.dropLast_concat_getLast (nd_ne ok)
  have sub : ∀ w ∈ nd.words.dropLast, w ∈ nd.words := fun w hw => (List.dropLast_sublist _).subset hw
  by_cases h : nd.words.dropLast = []
  · rw [h, join_nil]
    exact bad5
  · refine ⟨nd.words.dropLast, txtOf (n := 16) h (fun w hw => nd_wok ok w (sub w hw)) (by rw [List.length_dropLast]; omega), fun nd2 ok2 e2 => ?_⟩
    have r := words_rd ok
    rw [← e, ← e2, rd_pre ok2] at r
    have r := congrArg Prod.snd (Option.some.inj r)
    simp at r
def headsW : List Str := ["yes", "no", "raise", "further", "decline", "count", "ask", "not", "if"]
theorem two_no : ∀ w ∈ vocab, ∀ u ∈ headsW, w ++ u ∉ vocab ∧ wOk 16 (w ++ u) = true := by decide +kernel
theorem head_w (ok : BdOk m nd) : ∃ u r, nd.words = u :: r ∧ u ∈ headsW := by
  cases nd with
  | word z => exact ⟨z, [], rfl, (show ∀ z ∈ (["yes", "no", "raise", "further", "decline"] : List Str), z ∈ headsW by decide +kernel) z (of_decide_eq_true (show decide (z ∈ (["yes", "no", "raise", "further", "decline"] : List Str)) = true from top_wd (nd := .word z) ok.all))⟩
  | cnt i => exact ⟨_, _, rfl, by decide +kernel⟩
  | ask1 o r => exact ⟨_, _, rfl, by decide +kernel⟩
  | ask2 o r q => exact ⟨_, _, rfl, by decide +kernel⟩
  | no a => exact ⟨_, _, rfl, by decide +kernel⟩
  | iff a b c => exact ⟨_, _, rfl, by decide +kernel⟩
/-- text + text -/
theorem bad7 (ok : BdOk m nd) : Bad m (nd.text ++ nd.text) := by
  obtain ⟨i, x, e⟩ := snoc_of (nd_ne ok)
  obtain ⟨u, r, e2, hu⟩ := head_w ok
  have hx := nd_voc ok x (by rw [e]; simp)
  obtain ⟨n1, n2⟩ := two_no x hx u hu
  have e3 : nd.text ++ nd.text = Txt.join sp (i ++ (x ++ u) :: r) := by
    have h1 : nd.text = Txt.join sp (i ++ [x]) := by rw [Nd.text, e]
    have h2 : nd.text = Txt.join sp (u :: r) := by rw [Nd.text, e2]
    calc nd.text ++ nd.text = Txt.join sp (i ++ [x]) ++ Txt.join sp (u :: r) := by rw [← h1, ← h2]
      _ = _ := join_glue
  rw [e3]
  have l := (bdok_len ok).1
  have l2 := l
  rw [e] at l
  rw [e2] at l2
  refine bad_word (txtOf (n := 16) (by simp) (wok_app (fun w hw => nd_wok ok w (by rw [e]; simp [hw])) fun w hw => ?_) ?_) (List.mem_append_right _ List.mem_cons_self) n1
  · rcases List.mem_cons.mp hw with rfl | hw
    · exact n2
    · exact nd_wok ok w (by rw [e2]; exact List.mem_cons_of_mem _ hw)
  · rw [List.length_append] at l ⊢
    rw [List.length_cons] at l2 ⊢
    simp at l
    omega
/-- a blank more between two words -/
theorem bad8 (ok : BdOk m nd) (k : Nat) : Bad m (Txt.join sp (nd.words.take k) ++ ("  " : Str) ++ Txt.join sp (nd.words.drop k)) := by
  obtain ⟨a, na, ea, a1, a2⟩ := fill (nd.words.take k)
  obtain ⟨b, nb, eb, b1, b2⟩ := fill (nd.words.drop k)
  have l := (bdok_len ok).1
  have wa : (∀ w ∈ a, wOk 16 w = true) ∧ a.length ≤ 64 := by
    by_cases h : nd.words.take k = []
    · rw [a2 h]
      exact ⟨by decide +kernel, by simp⟩
    · rw [a1 h]
      exact ⟨fun w hw => nd_wok ok w (List.mem_of_mem_take hw), by rw [List.length_take]; omega⟩
  have wb : (∀ w ∈ b, wOk 16 w = true) ∧ b.length ≤ 64 := by
    by_cases h : nd.words.drop k = []
    · rw [b2 h]
      exact ⟨by decide +kernel, by simp⟩
    · rw [b1 h]
      exact ⟨fun w hw => nd_wok ok w (List.mem_of_mem_drop hw), by rw [List.length_drop]; omega⟩
  have e : Txt.join sp (nd.words.take k) ++ ("  " : Str) ++ Txt.join sp (nd.words.drop k) = Txt.join sp (a ++ (([""] : List Str) ++ b)) := by
    rw [join_app na (by simp), join_app (by simp) nb, join_one, ea, eb, nil_app, app_assoc]
    congr 1
    rw [← app_assoc sp sp]
    congr 1
  rw [e]
  refine bad_word (z := "") (txtOf (n := 16) (by simp) (wok_app wa.1 (wok_app wok_nil wb.1)) ?_) (by simp) nil_no
  rw [List.length_append, List.length_append]
  have := wa.2
  have := wb.2
  simp
  omega
def fixedB : List Str := ["count 5", "count", "count 03", "count -1", "not", "if yes no", "ask", "ask truth", "maybe"]
def fixedW : List (List Str) := [["count", "5"], ["count"], ["count", "03"], ["count", "-1"], ["not"], ["if", "yes", "no"], ["ask"], ["ask", "truth"], ["maybe"]]
theorem fixed_of {t : Str} {ws : List Str} (ht : t = Txt.join sp ws) (h : (ws.all fun w => wOk 16 w) = true) (ne : ws ≠ []) (l : ws.length ≤ 10) (b : (∃ z ∈ ws, z ∉ vocab) ∨ (rdW 65 ws).map (·.2) ≠ some ws.length) : Bad m t := by
  rw [ht]
  have tx := txtOf (n := 16) ne (fun w hw => List.all_eq_true.mp h w hw) (by omega)
  rcases b with ⟨z, hz, hv⟩ | b
  · exact bad_word tx hz hv
  · exact bad_rd tx b
theorem join_of {t : Str} {ws : List Str} (h : TL.tl t = TL.joinL [32] (ws.map TL.tl)) : t = Txt.join sp ws := TL.ext_tl (by rw [tl_joinS, h])
theorem bad9 : ∀ t ∈ fixedB, Bad m t := by
  intro t ht
  simp only [fixedB, List.mem_cons, List.not_mem_nil, or_false] at ht
  rcases ht with rfl | rfl | rfl | rfl | rfl | rfl | rfl | rfl | rfl
  · exact fixed_of (ws := ["count", "5"]) (join_of (by decide +kernel)) (by decide +kernel) (by simp) (by simp) (.inl ⟨"5", by simp, by decide +kernel⟩)
  · exact fixed_of (ws := ["count"]) (join_of (by decide +kernel)) (by decide +kernel) (by simp) (by simp) (.inr (by decide +kernel))
  · exact fixed_of (ws := ["count", "03"]) (join_of (by decide +kernel)) (by decide +kernel) (by simp) (by simp) (.inl ⟨"03", by simp, by decide +kernel⟩)
  · exact fixed_of (ws := ["count", "-1"]) (join_of (by decide +kernel)) (by decide +kernel) (by simp) (by simp) (.inl ⟨"-1", by simp, by decide +kernel⟩)
  · exact fixed_of (ws := ["not"]) (join_of (by decide +kernel)) (by decide +kernel) (by simp) (by simp) (.inr (by decide +kernel))
  · exact fixed_of (ws := ["if", "yes", "no"]) (join_of (by decide +kernel)) (by decide +kernel) (by simp) (by simp) (.inr (by decide +kernel))
  · exact fixed_of (ws := ["ask"]) (join_of (by decide +kernel)) (by decide +kernel) (by simp) (by simp) (.inr (by decide +kernel))
  · exact fixed_of (ws := ["ask", "truth"]) (join_of (by decide +kernel)) (by decide +kernel) (by simp) (by simp) (.inr (by decide +kernel))
  · exact fixed_of (ws := ["maybe"]) (join_of (by decide +kernel)) (by decide +kernel) (by simp) (by simp) (.inl ⟨"maybe", by simp, by decide +kernel⟩)
theorem bad10 : ∀ t ∈ (["Yes", "(yes)"] : List Str), Bad m t := by
  intro t ht
  simp only [List.mem_cons, List.not_mem_nil, or_false] at ht
  rcases ht with rfl | rfl
  · exact fixed_of (ws := ["Yes"]) (join_of (by decide +kernel)) (by decide +kernel) (by simp) (by simp) (.inl ⟨"Yes", by simp, by decide +kernel⟩)
  · exact fixed_of (ws := ["(yes)"]) (join_of (by decide +kernel)) (by decide +kernel) (by simp) (by simp) (.inl ⟨"(yes)", by simp, by decide +kernel⟩)
theorem nots_ok (n : Nat) {z : Str} (h : wOk 16 z = true) : ∀ w ∈ List.replicate n ("not" : Str) ++ [z], wOk 16 w = true := wok_app (fun w hw => by
  obtain rfl := (List.mem_replicate.mp hw).2
  decide +kernel) (by simpa using h)
theorem bad11 {n : Nat} (h : n ≤ 1200) : Bad m (Txt.join sp (List.replicate n ("not" : Str) ++ (["maybe"] : List Str))) :=
  bad_word (z := "maybe") (txtOf (n := 16) (by simp) (nots_ok n (by decide +kernel)) (by rw [List.length_append, List.length_replicate]; simp; omega)) (by simp) (by decide +kernel)
theorem bad12 : Bad m (Txt.join sp (List.replicate 1200 ("not" : Str) ++ (["yes"] : List Str))) :=
  bad_long (txtOf (n := 16) (by simp) (nots_ok 1200 (by decide +kernel)) (by rw [List.length_append, List.length_replicate]; simp)) (by rw [List.length_append, List.length_replicate]; simp)
end
end Ab
namespace Ab
open PySem.Spec PyProof.Rows
local macro_rules | `(tactic| walk_at "rd") => `(tactic| (with_reducible first | refine Rd.tt_ ?_ | refine Rd.ff_ ?_))
theorem cut_take {xs : List V} {n : Nat} (h : n ≤ xs.length) : cutV xs none (some (n : Int)) = xs.take n := by
  unfold cutV
  rw [HT.sIx_none, HT.sIx_nat, Nat.min_eq_left h]
  simp
theorem cut_drop {xs : List V} {n : Nat} (h : n ≤ xs.length) : cutV xs (some (n : Int)) none = xs.drop n := by
  unfold cutV
  rw [HT.sIx_none, HT.sIx_nat, Nat.min_eq_left h, List.take_of_length_le (by rw [List.length_drop]; omega)]
theorem cut_last (xs : List V) : cutV xs none (some (-1)) = xs.dropLast := by
  unfold cutV
  rw [HT.sIx_none]
  show List.take ((if (-1 : Int) < 0 then ((-1 : Int) + (xs.length : Int)).toNat else min (-1 : Int).toNat xs.length) - 0) (List.drop 0 xs) = _
  rw [if_pos (by decide), List.drop_zero, List.dropLast_eq_take]
  congr 1
  omega
theorem rep_str (n : Nat) (z : Str) : (List.replicate n [V.str z]).flatten = (List.replicate n z).map V.str := by
  induction n with
  | zero => rfl
  | succ n ih => rw [List.replicate_succ, List.replicate_succ, List.flatten_cons, ih]; rfl
theorem join_b {ws : List Str} (w : ∀ z ∈ ws, z.length ≤ 16) (l : ws.length ≤ 2000) : (ws.map (·.length)).sum + ws.length * sp.length ≤ 16777216 := by
  have e : sp.length = 1 := by decide +kernel
  have : (ws.map (·.length)).sum ≤ 16 * ws.length := by
    clear l
    induction ws with
    | nil => simp
    | cons a r ih =>
      have h1 := w a List.mem_cons_self
      have h2 := ih fun z hz => w z (List.mem_cons_of_mem _ hz)
      simp only [List.map_cons, List.sum_cons, List.length_cons]
      omega
  rw [e]
  omega
theorem nd_w16 {m : Str} {nd : Nd} (ok : BdOk m nd) : ∀ z ∈ nd.words, z.length ≤ 16 := fun z hz => by
  have := (vocab_ok z (nd_voc ok z hz)).1
  omega
theorem nots_16 (n : Nat) {z : Str} (h : z.length ≤ 16) : ∀ w ∈ List.replicate n ("not" : Str) ++ [z], w.length ≤ 16 := fun w hw => by
  rcases List.mem_append.mp hw with hw | hw
  · obtain rfl := (List.mem_replicate.mp hw).2
    exact (show ("not" : Str).length ≤ 16 by decide +kernel)
  · obtain rfl := List.mem_singleton.mp hw
    exact h
theorem keep_mut {p L : Addr} {H H' : Hp} {o : HO} (k : Keep p H H') (hL : H L = none) : Keep p H (upd H' L o) := fun a u ne e => by
  rw [upd_ne (ne_of_none e hL)]
  exact k a u ne e
section
variable {P : Program} {w : World} {K : PySem.W.Frag} {mg : Str → Option Value} {base : Heap}
abbrev sL_bent : Stmt := top 56
abbrev nL_bent : List Str := ["_law_pool_here", "_law_text", "_law_words", "_law_at", "_law_found"]
theorem scL_bent : FnScope nL_bent ["_law_pool_here", "_law_text"] (defScope sL_bent) := ⟨rfl, rfl, rfl, by decide +kernel, rfl, by decide +kernel, by decide +kernel⟩
def spBent (K : PySem.W.Frag) : Sp := fun vs H Q _ => ∃ (p : Addr) (x y : Int) (m : Str) (nd : Nd), vs = [.ref p, .str nd.text] ∧ H p = some (.lst [.int x, .int y]) ∧ PoolOk x y ∧ BdOk m nd ∧
  ∀ (L : Addr) (ts : List Str) H' x' y', Keep p H H' → H' p = some (.lst [.int x', .int y']) → PoolOk x' y' → L ≠ p → H' L = some (.lst (ts.map V.str)) → (∀ t ∈ ts, Bad m t) → ts.length = 21 → Q (.ref L) H'
set_option pp.maxSteps 3000 in
theorem ok_bent (T : Txt K mg) (D : DefAt K mg "_law_bent" sL_bent ["_law_pool_here", "_law_text"]) (CL_take : CalG P w K mg base 1 "_law_take" spTake) : CalG P w K mg base 2 "_law_bent" (spBent K) := by
  refine D.by scL_bent (fun vs H Q E h => ?_) (fun f cd A hg outer s H vs Q E hr h => ?_)
  · obtain ⟨_, _, _, _, _, rfl, _⟩ := h
    rfl
  · obtain ⟨p, x, y, m, nd, rfl, hp, ok, bk, q⟩ := h
    have tx := nd_txt bk
    have tl : nd.text.length ≤ 2000 := by
      have h1 := len_joinS nd.words
      have h2 := sum_len (nd_wok bk)
      have h3 := (bdok_len bk).1
      show (Txt.join sp nd.words).length ≤ _
      omega
    have wl := (bdok_len bk).1
    have w16 := nd_w16 bk
    refine ⟨_, (pss_cons (ps_set (i := 2) scL_bent.nd rfl (Or.inl rfl) (pe_split (pv 1) pe_str))
  (pss_cons (ps_set (i := 3) scL_bent.nd rfl (Or.inl rfl) (pe_cG CL_take hg hr (by decide) (pa_cons (pv 0) (pa_cons (pe_op op_add (pe_callB (r := Rd.rLenK K) Rd.callLen (by rfl) T.len PySem.boot_len (pa_cons (pv 2) pa_nil)) pe_int) pa_nil))))
  (pss_cons (ps_set (i := 4) scL_bent.nd rfl (Or.inl rfl) (pe_lst (pa_cons (pe_op op_add_str (pv 1) pe_str) (pa_cons (pe_op op_add_str pe_str (pv 1)) (pa_cons (pe_op op_add_str (pv 1) pe_str) (pa_cons (pe_op op_add_str (pv 1) pe_str) (pa_cons pe_str (pa_cons (pe_join pe_str (pe_slice (r := rSlL K) sl_list (pv 2) po_none (po_some (pe_un un_neg pe_int)))) (pa_cons (pe_op op_add_str (pv 1) (pv 1)) pa_nil)))))))))
  (pss_cons (ps_expr (pe_bm PySem.F.plainAttrs_list PySem.F.slot_list_append PySem.F.type_list_append mt_append (pv 4) (pa_cons (pe_op op_add_str (pe_op op_add_str (pe_join pe_str (pe_slice (r := rSlL K) sl_list (pv 2) po_none (po_some (pv 3)))) pe_str) (pe_join pe_str (pe_slice (r := rSlL K) sl_list (pv 2) (po_some (pv 3)) po_none))) pa_nil)))
  (pss_cons (ps_set (i := 4) scL_bent.nd rfl (Or.inl rfl) (pe_op op_cat (pv 4) (pe_lst (pa_cons pe_str (pa_cons pe_str (pa_cons pe_str (pa_cons pe_str (pa_cons pe_str (pa_cons pe_str (pa_cons pe_str (pa_cons pe_str (pa_cons pe_str pa_nil))))))))))))
  (pss_cons (ps_expr (pe_bm PySem.F.plainAttrs_list PySem.F.slot_list_append PySem.F.type_list_append mt_append (pv 4) (pa_cons (pe_join pe_str (pe_op op_cat (pe_op op_rep (pe_lst (pa_cons pe_str pa_nil)) (pe_op op_add pe_int (pe_cG CL_take hg hr (by decide) (pa_cons (pv 0) (pa_cons pe_int pa_nil))))) (pe_lst (pa_cons pe_str pa_nil)))) pa_nil)))
  (pss_one (ps_ret (pe_op op_cat (pv 4) (pe_lst (pa_cons (pe_join pe_str (pe_op op_cat (pe_op op_rep (pe_lst (pa_cons pe_str pa_nil)) pe_int) (pe_lst (pa_cons pe_str pa_nil)))) (pa_cons pe_str (pa_cons pe_str pa_nil))))))))))))), ?_⟩
    repeat walk_at "rd"
    refine ⟨nd.text, " ", rfl, rfl, by decide +kernel, Rd.sz (by omega), fun W hW => ?_⟩
    rw [tx.split]
    have S1 := Rd.sNew (o := .lst (nd.words.map V.str)) hW
    have eW : upd H W (.lst (nd.words.map V.str)) W = some (.lst (nd.words.map V.str)) := upd_same
    have hp1 := S1 _ _ hp
    have nW : W ≠ p := fun e => by rw [e, hp] at hW; cases hW
    generalize upd H W (.lst (nd.words.map V.str)) = H1 at S1 eW hp1 ⊢
    repeat walk_at "rd"
    refine ⟨p, x, y, _, rfl, hp1, ok, by rw [List.length_map]; omega, by rw [List.length_map]; omega, fun c x2 y2 ok2 c0 c1 => ?_⟩
    rw [List.length_map] at c1
    have K2 : Keep p H1 (upd H1 p (.lst [.int x2, .int y2])) := Keep.put (fun _ _ _ e => e)
    have hp2 : upd H1 p (.lst [.int x2, .int y2]) p = some (.lst [.int x2, .int y2]) := upd_same
    have K02 := (Keep.same (p := p) S1).trans K2
    have eW := K2 _ _ nW eW
    generalize upd H1 p (.lst [.int x2, .int y2]) = H2 at K2 hp2 K02 eW ⊢
    clear S1 K2 hp1
    obtain ⟨n, rfl⟩ : ∃ n : Nat, c = n := ⟨c.toNat, by omega⟩
    have nl : n ≤ (nd.words.map V.str).length := by rw [List.length_map]; omega
    have l1 : (" " : Str).length ≤ 10 := by decide +kernel
    have l2 : (" yes" : Str).length ≤ 10 := by decide +kernel
    have l3 : ("\n" : Str).length ≤ 10 := by decide +kernel
    have l4 : ("  " : Str).length ≤ 10 := by decide +kernel
    repeat walk_at "rd"
    refine Rd.adds (by omega) ?_
    repeat walk_at "rd"
    refine Rd.adds (by omega) ?_
    repeat walk_at "rd"
    refine Rd.adds (by omega) ?_
    repeat walk_at "rd"
    refine Rd.adds (by omega) ?_
    repeat walk_at "rd"
    refine Rd.slL (SqL.of eW) fun s1 hs1 => ?_
    rw [cut_last, ← List.map_dropLast]
    have S3 := Rd.sNew (o := .lst (nd.words.dropLast.map V.str)) hs1
    have e3 : upd H2 s1 (.lst (nd.words.dropLast.map V.str)) s1 = some (.lst (nd.words.dropLast.map V.str)) := upd_same
    have eW := S3 _ _ eW
    have hp3 := S3 _ _ hp2
    have K03 := K02.trans (Keep.same S3)
    generalize upd H2 s1 (.lst (nd.words.dropLast.map V.str)) = H3 at S3 e3 hp3 eW K03 ⊢
    clear K02 S3 hp2
    refine ⟨sp, s1, nd.words.dropLast, rfl, rfl, .inl (SqL.of e3), join_b (fun z hz => w16 z ((List.dropLast_sublist _).subset hz)) (by rw [List.length_dropLast]; omega), ?_⟩
    repeat walk_at "rd"
    refine Rd.adds (by omega) ?_
    repeat walk_at "rd"
    refine ⟨Rd.sz (by simp), fun L hL => ?_⟩
    have S4 := Rd.sNew (o := .lst (([nd.text ++ (" " : Str), (" " : Str) ++ nd.text, nd.text ++ (" yes" : Str), nd.text ++ ("\n" : Str), "", Txt.join sp nd.words.dropLast, nd.text ++ nd.text] : List Str).map V.str)) hL
    have b1 : ∀ t ∈ ([nd.text ++ (" " : Str), (" " : Str) ++ nd.text, nd.text ++ (" yes" : Str), nd.text ++ ("\n" : Str), "", Txt.join sp nd.words.dropLast, nd.text ++ nd.text] : List Str), Bad m t := by
      intro t ht
      simp only [List.mem_cons, List.not_mem_nil, or_false] at ht
      rcases ht with rfl | rfl | rfl | rfl | rfl | rfl | rfl
      · exact bad1 bk
      · exact bad2 bk
      · exact bad3 bk
      · exact bad4 bk
      · exact bad5
      · exact bad6 bk
      · exact bad7 bk
    have n1 : ([nd.text ++ (" " : Str), (" " : Str) ++ nd.text, nd.text ++ (" yes" : Str), nd.text ++ ("\n" : Str), "", Txt.join sp nd.words.dropLast, nd.text ++ nd.text] : List Str).length = 7 := rfl
    have e4 : upd H3 L (.lst (([nd.text ++ (" " : Str), (" " : Str) ++ nd.text, nd.text ++ (" yes" : Str), nd.text ++ ("\n" : Str), "", Txt.join sp nd.words.dropLast, nd.text ++ nd.text] : List Str).map V.str)) L = some (.lst (([nd.text ++ (" " : Str), (" " : Str) ++ nd.text, nd.text ++ (" yes" : Str), nd.text ++ ("\n" : Str), "", Txt.join sp nd.words.dropLast, nd.text ++ nd.text] : List Str).map V.str)) := upd_same
    show gName _ _ _ (upd H3 L (.lst (([nd.text ++ (" " : Str), (" " : Str) ++ nd.text, nd.text ++ (" yes" : Str), nd.text ++ ("\n" : Str), "", Txt.join sp nd.words.dropLast, nd.text ++ nd.text] : List Str).map V.str))) _
    generalize ([nd.text ++ (" " : Str), (" " : Str) ++ nd.text, nd.text ++ (" yes" : Str), nd.text ++ ("\n" : Str), "", Txt.join sp nd.words.dropLast, nd.text ++ nd.text] : List Str) = ts at S4 b1 n1 e4 ⊢
    have nL : L ≠ p := fun e => by rw [e, hp3] at hL; cases hL
    have nHL : H L = none := by
      cases z : H L with
      | none => rfl
      | some u => rw [K03 _ _ nL z] at hL; cases hL
    have nWL : W ≠ L := ne_of_none eW hL
    have eW := S4 _ _ eW
    have hp4 := S4 _ _ hp3
    have K04 := K03.trans (Keep.same S4)
    generalize upd H3 L (.lst (ts.map V.str)) = H4 at S4 e4 hp4 eW K04 ⊢
    clear S4 K03 hp3 e3 hL hs1 hW
    repeat walk_at "rd"
    refine ⟨Rd.ty_list e4, ?_⟩
    repeat walk_at "rd"
    refine Rd.slL (SqL.of eW) fun s5 hs5 => ?_
    rw [cut_take nl, ← List.map_take]
    have S5 := Rd.sNew (o := .lst ((nd.words.take n).map V.str)) hs5
    have e5 : upd H4 s5 (.lst ((nd.words.take n).map V.str)) s5 = some (.lst ((nd.words.take n).map V.str)) := upd_same
    have eW := S5 _ _ eW
    have hp5 := S5 _ _ hp4
    have e4 := S5 _ _ e4
    have K05 := K04.trans (Keep.same S5)
    generalize upd H4 s5 (.lst ((nd.words.take n).map V.str)) = H5 at S5 e4 e5 hp5 eW K05 ⊢
    clear S5 hs5
    have lt1 : (Txt.join sp (nd.words.take n)).length ≤ 2000 := by
      have h1 := len_joinS (nd.words.take n)
      have h2 := sum_len (n := 16) (l := nd.words.take n) fun w hw => nd_wok bk w (List.mem_of_mem_take hw)
      have h3 : (nd.words.take n).length ≤ 64 := by rw [List.length_take]; omega
      omega
    have lt2 : (Txt.join sp (nd.words.drop n)).length ≤ 2000 := by
      have h1 := len_joinS (nd.words.drop n)
      have h2 := sum_len (n := 16) (l := nd.words.drop n) fun w hw => nd_wok bk w (List.mem_of_mem_drop hw)
      have h3 : (nd.words.drop n).length ≤ 64 := by rw [List.length_drop]; omega
      omega
    have lt3 : (Txt.join sp (nd.words.take n) ++ ("  " : Str)).length ≤ 2010 := by
      rw [TL.len_tl, TL.tl_append, List.length_append, ← TL.len_tl, ← TL.len_tl]
      omega
    refine ⟨sp, s5, nd.words.take n, rfl, rfl, .inl (SqL.of e5), join_b (fun z hz => w16 z (List.mem_of_mem_take hz)) (by rw [List.length_take]; omega), ?_⟩
    repeat walk_at "rd"
    refine Rd.adds (by omega) ?_
    repeat walk_at "rd"
    refine Rd.slL (SqL.of eW) fun s6 hs6 => ?_
    rw [cut_drop nl, ← List.map_drop]
    have S6 := Rd.sNew (o := .lst ((nd.words.drop n).map V.str)) hs6
    have e6 : upd H5 s6 (.lst ((nd.words.drop n).map V.str)) s6 = some (.lst ((nd.words.drop n).map V.str)) := upd_same
    have hp6 := S6 _ _ hp5
    have e4 := S6 _ _ e4
    have K06 := K05.trans (Keep.same S6)
    generalize upd H5 s6 (.lst ((nd.words.drop n).map V.str)) = H6 at S6 e4 e6 hp6 K06 ⊢
    clear S6 hs6 eW e5 hp5 K05
    refine ⟨sp, s6, nd.words.drop n, rfl, rfl, .inl (SqL.of e6), join_b (fun z hz => w16 z (List.mem_of_mem_drop hz)) (by rw [List.length_drop]; omega), ?_⟩
    refine Rd.adds (by omega) ?_
    repeat walk_at "rd"
    have b2 := bad8 bk n
    refine Rd.app e4 (Rd.szl (by rw [List.length_map]; omega)) ?_
    generalize Txt.join sp (nd.words.take n) ++ ("  " : Str) ++ Txt.join sp (nd.words.drop n) = t8 at b2 ⊢
    have em : ts.map V.str ++ [V.str t8] = (ts ++ [t8]).map V.str := by rw [List.map_append]; rfl
    rw [em]
    have e7 : upd H6 L (.lst ((ts ++ [t8]).map V.str)) L = some (.lst ((ts ++ [t8]).map V.str)) := upd_same
    have hp7 : upd H6 L (.lst ((ts ++ [t8]).map V.str)) p = some (.lst [.int x2, .int y2]) := by rw [upd_ne (Ne.symm nL)]; exact hp6
    have K07 : Keep p H (upd H6 L (.lst ((ts ++ [t8]).map V.str))) := keep_mut K06 nHL
    have b3 : ∀ t ∈ ts ++ [t8], Bad m t := fun t ht => (List.mem_append.mp ht).elim (b1 t) fun h => by
      obtain rfl := List.mem_singleton.mp h
      exact b2
    have n3 : (ts ++ [t8]).length = 8 := by rw [List.length_append, n1]; rfl
    generalize upd H6 L (.lst ((ts ++ [t8]).map V.str)) = H7 at e7 hp7 K07 ⊢
    generalize ts ++ [t8] = us at e7 b3 n3 ⊢
    clear K06 hp6 e6 e4 em b1 b2 n1 nHL K04 hp4
    repeat walk_at "rd"
    refine ⟨Rd.sz (by simp), fun s8 hs8 => ?_⟩
    have S8 := Rd.sNew (o := .lst (fixedB.map V.str)) hs8
    have e8 : upd H7 s8 (.lst (fixedB.map V.str)) s8 = some (.lst (fixedB.map V.str)) := upd_same
    have e7 := S8 _ _ e7
    have hp8 := S8 _ _ hp7
    have K08 := K07.trans (Keep.same S8)
    show rCat _ _ (upd H7 s8 (.lst (fixedB.map V.str))) _
    generalize upd H7 s8 (.lst (fixedB.map V.str)) = H8 at S8 e7 e8 hp8 K08 ⊢
    refine Rd.cat e7 e8 (Rd.sz (by rw [List.length_map, List.length_map, n3]; decide)) fun M hM => ?_
    rw [← List.map_append]
    have S9 := Rd.sNew (o := .lst ((us ++ fixedB).map V.str)) hM
    have e9 : upd H8 M (.lst ((us ++ fixedB).map V.str)) M = some (.lst ((us ++ fixedB).map V.str)) := upd_same
    have hp9 := S9 _ _ hp8
    have K09 := K08.trans (Keep.same S9)
    have nM : M ≠ p := fun e => by rw [e, hp8] at hM; cases hM
    have nHM : H M = none := by
      cases z : H M with
      | none => rfl
      | some u => rw [K08 _ _ nM z] at hM; cases hM
    have b4 : ∀ t ∈ us ++ fixedB, Bad m t := fun t ht => (List.mem_append.mp ht).elim (b3 t) (bad9 t)
    have n4 : (us ++ fixedB).length = 17 := by rw [List.length_append, n3]; rfl
    generalize upd H8 M (.lst ((us ++ fixedB).map V.str)) = H9 at S9 e9 hp9 K09 ⊢
    generalize us ++ fixedB = ts at e9 b4 n4 ⊢
    clear S8 S9 e7 e8 hp8 hp7 K08 K07 hM hs8 b3 n3 nL
    repeat walk_at "rd"
    refine ⟨Rd.ty_list e9, ?_⟩
    repeat walk_at "rd"
    refine ⟨Rd.sz (by simp), fun s10 hs10 => ?_⟩
    have S10 := Rd.sNew (o := .lst [.str "not"]) hs10
    have e10 : upd H9 s10 (.lst [.str "not"]) s10 = some (.lst [.str "not"]) := upd_same
    have e9 := S10 _ _ e9
    have n10 : s10 ≠ p := fun e => by rw [e, hp9] at hs10; cases hs10
    have hp10 := S10 _ _ hp9
    have K010 := K09.trans (Keep.same S10)
    generalize upd H9 s10 (.lst [.str "not"]) = H10 at S10 e9 e10 hp10 K010 ⊢
    clear S10 hs10 hp9 K09
    repeat walk_at "rd"
    refine ⟨p, x2, y2, 1200, rfl, hp10, ok2, by decide, by decide, fun d x3 y3 ok3 d0 d1 => ?_⟩
    have K11 : Keep p H10 (upd H10 p (.lst [.int x3, .int y3])) := Keep.put (fun _ _ _ e => e)
    have hp11 : upd H10 p (.lst [.int x3, .int y3]) p = some (.lst [.int x3, .int y3]) := upd_same
    have K011 := K010.trans K11
    have e9 := K11 _ _ nM e9
    have e10 := K11 _ _ n10 e10
    generalize upd H10 p (.lst [.int x3, .int y3]) = H11 at K11 hp11 e9 e10 K011 ⊢
    clear K11 hp10 K010
    obtain ⟨k, rfl⟩ : ∃ k : Nat, d = k := ⟨d.toNat, by omega⟩
    repeat walk_at "rd"
    refine ⟨s10, _, _, rfl, rfl, e10, by omega, by omega, Rd.sz (by simp; omega), fun s12 hs12 => ?_⟩
    rw [show ((1 : Int) + (k : Int)).toNat = 1 + k by omega, rep_str]
    have S12 := Rd.sNew (o := .lst ((List.replicate (1 + k) ("not" : Str)).map V.str)) hs12
    have e12 : upd H11 s12 (.lst ((List.replicate (1 + k) ("not" : Str)).map V.str)) s12 = some (.lst ((List.replicate (1 + k) ("not" : Str)).map V.str)) := upd_same
    have e9 := S12 _ _ e9
    have hp12 := S12 _ _ hp11
    have K012 := K011.trans (Keep.same S12)
    generalize upd H11 s12 (.lst ((List.replicate (1 + k) ("not" : Str)).map V.str)) = H12 at S12 e12 e9 hp12 K012 ⊢
    clear S12 hs12 hp11 K011 e10
    repeat walk_at "rd"
    refine ⟨Rd.sz (by simp), fun s13 hs13 => ?_⟩
    have S13 := Rd.sNew (o := .lst ((["maybe"] : List Str).map V.str)) hs13
    have e13 : upd H12 s13 (.lst ((["maybe"] : List Str).map V.str)) s13 = some (.lst ((["maybe"] : List Str).map V.str)) := upd_same
    have e9 := S13 _ _ e9
    have e12 := S13 _ _ e12
    have hp13 := S13 _ _ hp12
    have K013 := K012.trans (Keep.same S13)
    show rCat _ _ (upd H12 s13 (.lst ((["maybe"] : List Str).map V.str))) _
    generalize upd H12 s13 (.lst ((["maybe"] : List Str).map V.str)) = H13 at S13 e13 e12 e9 hp13 K013 ⊢
    clear S13 hs13 hp12 K012
    refine Rd.cat e12 e13 (Rd.sz (by rw [List.length_map, List.length_replicate]; simp; omega)) fun s14 hs14 => ?_
    rw [← List.map_append]
    have S14 := Rd.sNew (o := .lst ((List.replicate (1 + k) ("not" : Str) ++ (["maybe"] : List Str)).map V.str)) hs14
    have e14 : upd H13 s14 (.lst ((List.replicate (1 + k) ("not" : Str) ++ (["maybe"] : List Str)).map V.str)) s14 = some (.lst ((List.replicate (1 + k) ("not" : Str) ++ (["maybe"] : List Str)).map V.str)) := upd_same
    have e9 := S14 _ _ e9
    have hp14 := S14 _ _ hp13
    have K014 := K013.trans (Keep.same S14)
    generalize upd H13 s14 (.lst ((List.replicate (1 + k) ("not" : Str) ++ (["maybe"] : List Str)).map V.str)) = H14 at S14 e14 e9 hp14 K014 ⊢
    clear S14 hs14 hp13 K013 e13 e12
    have w13 : (List.replicate (1 + k) ("not" : Str) ++ (["maybe"] : List Str)).length ≤ 2000 := by rw [List.length_append, List.length_replicate]; simp; omega
    have b5 : Bad m (Txt.join sp (List.replicate (1 + k) ("not" : Str) ++ (["maybe"] : List Str))) := bad11 (by omega)
    refine ⟨sp, s14, _, rfl, rfl, .inl (SqL.of e14), join_b (nots_16 _ (by decide +kernel)) w13, ?_⟩
    generalize Txt.join sp (List.replicate (1 + k) ("not" : Str) ++ (["maybe"] : List Str)) = t10 at b5 ⊢
    clear w13 e14
    repeat walk_at "rd"
    refine Rd.app e9 (Rd.szl (by rw [List.length_map]; omega)) ?_
    have em : ts.map V.str ++ [V.str t10] = (ts ++ [t10]).map V.str := by rw [List.map_append]; rfl
    rw [em]
    have e15 : upd H14 M (.lst ((ts ++ [t10]).map V.str)) M = some (.lst ((ts ++ [t10]).map V.str)) := upd_same
    have hp15 : upd H14 M (.lst ((ts ++ [t10]).map V.str)) p = some (.lst [.int x3, .int y3]) := by rw [upd_ne (Ne.symm nM)]; exact hp14
    have K015 : Keep p H (upd H14 M (.lst ((ts ++ [t10]).map V.str))) := keep_mut K014 nHM
    have b6 : ∀ t ∈ ts ++ [t10], Bad m t := fun t ht => (List.mem_append.mp ht).elim (b4 t) fun h => by
      obtain rfl := List.mem_singleton.mp h
      exact b5
    have n6 : (ts ++ [t10]).length = 18 := by rw [List.length_append, n4]; rfl
    generalize upd H14 M (.lst ((ts ++ [t10]).map V.str)) = H15 at e15 hp15 K015 ⊢
    generalize ts ++ [t10] = us at e15 b6 n6 ⊢
    clear K014 hp14 e9 em b5 b4 n4 nHM
    repeat walk_at "rd"
    refine ⟨Rd.sz (by simp), fun s16 hs16 => ?_⟩
    have S16 := Rd.sNew (o := .lst [.str "not"]) hs16
    have e16 : upd H15 s16 (.lst [.str "not"]) s16 = some (.lst [.str "not"]) := upd_same
    have e15 := S16 _ _ e15
    have hp16 := S16 _ _ hp15
    have K016 := K015.trans (Keep.same S16)
    generalize upd H15 s16 (.lst [.str "not"]) = H16 at S16 e15 e16 hp16 K016 ⊢
    clear S16 hs16 hp15 K015
    repeat walk_at "rd"
    refine ⟨s16, _, _, rfl, rfl, e16, by decide, by decide, Rd.sz (by decide), fun s17 hs17 => ?_⟩
    rw [show Int.toNat 1200 = 1200 from rfl, rep_str]
    have w17 : (List.replicate 1200 ("not" : Str)).length = 1200 := List.length_replicate
    have w18 : (List.replicate 1200 ("not" : Str) ++ (["yes"] : List Str)).length ≤ 2000 := by rw [List.length_append, w17]; decide
    have w19 := nots_16 1200 (z := "yes") (by decide +kernel)
    have b7 : Bad m (Txt.join sp (List.replicate 1200 ("not" : Str) ++ (["yes"] : List Str))) := bad12
    generalize List.replicate 1200 ("not" : Str) = nots at w17 w18 w19 b7 ⊢
    have S17 := Rd.sNew (o := .lst (nots.map V.str)) hs17
    have e17 : upd H16 s17 (.lst (nots.map V.str)) s17 = some (.lst (nots.map V.str)) := upd_same
    have e15 := S17 _ _ e15
    have hp17 := S17 _ _ hp16
    have K017 := K016.trans (Keep.same S17)
    generalize upd H16 s17 (.lst (nots.map V.str)) = H17 at S17 e17 e15 hp17 K017 ⊢
    clear S17 hs17 hp16 K016 e16
    repeat walk_at "rd"
    refine ⟨Rd.sz (by simp), fun s18 hs18 => ?_⟩
    have S18 := Rd.sNew (o := .lst ((["yes"] : List Str).map V.str)) hs18
    have e18 : upd H17 s18 (.lst ((["yes"] : List Str).map V.str)) s18 = some (.lst ((["yes"] : List Str).map V.str)) := upd_same
    have e15 := S18 _ _ e15
    have e17 := S18 _ _ e17
    have hp18 := S18 _ _ hp17
    have K018 := K017.trans (Keep.same S18)
    show rCat _ _ (upd H17 s18 (.lst ((["yes"] : List Str).map V.str))) _
    generalize upd H17 s18 (.lst ((["yes"] : List Str).map V.str)) = H18 at S18 e18 e17 e15 hp18 K018 ⊢
    clear S18 hs18 hp17 K017
    refine Rd.cat e17 e18 (Rd.sz (by rw [List.length_map, w17]; decide)) fun s19 hs19 => ?_
    rw [← List.map_append]
    have S19 := Rd.sNew (o := .lst ((nots ++ (["yes"] : List Str)).map V.str)) hs19
    have e19 : upd H18 s19 (.lst ((nots ++ (["yes"] : List Str)).map V.str)) s19 = some (.lst ((nots ++ (["yes"] : List Str)).map V.str)) := upd_same
    have e15 := S19 _ _ e15
    have hp19 := S19 _ _ hp18
    have K019 := K018.trans (Keep.same S19)
    generalize upd H18 s19 (.lst ((nots ++ (["yes"] : List Str)).map V.str)) = H19 at S19 e19 e15 hp19 K019 ⊢
    clear S19 hs19 hp18 K018 e18 e17
    refine ⟨sp, s19, _, rfl, rfl, .inl (SqL.of e19), join_b w19 w18, ?_⟩
    generalize Txt.join sp (nots ++ (["yes"] : List Str)) = t11 at b7 ⊢
    repeat walk_at "rd"
    refine ⟨Rd.sz (by simp), fun s20 hs20 => ?_⟩
    have S20 := Rd.sNew (o := .lst (([t11, "Yes", "(yes)"] : List Str).map V.str)) hs20
    have e20 : upd H19 s20 (.lst (([t11, "Yes", "(yes)"] : List Str).map V.str)) s20 = some (.lst (([t11, "Yes", "(yes)"] : List Str).map V.str)) := upd_same
    have e15 := S20 _ _ e15
    have hp20 := S20 _ _ hp19
    have K020 := K019.trans (Keep.same S20)
    show rCat _ _ (upd H19 s20 (.lst (([t11, "Yes", "(yes)"] : List Str).map V.str))) _
    generalize upd H19 s20 (.lst (([t11, "Yes", "(yes)"] : List Str).map V.str)) = H20 at S20 e20 e15 hp20 K020 ⊢
    refine Rd.cat e15 e20 (Rd.sz (by rw [List.length_map, List.length_map, n6]; simp)) fun s21 hs21 => ?_
    rw [← List.map_append]
    have S21 := Rd.sNew (o := .lst ((us ++ ([t11, "Yes", "(yes)"] : List Str)).map V.str)) hs21
    refine q s21 _ _ x3 y3 (K020.trans (Keep.same S21)) (S21 _ _ hp20) ok3 (fun e => by rw [e, hp20] at hs21; cases hs21) upd_same (fun t ht => ?_) (by rw [List.length_append, n6]; rfl)
    rcases List.mem_append.mp ht with ht | ht
    · exact b6 t ht
    · rcases List.mem_cons.mp ht with rfl | ht
      · exact b7
      · exact bad10 t ht
end
end Ab
namespace Ab
open PySem.Spec PyProof.Rows
mutual
theorem okU_lay : ∀ d : PyData, okU d = true → PyData.canLay0 d = true
  | .none, _ => by simp [PyData.canLay0]
  | .bool b, _ => by simp [PyData.canLay0]
  | .int i, _ => by simp [PyData.canLay0]
  | .str z, h => by simpa [PyData.canLay0, okU] using h
  | .list xs, h => by simpa [PyData.canLay0] using okUA_lay xs (by simpa [okU] using h)
  | .tuple xs, h => by simpa [PyData.canLay0] using okUA_lay xs (by simpa [okU] using h)
  | .dict xs, h => by simp [okU] at h
theorem okUA_lay : ∀ ds : List PyData, okUA ds = true → PyData.canLayAll0 ds = true
  | [], _ => by simp [PyData.canLayAll0]
  | x :: xs, h => by
    rw [okUA, Bool.and_eq_true] at h
    simp [PyData.canLayAll0, okU_lay x h.1, okUA_lay xs h.2]
end
theorem nd_depth : ∀ nd : Nd, PyData.depth nd.d ≤ nd.dep
  | .word z => by simp [Nd.d, Nd.dep, PyData.depth, PyData.depthAll]
  | .cnt i => by simp [Nd.d, Nd.dep, PyData.depth, PyData.depthAll]
  | .ask1 o r => by simp [Nd.d, Nd.dep, PyData.depth, PyData.depthAll]
  | .ask2 o r q => by simp [Nd.d, Nd.dep, PyData.depth, PyData.depthAll]
  | .no a => by
    have := nd_depth a
    simp only [Nd.d, Nd.dep, PyData.depth, PyData.depthAll]
    omega
  | .iff a b c => by
    have := nd_depth a
    have := nd_depth b
    have := nd_depth c
    simp only [Nd.d, Nd.dep, PyData.depth, PyData.depthAll]
    omega
theorem bdok_uni {m : Str} {nd : Nd} (ok : BdOk m nd) : Uni nd.d := rdW_uni (n := 65) (by decide) (fun w hw => (vocab_ok w (nd_voc ok w hw)).2.2.1) (words_rd ok)
theorem nd_shp {m : Str} {nd : Nd} (ok : BdOk m nd) : SeqAt.shaped nd.d = true := by
  show (PyData.canLay0 nd.d && decide (PyData.depth nd.d ≤ 64)) = true
  rw [okU_lay _ (bdok_uni ok).1, decide_eq_true (by have := nd_depth nd; have := ok.dep; omega)]; rfl
theorem nd_eqv {m : Str} {nd : Nd} (ok : BdOk m nd) : PyData.eqv nd.d nd.d = true := SeqAt.eqv_refl _ (SeqAt.canLay_of_shaped (nd_shp ok))
/-- what isinstance knows of the class Body -/
structure BIC (K : PySem.W.Frag) (C : Addr) : Prop where
  hc : PySem.W.findIn K (.ref C) "__class__" = some (some (.builtin "object.__class__"))
  hs : PySem.W.specialIn K (.builtin "object.__class__") "__get__" = some (some (.builtin "getset_descriptor.__get__"))
  ht : PySem.W.takesIn K (.builtin "object.__class__") = some true
theorem kit_self {K : PySem.W.Frag} {C : Addr} : PySem.W.kitOne K (.ref C) (.ref C) = some true := by
  show (if (Value.ref C == Value.ref C) = true then some true else _) = _
  rw [if_pos (beq_self_eq_true _)]
theorem meth_in : ∀ z ∈ methods, PyData.strOk z = true := by decide +kernel
theorem meth_shaped {z : Str} (h : z ∈ methods) : SeqAt.shaped (.str z) = true := by
  show (PyData.canLay0 (.str z) && decide (PyData.depth (.str z) ≤ 64)) = true
  rw [show PyData.canLay0 (.str z) = true from by simpa [PyData.canLay0] using meth_in z h]
  simp [PyData.depth]
section
variable {P : Program} {w : World} {K : PySem.W.Frag} {mg : Str → Option Value} {base : Heap} {C : Addr}
theorem bd_ty (B : BdF K mg C) (c : BIC K C) {H : Hp} {b L : Addr} {m : Str} {v : V} {nd : Nd} (bk : BdA K C H b L m v nd) : TyX K H (.ref b) (.ref C) := by
  obtain ⟨dx, hb⟩ := bk.ins
  exact .base (.ins hb B.cl c.hc c.hs c.ht B.ob)
abbrev sBody___eq__ : Stmt := meth 37 2
abbrev nBody___eq__ : List Str := ["self", "other"]
theorem scBody___eq__ : FnScope nBody___eq__ ["self", "other"] (defScope sBody___eq__) := ⟨rfl, rfl, rfl, by decide +kernel, rfl, by decide +kernel, by decide +kernel⟩
def spBEq (K : PySem.W.Frag) (C : Addr) : Sp := fun vs H Q _ => ∃ (b L : Addr) (m : Str) (v : V) (nd : Nd) (b2 L2 : Addr) (m2 : Str) (v2 : V) (nd2 : Nd), vs = [.ref b, .ref b2] ∧ BdA K C H b L m v nd ∧ BdOk m nd ∧ BdA K C H b2 L2 m2 v2 nd2 ∧ BdOk m2 nd2 ∧ Q (.bl (decide (m = m2) && PyData.eqv nd.d nd2.d)) H
theorem ok_beq (T : Txt K mg) {C_Body : Addr} (K_Body : BdF K mg C_Body) (ic : BIC K C_Body) {f : Addr} {fd : FuncData} (D : Ob.MethAt K "__eq__" "Body.__eq__" sBody___eq__ ["self", "other"] f fd) : FnG P w K mg base CX0 1 f fd ["self", "other"] (spBEq K C_Body) := by
  refine Ob.byG D scBody___eq__ (fun vs H Q E h => ?_) (fun cd A hg outer s H vs Q E hr h => ?_)
  · obtain ⟨_, _, _, _, _, _, _, _, _, _, rfl, _⟩ := h
    rfl
  · obtain ⟨b, L, m, v, nd, b2, L2, m2, v2, nd2, rfl, bk, bd, bk', bd', q⟩ := h
    obtain ⟨dx, hb⟩ := bk.ins
    refine ⟨_, (pss_one (ps_ret (pe_and (pe_callB (r := rIsi K) call_isi (by rfl) T.isinstance (by decide +kernel) (pa_cons (pv 1) (pa_cons (pe_glob (v := .ref C_Body) (by rfl) K_Body.g rfl) pa_nil))) (pe_and (pe_cmpR (r := rEqD K) (op_eqD hr.units) (pe_fld (pv 0) (by rfl)) (pe_fld (pv 1) (by rfl)) (nomark _)) (pe_one (pe_cmpR (r := rEqD K) (op_eqD hr.units) (pe_fld (pv 0) (by rfl)) (pe_fld (pv 1) (by rfl)) (nomark _))))))), ?_⟩
    repeat walk_at "rd"
    obtain ⟨dy, hc⟩ := bk'.ins
    refine ⟨.ref b2, .ref C_Body, .ref C_Body, .ref C_Body, true, rfl, .own _, bd_ty K_Body ic bk', kit_self, ?_⟩
    repeat walk_at "rd"
    refine Rd.tt_ ?_
    repeat walk_at "rd"
    refine Rd.fldV rfl hb K_Body.cl K_Body.n1 rfl ?_
    refine Rd.fldV rfl hc K_Body.cl K_Body.n1 rfl ?_
    refine Rd.eqD (d := .str m) (e := .str m2) (.str _) (.str _) (meth_shaped bd.mm) (meth_shaped bd'.mm) ?_
    rw [eqv_str]
    refine ⟨_, rfl, ?_⟩
    refine Rd.bool (fun c => ?_) (fun c => ?_)
    · rw [c, Bool.true_and] at q
      repeat walk_at "rd"
      refine Rd.fldV rfl hb K_Body.cl K_Body.n2 rfl ?_
      refine Rd.fldV rfl hc K_Body.cl K_Body.n2 rfl ?_
      exact Rd.eqD bk.dp bk'.dp (nd_shp bd) (nd_shp bd') q
    · rw [c, Bool.false_and] at q
      exact q
/-- body != y, of two bodies that are equal -/
theorem neB {H : Hp} {Q : VK} {b L b2 L2 : Addr} {m : Str} {v v2 : V} {nd : Nd} (B : BdF K mg C) (ic : BIC K C) (k : BdA K C H b L m v nd) (d : BdOk m nd) (k' : BdA K C H b2 L2 m v2 nd) (q : Q (.bl false) H) : Ob.rEqO K C (spBEq K C) true (.ref b) (.ref b2) H Q := by
  obtain ⟨dx, hb⟩ := k.ins
  refine ⟨b, dx, _, .ref C, rfl, hb, bd_ty B ic k', by show (Value.ref C == Value.ref C || _) = true; simp, b, L, m, v, nd, b2, L2, m, v2, nd, rfl, k, d, k', d, _, rfl, ?_⟩
  rw [if_pos rfl, decide_eq_true rfl, nd_eqv d]
  exact q
def orR (r1 r2 : R2) : R2 := fun x y H Q => r1 x y H Q ∨ r2 x y H Q
theorem orOp {X : Cx} {op : Value → Value → Sem Value} {r1 r2 : R2} (h1 : OpR X op r1) (h2 : OpR X op r2) : OpR X op (orR r1 r2) := by
  intro pins s σ H x y v u Q I rx ry h
  exact h.elim (h1 pins s σ H x y v u Q I rx ry) (h2 pins s σ H x y v u Q I rx ry)
theorem mkBN {CB : Addr} {H1 : Hp} {R : Addr → Hp → Prop} {E : XK} {m : Str} {v : V} {nd : Nd} (ok : BdOk m nd) (hm : m ∈ bodyM) (dp : Dp K H1 v nd.d) (hq : ∀ b L H', Same H1 H' → BdA K C H' b L m v nd → R b H') :
    ∀ x dx, H1 x = none → H1 dx = none → dx ≠ x → spBN K C CB (.ref x :: ([.str m, v] ++ [])) (upd (upd H1 dx (.own x)) x (.ins C dx [])) (fun v H2 => v = .non ∧ R x H2) E := by
  intro b dx hb hdx nb
  have s1 : Same H1 (upd (upd H1 dx (.own b)) b (.ins C dx [])) := fun a u e => by
    rw [upd_ne (ne_of_none e hb), upd_ne (ne_of_none e hdx)]
    exact e
  refine ⟨b, dx, m, v, nd.d, rfl, hm, upd_same, dp_mono s1 dp, bdok_uni ok, fun n en => ?_, fun _ L H' k nL hb2 => ⟨rfl, ?_⟩⟩
  · rw [goW_good ok] at en
    cases en
  · have s2 : Same H1 H' := fun a u e => k a u (ne_of_none e hb) (s1 _ _ e)
    exact hq b L H' s2 ⟨⟨dx, hb2⟩, dp_mono s2 dp⟩
section
variable {H : Hp} {Q : VK} {E : XK} {m : Str}
theorem read1 {nd : Nd} (bk : BdOk m nd) (hm : m ∈ bodyM) (k : ∀ b L v H', Same H H' → BdA K C H' b L m v nd → Q (.ref b) H') : spLRead K C ([.str m, .str nd.text] ++ []) H Q E :=
  ⟨_, _, _, rfl, kd_str m, fun z => absurd ((decide_eq_true hm).symm.trans z) (by decide), fun m' e _ => by cases e; exact .inr ⟨_, _, rfl, nd_txt bk, .inl ⟨nd, bk, rfl, k⟩⟩⟩
theorem readBad {t : Str} (b : Bad m t) (hm : m ∈ bodyM) (k : ∀ l H', Same H H' → H' l = some (.lst noteV) → Q (.ref l) H') : spLRead K C ([.str m, .str t] ++ []) H Q E := by
  obtain ⟨ws, tx, no⟩ := b
  exact ⟨_, _, _, rfl, kd_str m, fun z => absurd ((decide_eq_true hm).symm.trans z) (by decide), fun m' e _ => by cases e; exact .inr ⟨_, _, rfl, tx, .inr ⟨no, k⟩⟩⟩
theorem readOdd {y : V} {tn : String} (kd : Kd K H y tn) (ns : kitB tn "str" = some false) (hm : m ∈ bodyM) (k : ∀ l H', Same H H' → H' l = some (.lst noteV) → Q (.ref l) H') : spLRead K C ([.str m, y] ++ []) H Q E :=
  ⟨_, _, _, rfl, kd_str m, fun z => absurd ((decide_eq_true hm).symm.trans z) (by decide), fun m' e _ => by cases e; exact .inl ⟨_, kd.ty, ns, k⟩⟩
theorem readName {x y : V} {tn : String} (kd : Kd K H x tn) (no : isIn x bodyM = false) (k : ∀ l H', Same H H' → H' l = some (.lst [.str "name", x, .bl true, .bl false]) → Q (.ref l) H') : spLRead K C ([x, y] ++ []) H Q E :=
  ⟨_, _, _, rfl, kd, fun _ => k, fun m' e hm => absurd no (by rw [e, show isIn (.str m') bodyM = decide (m' ∈ bodyM) from rfl, decide_eq_true hm]; decide)⟩
end
def noteD : PyData := .list [.str "note", .none, .bool true, .bool false]
theorem note_dp {H : Hp} {l : Addr} (h : H l = some (.lst noteV)) : Dp K H (.ref l) noteD := .lst (SqL.of h) (.cons (.str _) (.cons .non (.cons (.bl _) (.cons (.bl _) .nil))))
theorem note_sh : SeqAt.shaped noteD = true := by decide +kernel
theorem note_eq : PyData.eqv noteD noteD = true := SeqAt.eqv_refl _ (SeqAt.canLay_of_shaped note_sh)
theorem neNote {H : Hp} {Q : VK} {l l2 : Addr} (h : H l = some (.lst noteV)) (h2 : H l2 = some (.lst noteV)) (q : Q (.bl false) H) : rNeD K (.ref l) (.ref l2) H Q := by
  refine Rd.neD (note_dp h) (note_dp h2) note_sh note_sh ?_
  rw [note_eq]
  exact q
theorem forIL {K : PySem.W.Frag} {tl : TE} {g : TG} {tb : TS} {D : Ends} {σ : L2.St} {H : Hp} (k : tl σ H fun x H1 => tFor (iList K (tC x)) g tb D σ H1) : tFor (iList K tl) g tb D σ H := k
def nameD (d : PyData) : PyData := .list [.str "name", d, .bool true, .bool false]
/-- what is not a method of a body -/
structure OddN (K : PySem.W.Frag) (H : Hp) (x : V) (d : PyData) : Prop where
  dp : Dp K H x d
  kd : ∃ tn, Kd K H x tn
  no : isIn x bodyM = false
  sh : SeqAt.shaped (nameD d) = true
theorem OddN.mono {H H' : Hp} {x : V} {d : PyData} (s : Same H H') (h : OddN K H x d) : OddN K H' x d := ⟨dp_mono s h.dp, let ⟨tn, k⟩ := h.kd; ⟨tn, k.mono s⟩, h.no, h.sh⟩
theorem odd_str {H : Hp} {z : Str} (h : z ∈ (["item", "walk", "grow", "call", "size", "step"] : List Str)) : OddN K H (.str z) (.str z) :=
  ⟨.str z, ⟨_, kd_str z⟩, (show ∀ z ∈ (["item", "walk", "grow", "call", "size", "step"] : List Str), isIn (.str z) bodyM = false by decide +kernel) z h, (show ∀ z ∈ (["item", "walk", "grow", "call", "size", "step"] : List Str), SeqAt.shaped (nameD (.str z)) = true by decide +kernel) z h⟩
end
end Ab
namespace Ab
open PySem.Spec PyProof.Rows
local macro_rules | `(tactic| walk_at "rd") => `(tactic| (with_reducible first | refine Rd.tt_ ?_ | refine Rd.ff_ ?_ | refine Rd.methR ?_ | refine Rd.makeR ?_))
section
variable {P : Program} {w : World} {K : PySem.W.Frag} {mg : Str → Option Value} {base : Heap}
abbrev sL_right : Stmt := top 57
abbrev nL_right : List Str := ["_law_pool_here", "_law_method", "_law_told", "_law_body", "_law_text", "_law_again", "_law_wrong", "_law_other"]
theorem scL_right : FnScope nL_right ["_law_pool_here", "_law_method", "_law_told"] (defScope sL_right) := ⟨rfl, rfl, rfl, by decide +kernel, rfl, by decide +kernel, by decide +kernel⟩
def spRight (K : PySem.W.Frag) : Sp := fun vs H Q _ => ∃ (p : Addr) (x y : Int) (m : Str) (v : V) (nd : Nd), vs = [.ref p, .str m, v] ∧ H p = some (.lst [.int x, .int y]) ∧ PoolOk x y ∧ m ∈ bodyM ∧ BdOk m nd ∧ Dp K H v nd.d ∧ ∀ H', Keep p H H' → Q (.bl true) H'
set_option pp.maxSteps 3000 in
theorem ok_right (T : Txt K mg) {C_Body CB : Addr} (K_Body : BdF K mg C_Body) (ic : BIC K C_Body) (I_Body : Ob.MkCal P w K mg base (L2.CX P w) C_Body 9 "Body" (spBN K C_Body CB)) (Q_Body : Ob.EqCal P w K mg base CX0 C_Body 1 (spBEq K C_Body))
    (D : DefAt K mg "_law_right" sL_right ["_law_pool_here", "_law_method", "_law_told"]) (CWrite_body : CalG P w K mg base 8 "write_body" (spWrite K C_Body)) (CL_flat : CalG P w K mg base 7 "_law_flat" (spWords K 6)) (CL_read : CalG P w K mg base 70 "_law_read" (spLRead K C_Body))
    (CL_due : CalG P w K mg base 11 "_law_due" (spLDue K C_Body)) (CL_bent : CalG P w K mg base 2 "_law_bent" (spBent K)) : CalG P w K mg base 71 "_law_right" (spRight K) := by
  refine D.by scL_right (fun vs H Q E h => ?_) (fun f cd A hg outer s H vs Q E hr h => ?_)
  · obtain ⟨_, _, _, _, _, _, rfl, _⟩ := h
    rfl
  · obtain ⟨p, x, y, m, v, nd, rfl, hp, ok, hm, bk, dp, q⟩ := h
    let Q_sp_Body := spBEq K C_Body
    have co := (all_vocab nd true bk.all).1
    have wl := (bdok_len bk).1
    refine ⟨_, (pss_cons (ps_set (i := 3) scL_right.nd rfl (Or.inl rfl) (Ob.make I_Body hg hr (by decide) Ob.px0 (pa_cons (pv 1) (pa_cons (pv 2) pa_nil))))
  (pss_cons (ps_set (i := 4) scL_right.nd rfl (Or.inl rfl) (pe_cG CWrite_body hg hr (by decide) (pa_cons (pv 3) pa_nil)))
  (pss_cons (ps_if (PW.pt (pw_or (pt_not (pt_val (pe_callB (r := rIsi K) call_isi (by rfl) T.isinstance (by decide +kernel) (pa_cons (pv 4) (pa_cons (pe_bltn (v := .ty "str") (by rfl) T.str (by decide +kernel) rfl) pa_nil))))) (pw_or1 (pt_cmpR op_ne (pv 4) (pe_join pe_str (pe_cG CL_flat hg hr (by decide) (pa_cons (pv 2) pa_nil))) (nomark _)))))
  (pss_one (ps_ret pe_bl))
  pss_nil)
  (pss_cons (ps_set (i := 5) scL_right.nd rfl (Or.inl rfl) (pe_cG CL_read hg hr (by decide) (pa_cons (pv 1) (pa_cons (pv 4) pa_nil))))
  (C8.pss_cut (ps_if (PW.pt (pw_or (pt_not (pt_val (pe_callB (r := rIsi K) call_isi (by rfl) T.isinstance (by decide +kernel) (pa_cons (pv 5) (pa_cons (pe_glob (v := .ref C_Body) (by rfl) K_Body.g rfl) pa_nil))))) (pw_or (pt_cmpR (r := Ob.rEqO K C_Body Q_sp_Body true) (Ob.op_neO Q_Body K_Body.ne K_Body.ob hg hr (by decide) pass0) (pv 5) (pv 3) (nomark _)) (pw_or (pt_cmpR (r := rNeD K) (op_neD hr.units) (pe_fld (pv 5) (by rfl)) (pv 2) (nomark _)) (pw_or1 (pt_cmpR (r := rNeD K) (op_neD hr.units) (pe_fld (pv 5) (by rfl)) (pv 1) (nomark _)))))))
  (pss_one (ps_ret pe_bl))
  pss_nil)
  (pss_cons (ps_for (wi := iList K _) PassesOwn.never rfl (pi_list (pe_op op_cat (pe_cG CL_bent hg hr (by decide) (pa_cons (pv 0) (pa_cons (pv 4) pa_nil))) (pe_lst (pa_cons pe_non (pa_cons pe_int (pa_cons (pe_lst (pa_cons pe_str pa_nil)) (pa_cons (pe_tup (pa_cons pe_str pa_nil)) (pa_cons pe_bl pa_nil)))))))) (pg_name (i := 6) scL_right.nd rfl (Or.inl rfl))
  (pss_one (ps_if (pt_cmpR (r := rNeD K) (op_neD hr.units) (pe_cG CL_read hg hr (by decide) (pa_cons (pv 1) (pa_cons (pv 6) pa_nil))) (pe_lst (pa_cons pe_str (pa_cons pe_non (pa_cons pe_bl (pa_cons pe_bl pa_nil))))) (nomark _))
  (pss_one (ps_ret pe_bl))
  pss_nil)))
  (pss_cons (ps_for (wi := iList K _) PassesOwn.never rfl (pi_list (pe_lst (pa_cons pe_str (pa_cons pe_str (pa_cons pe_str (pa_cons pe_str (pa_cons pe_str (pa_cons pe_str pa_nil)))))))) (pg_name (i := 7) scL_right.nd rfl (Or.inl rfl))
  (pss_one (ps_if (pt_cmpR (r := orR (rNeD K) (Ob.rEqO K C_Body Q_sp_Body true)) (orOp (op_neD hr.units) (Ob.op_neO Q_Body K_Body.ne K_Body.ob hg hr (by decide) pass0)) (pe_cG CL_read hg hr (by decide) (pa_cons (pv 7) (pa_cons (pv 4) pa_nil))) (pe_cG CL_due hg hr (by decide) (pa_cons (pv 7) (pa_cons (pv 2) pa_nil))) (nomark _))
  (pss_one (ps_ret pe_bl))
  pss_nil)))
  (pss_cons (ps_for (wi := iList K _) PassesOwn.never rfl (pi_list (pe_lst (pa_cons pe_non (pa_cons pe_str (pa_cons pe_str (pa_cons pe_str (pa_cons pe_str (pa_cons pe_str (pa_cons pe_int (pa_cons (pe_lst pa_nil) (pa_cons pe_str pa_nil))))))))))) (pg_name (i := 6) scL_right.nd rfl (Or.inl rfl))
  (pss_one (ps_if (PW.pt (pw_or (pt_cmpR (r := rNeD K) (op_neD hr.units) (pe_cG CL_read hg hr (by decide) (pa_cons (pv 6) (pa_cons (pv 4) pa_nil))) (pe_lst (pa_cons pe_str (pa_cons (pv 6) (pa_cons pe_bl (pa_cons pe_bl pa_nil))))) (nomark _)) (pw_or1 (pt_cmpR (r := rNeD K) (op_neD hr.units) (pe_ix (r := rIxL K) ix_list (pe_cG CL_read hg hr (by decide) (pa_cons (pv 6) (pa_cons pe_int pa_nil))) pe_int (fun _ _ => rfl)) pe_str (nomark _)))))
  (pss_one (ps_ret pe_bl))
  pss_nil)))
  (pss_one (ps_ret pe_bl)))))))))), ?_⟩
    repeat walk_at "rd"
    refine mkBN bk hm dp fun b L H1 s1 b1 => ?_
    have dp1 := dp_mono s1 dp
    repeat walk_at "rd"
    refine ⟨b, L, m, v, nd, rfl, b1, bk, fun H2 s2 => ?_⟩
    have b2 := b1.mono s2
    have dp2 := dp_mono s2 dp1
    have s02 := s1.trans s2
    clear s1 s2 b1 dp1
    repeat walk_at "rd"
    refine isi (.base (.str _)) (by show kitB "str" "str" = some true; decide +kernel) ?_
    repeat walk_at "rd"
    refine Rd.ff_ ?_
    repeat walk_at "rd"
    refine ⟨v, nd, rfl, dp2, co, bk.dep, by omega, fun W H3 hW s3 e3 => ?_⟩
    refine ⟨sp, W, nd.words, rfl, rfl, .inl (SqL.of e3), join_b (nd_w16 bk) (by omega), ?_⟩
    repeat walk_at "rd"
    refine Rd.ndec (fun c => absurd rfl c) (fun _ => ?_)
    have b3 := b2.mono s3
    have dp3 := dp_mono s3 dp2
    have s03 := s02.trans s3
    clear s02 s3 b2 dp2 e3
    repeat walk_at "rd"
    refine read1 bk hm fun c L2 v2 H4 s4 c4 => ?_
    have b4 := b3.mono s4
    have dp4 := dp_mono s4 dp3
    have s04 := s03.trans s4
    clear s03 s4 b3 dp3
    repeat walk_at "rd"
    refine Rd.cut (fun σ' H' => σ' = [some (.ref p), some (.str m), some v, some (.ref b), some (.str nd.text), some (.ref c), none, none] ∧ H' = H4) ?_ ?_
    · repeat walk_at "rd"
      refine ⟨.ref c, .ref C_Body, .ref C_Body, .ref C_Body, true, rfl, .own _, bd_ty K_Body ic c4, kit_self, ?_⟩
      repeat walk_at "rd"
      refine Rd.ff_ ?_
      repeat walk_at "rd"
      refine neB K_Body ic c4 bk b4 ?_
      repeat walk_at "rd"
      obtain ⟨dx, hc⟩ := c4.ins
      refine Rd.fldV rfl hc K_Body.cl K_Body.n2 rfl ?_
      repeat walk_at "rd"
      refine Rd.neD c4.dp dp4 (nd_shp bk) (nd_shp bk) ?_
      rw [nd_eqv bk]
      repeat walk_at "rd"
      refine Rd.ff_ ?_
      repeat walk_at "rd"
      refine Rd.fldV rfl hc K_Body.cl K_Body.n1 rfl ?_
      repeat walk_at "rd"
      refine Rd.neD (d := .str m) (e := .str m) (.str _) (.str _) (meth_shaped bk.mm) (meth_shaped bk.mm) ?_
      rw [eqv_str, decide_eq_true rfl]
      repeat walk_at "rd"
      refine Rd.ff_ ?_
      repeat walk_at "rd"
      exact ⟨rfl, rfl⟩
    rintro σ' H4 ⟨rfl, rfl⟩
    have hp4 := s04 _ _ hp
    have K04 := Keep.same (p := p) s04
    clear s04 b4 c4
    repeat walk_at "rd"
    refine forIL ?_
    repeat walk_at "rd"
    refine ⟨p, x, y, m, nd, rfl, hp4, ok, bk, fun B ts H5 x5 y5 K5 hp5 ok5 nB eB bad nts => ?_⟩
    have dp5 := nd_keep K5 (nt_lst hp4) _ _ dp4
    have K05 := K04.trans K5
    clear K04 K5 hp4 dp4
    repeat walk_at "rd"
    refine ⟨Rd.sz (by simp), fun l1 h1 => ?_⟩
    have S6 := Rd.sNew (o := .lst [.str "yes"]) h1
    have e1 : upd H5 l1 (.lst [.str "yes"]) l1 = some (.lst [.str "yes"]) := upd_same
    generalize upd H5 l1 (.lst [.str "yes"]) = H6 at S6 e1 ⊢
    repeat walk_at "rd"
    refine ⟨Rd.sz (by simp), fun t1 g1 => ?_⟩
    have S7 := Rd.sNew (o := .tup [.str "yes"]) g1
    have et : upd H6 t1 (.tup [.str "yes"]) t1 = some (.tup [.str "yes"]) := upd_same
    have e1 := S7 _ _ e1
    generalize upd H6 t1 (.tup [.str "yes"]) = H7 at S7 e1 et ⊢
    repeat walk_at "rd"
    refine ⟨Rd.sz (by simp), fun l2 h2 => ?_⟩
    have S8 := Rd.sNew (o := .lst [.non, .int 0, .ref l1, .ref t1, .bl true]) h2
    have e2 : upd H7 l2 (.lst [.non, .int 0, .ref l1, .ref t1, .bl true]) l2 = some (.lst [.non, .int 0, .ref l1, .ref t1, .bl true]) := upd_same
    have et := S8 _ _ et
    have e1 := S8 _ _ e1
    have S58 := (S6.trans S7).trans S8
    generalize upd H7 l2 (.lst [.non, .int 0, .ref l1, .ref t1, .bl true]) = H8 at S58 e1 et e2 S8 ⊢
    clear S6 S7 S8 h1 g1 h2
    refine Rd.cat (S58 _ _ eB) e2 (Rd.sz (by rw [List.length_map, nts]; simp)) fun M hM => ?_
    have S9 := Rd.sNew (o := .lst (ts.map V.str ++ [.non, .int 0, .ref l1, .ref t1, .bl true])) hM
    have eM : upd H8 M (.lst (ts.map V.str ++ [.non, .int 0, .ref l1, .ref t1, .bl true])) M = some (.lst (ts.map V.str ++ [.non, .int 0, .ref l1, .ref t1, .bl true])) := upd_same
    have e1 := S9 _ _ e1
    have et := S9 _ _ et
    have S59 := S58.trans S9
    have dp9 := dp_mono S59 dp5
    have K09 := K05.trans (Keep.same (p := p) S59)
    generalize upd H8 M (.lst (ts.map V.str ++ [.non, .int 0, .ref l1, .ref t1, .bl true])) = H9 at S59 e1 et eM dp9 K09 S9 ⊢
    clear S58 S59 S9 eB e2 K05 dp5 hp5 hM
    repeat walk_at "rd"
    refine ⟨M, rfl, ⟨_, SqL.of eM⟩, ?_⟩
    refine for_list (K := K) (a := M) (xs := ts.map V.str ++ [.non, .int 0, .ref l1, .ref t1, .bl true]) (fun j σ H' => (∃ z, σ = [some (.ref p), some (.str m), some v, some (.ref b), some (.str nd.text), some (.ref c), z, none]) ∧ Same H9 H') ⟨⟨_, rfl⟩, Same.refl _⟩ (fun j σ H' _ h => SqL.of (h.2 _ _ eM)) ?_ ?_
    · rintro j xv σ Hj hx ⟨⟨z, rfl⟩, sj⟩
      have tail : ∀ (l : Addr) (Hk : Hp), Same Hj Hk → Hk l = some (.lst noteV) → ∀ R : VK, (∀ l2 Hk2, Same Hj Hk2 → Hk2 l = some (.lst noteV) → Hk2 l2 = some (.lst noteV) → rNeD K (.ref l) (.ref l2) Hk2 R) → ∀ l2, Hk l2 = none → rNeD K (.ref l) (.ref l2) (upd Hk l2 (.lst noteV)) R := fun l Hk sk el R k l2 h2 => k l2 _ (sk.trans (Rd.sNew h2)) (Rd.sNew h2 _ _ el) upd_same
      have cases5 : (∃ t, xv = .str t ∧ Bad m t) ∨ ∃ tn, Kd K Hj xv tn ∧ kitB tn "str" = some false := by
        rcases List.mem_append.mp (List.mem_of_getElem? hx) with hx | hx
        · obtain ⟨t, ht, rfl⟩ := List.mem_map.mp hx
          exact .inl ⟨t, rfl, bad t ht⟩
        · right
          simp only [List.mem_cons, List.not_mem_nil, or_false] at hx
          rcases hx with rfl | rfl | rfl | rfl | rfl
          · exact ⟨_, kd_non, by decide +kernel⟩
          · exact ⟨_, kd_int 0, by decide +kernel⟩
          · exact ⟨_, kd_lst (SqL.of (sj _ _ e1)), by decide +kernel⟩
          · exact ⟨_, kd_tup (.inl (.inl (sj _ _ et))), by decide +kernel⟩
          · exact ⟨_, kd_bl true, by decide +kernel⟩
      repeat walk_at "rd"
      rcases cases5 with ⟨t, rfl, bt⟩ | ⟨tn, kd, ns⟩
      · refine readBad bt hm fun l Hk sk el => ?_
        repeat walk_at "rd"
        refine ⟨Rd.sz (by simp), fun l2 h2 => ?_⟩
        refine neNote (Rd.sNew h2 _ _ el) upd_same ?_
        repeat walk_at "rd"
        exact ⟨⟨_, rfl⟩, (sj.trans sk).trans (Rd.sNew h2)⟩
      · refine readOdd kd ns hm fun l Hk sk el => ?_
        repeat walk_at "rd"
        refine ⟨Rd.sz (by simp), fun l2 h2 => ?_⟩
        refine neNote (Rd.sNew h2 _ _ el) upd_same ?_
        repeat walk_at "rd"
        exact ⟨⟨_, rfl⟩, (sj.trans sk).trans (Rd.sNew h2)⟩
    rintro σ H10 ⟨⟨z, rfl⟩, s10⟩
    have dp10 := dp_mono s10 dp9
    have K010 := K09.trans (Keep.same (p := p) s10)
    clear s10 dp9 K09 e1 et eM bad nts
    repeat walk_at "rd"
    refine forIL ?_
    repeat walk_at "rd"
    refine ⟨Rd.sz (by simp), fun lo hlo => ?_⟩
    have S11 := Rd.sNew (o := .lst ((["truth", "length", "has", "like", "behind", "hash"] : List Str).map V.str)) hlo
    have elo : upd H10 lo (.lst ((["truth", "length", "has", "like", "behind", "hash"] : List Str).map V.str)) lo = some (.lst ((["truth", "length", "has", "like", "behind", "hash"] : List Str).map V.str)) := upd_same
    have dp11 := dp_mono S11 dp10
    have K011 := K010.trans (Keep.same (p := p) S11)
    show tFor _ _ _ _ _ (upd H10 lo (.lst ((["truth", "length", "has", "like", "behind", "hash"] : List Str).map V.str)))
    generalize upd H10 lo (.lst ((["truth", "length", "has", "like", "behind", "hash"] : List Str).map V.str)) = H11 at S11 elo dp11 K011 ⊢
    clear S11 dp10 K010 hlo
    refine ⟨lo, rfl, ⟨_, SqL.of elo⟩, ?_⟩
    refine for_list (K := K) (a := lo) (xs := (["truth", "length", "has", "like", "behind", "hash"] : List Str).map V.str) (fun j σ H' => (∃ z2, σ = [some (.ref p), some (.str m), some v, some (.ref b), some (.str nd.text), some (.ref c), z, z2]) ∧ Same H11 H') ⟨⟨_, rfl⟩, Same.refl _⟩ (fun j σ H' _ h => SqL.of (h.2 _ _ elo)) ?_ ?_
    · rintro j xv σ Hj hx ⟨⟨z2, rfl⟩, sj⟩
      obtain ⟨o, ho, rfl⟩ := List.mem_map.mp (List.mem_of_getElem? hx)
      have hmo : o ∈ bodyM := (show ∀ o ∈ (["truth", "length", "has", "like", "behind", "hash"] : List Str), o ∈ bodyM by decide +kernel) o ho
      have dpj := dp_mono sj dp11
      repeat walk_at "rd"
      by_cases bo : BdOk o nd
      · refine read1 bo hmo fun c2 L3 v3 Hk sk bc => ?_
        repeat walk_at "rd"
        refine ⟨o, v, nd, rfl, hmo, dp_mono sk dpj, bdok_uni bk, fun no => absurd bo no, fun _ c3 L4 Hl sl bd => ?_⟩
        refine .inr (neB K_Body ic (bc.mono sl) bo bd ?_)
        repeat walk_at "rd"
        exact ⟨⟨_, rfl⟩, (sj.trans sk).trans sl⟩
      · refine readBad (t := nd.text) ⟨nd.words, nd_txt bk, fun nd2 ok2 e => bo ?_⟩ hmo fun l Hk sk el => ?_
        · rw [← words_inj ok2 bk e]
          exact ok2
        repeat walk_at "rd"
        refine ⟨o, v, nd, rfl, hmo, dp_mono sk dpj, bdok_uni bk, fun _ l2 Hl sl el2 => ?_, fun yes => absurd yes bo⟩
        refine .inl (neNote (sl _ _ el) el2 ?_)
        repeat walk_at "rd"
        exact ⟨⟨_, rfl⟩, (sj.trans sk).trans sl⟩
    rintro σ H12 ⟨⟨z2, rfl⟩, s12⟩
    have K012 := K011.trans (Keep.same (p := p) s12)
    clear s12 dp11 K011 elo
    repeat walk_at "rd"
    refine forIL ?_
    repeat walk_at "rd"
    refine ⟨Rd.sz (by simp), fun le hle => ?_⟩
    have S13 := Rd.sNew (o := .lst []) hle
    have ele : upd H12 le (.lst []) le = some (.lst []) := upd_same
    generalize upd H12 le (.lst []) = H13 at S13 ele ⊢
    repeat walk_at "rd"
    refine ⟨Rd.sz (by simp), fun lw hlw => ?_⟩
    have S14 := Rd.sNew (o := .lst [.non, .str "item", .str "walk", .str "grow", .str "call", .str "size", .int 0, .ref le, .str "step"]) hlw
    have elw : upd H13 lw (.lst [.non, .str "item", .str "walk", .str "grow", .str "call", .str "size", .int 0, .ref le, .str "step"]) lw = some (.lst [.non, .str "item", .str "walk", .str "grow", .str "call", .str "size", .int 0, .ref le, .str "step"]) := upd_same
    have ele := S14 _ _ ele
    have K014 := (K012.trans (Keep.same (p := p) S13)).trans (Keep.same (p := p) S14)
    generalize upd H13 lw (.lst [.non, .str "item", .str "walk", .str "grow", .str "call", .str "size", .int 0, .ref le, .str "step"]) = H14 at S14 ele elw K014 ⊢
    clear S13 S14 hle hlw K012
    repeat walk_at "rd"
    refine ⟨lw, rfl, ⟨_, SqL.of elw⟩, ?_⟩
    refine for_list (K := K) (a := lw) (xs := [.non, .str "item", .str "walk", .str "grow", .str "call", .str "size", .int 0, .ref le, .str "step"]) (fun j σ H' => (∃ z, σ = [some (.ref p), some (.str m), some v, some (.ref b), some (.str nd.text), some (.ref c), z, z2]) ∧ Same H14 H') ⟨⟨_, rfl⟩, Same.refl _⟩ (fun j σ H' _ h => SqL.of (h.2 _ _ elw)) ?_ ?_
    · rintro j xv σ Hj hx ⟨⟨z3, rfl⟩, sj⟩
      obtain ⟨d, od⟩ : ∃ d, OddN K Hj xv d := by
        have hx := List.mem_of_getElem? hx
        simp only [List.mem_cons, List.not_mem_nil, or_false] at hx
        rcases hx with rfl | rfl | rfl | rfl | rfl | rfl | rfl | rfl | rfl
        · exact ⟨.none, .non, ⟨_, kd_non⟩, rfl, by decide +kernel⟩
        · exact ⟨_, odd_str (by decide +kernel)⟩
        · exact ⟨_, odd_str (by decide +kernel)⟩
        · exact ⟨_, odd_str (by decide +kernel)⟩
        · exact ⟨_, odd_str (by decide +kernel)⟩
        · exact ⟨_, odd_str (by decide +kernel)⟩
        · exact ⟨.int 0, .int 0, ⟨_, kd_int 0⟩, rfl, by decide +kernel⟩
        · exact ⟨.list [], .lst (SqL.of (sj _ _ ele)) .nil, ⟨_, kd_lst (SqL.of (sj _ _ ele))⟩, rfl, by decide +kernel⟩
        · exact ⟨_, odd_str (by decide +kernel)⟩
      obtain ⟨tn, kd⟩ := od.kd
      repeat walk_at "rd"
      refine readName kd od.no fun l Hk sk el => ?_
      repeat walk_at "rd"
      refine ⟨Rd.sz (by simp), fun l2 h2 => ?_⟩
      have s2 := Rd.sNew (o := .lst [.str "name", xv, .bl true, .bl false]) h2
      have od2 := od.mono (sk.trans s2)
      refine Rd.neD (d := nameD d) (e := nameD d) (.lst (SqL.of (s2 _ _ el)) (.cons (.str _) (.cons od2.dp (.cons (.bl _) (.cons (.bl _) .nil))))) (.lst (SqL.of upd_same) (.cons (.str _) (.cons od2.dp (.cons (.bl _) (.cons (.bl _) .nil))))) od2.sh od2.sh ?_
      rw [SeqAt.eqv_refl _ (SeqAt.canLay_of_shaped od2.sh)]
      repeat walk_at "rd"
      refine Rd.ff_ ?_
      repeat walk_at "rd"
      refine readName (kd.mono (sk.trans s2)) od.no fun l3 Hl sl el3 => ?_
      repeat walk_at "rd"
      refine Rd.neD (d := .str "name") (e := .str "name") (.str _) (.str _) (by decide +kernel) (by decide +kernel) ?_
      rw [eqv_str, decide_eq_true rfl]
      repeat walk_at "rd"
      refine Rd.ff_ ?_
      repeat walk_at "rd"
      exact ⟨⟨_, rfl⟩, ((sj.trans sk).trans s2).trans sl⟩
    rintro σ H15 ⟨⟨z3, rfl⟩, s15⟩
    repeat walk_at "rd"
    exact q _ (K014.trans (Keep.same (p := p) s15))
end
end Ab
namespace Ab
open PySem.Spec PyProof.Rows
local macro_rules | `(tactic| walk_at "rd") => `(tactic| (with_reducible first | refine Rd.tt_ ?_ | refine Rd.ff_ ?_ | refine Rd.methR ?_ | refine Rd.makeR ?_))
theorem gr_ok : BdOk "unlike" (grN 4) ∧ (grN 4).words.length = 49 := by
  refine ⟨⟨by decide +kernel, by decide +kernel, by decide +kernel, by decide +kernel, by decide +kernel⟩, by decide +kernel⟩
def SLw (a : Addr) (σ : L2.St) : Prop := ∃ z1 z2 z3 z4, σ = [some (.ref a), z1, z2, z3, z4]
section
variable {P : Program} {w : World} {K : PySem.W.Frag} {mg : Str → Option Value} {base : Heap}
def spLaw (K : PySem.W.Frag) : Sp := fun vs H Q _ => ∃ (a : Addr) (ns : List Int), vs = [.ref a] ∧ SqL K H a (ns.map V.int) ∧ ns.length ≤ 63 ∧ ∀ H', Q (.bl true) H'
abbrev sLaw : Stmt := top 59
abbrev nLaw : List Str := ["_law_script", "_law_k", "_law_pool_here", "_law_some", "_law_method"]
theorem scLaw : FnScope nLaw ["_law_script"] (defScope sLaw) := ⟨rfl, rfl, rfl, by decide +kernel, rfl, by decide +kernel, by decide +kernel⟩
set_option pp.maxSteps 3000 in
theorem ok_law (T : Txt K mg) (CL_pool : CalG P w K mg base 1 "_law_pool" (spPool K)) (CL_one : CalG P w K mg base 2 "_law_one" (spOne K)) (CL_deep : CalG P w K mg base 6 "_law_deep" (spPartA K 2)) (CL_flat : CalG P w K mg base 7 "_law_flat" (spWords K 6)) (CL_great : CalG P w K mg base 1 "_law_greatest" (spGreat K))
    (CL_right : CalG P w K mg base 71 "_law_right" (spRight K)) {f : Addr} {fd : FuncData} (F : Fun K "law" "law" sLaw f fd) : FnG P w K mg base CX0 73 f fd ["_law_script"] (spLaw K) := by
  have CL_greatest := CL_great
  refine defG0 F scLaw (fun vs H Q E h => ?_) (fun cd A hg outer s H vs Q E hr h => ?_)
  · obtain ⟨_, _, rfl, _⟩ := h
    rfl
  · obtain ⟨a, ns, rfl, hS, h63, q⟩ := h
    obtain ⟨gok, glen⟩ := gr_ok
    have gco := (all_vocab _ true gok.all).1
    refine ⟨_, (pss_cons (ps_if (pt_cmpR op_ne (pe_callB (r := Rd.rLenK K) Rd.callLen (by rfl) T.len PySem.boot_len (pa_cons (pe_cG CL_flat hg hr (by decide) (pa_cons (pe_cG0 CL_greatest hg hr (by decide)) pa_nil)) pa_nil)) pe_int (nomark _))
  (pss_one (ps_ret pe_bl))
  pss_nil)
  (pss_cons (ps_if (pt_not (pt_val (pe_cG CL_right hg hr (by decide) (pa_cons (pe_cG CL_pool hg hr (by decide) (pa_cons (pv 0) (pa_cons pe_int pa_nil))) (pa_cons pe_str (pa_cons (pe_cG0 CL_greatest hg hr (by decide)) pa_nil))))))
  (pss_one (ps_ret pe_bl))
  pss_nil)
  (pss_cons (ps_for PassesOwn.never rfl (pi_range1 (by rfl) T.range (pa_cons (pe_callB (call_max2 rfl) (by rfl) T.max (by decide +kernel) (pa_cons pe_int (pa_cons (pe_callB (call_min2 rfl) (by rfl) T.min (by decide +kernel) (pa_cons pe_int (pa_cons (pe_callB (r := Rd.rLenK K) Rd.callLen (by rfl) T.len PySem.boot_len (pa_cons (pv 0) pa_nil)) pa_nil))) pa_nil))) pa_nil)) (pg_name (i := 1) scLaw.nd rfl (Or.inl rfl))
  (pss_cons (ps_set (i := 2) scLaw.nd rfl (Or.inl rfl) (pe_cG CL_pool hg hr (by decide) (pa_cons (pv 0) (pa_cons (pv 1) pa_nil))))
  (pss_cons (ps_set (i := 3) scLaw.nd rfl (Or.inl rfl) (pe_lst (pa_cons pe_str (pa_cons pe_str (pa_cons pe_str (pa_cons pe_str (pa_cons pe_str (pa_cons pe_str (pa_cons pe_str (pa_cons pe_str pa_nil))))))))))
  (pss_cons (ps_set (i := 4) scLaw.nd rfl (Or.inl rfl) (pe_cG CL_one hg hr (by decide) (pa_cons (pv 2) (pa_cons (pv 3) pa_nil))))
  (pss_one (ps_if (pt_not (pt_val (pe_cG CL_right hg hr (by decide) (pa_cons (pv 2) (pa_cons (pv 4) (pa_cons (pe_cG CL_deep hg hr (by decide) (pa_cons (pv 2) (pa_cons (pv 4) (pa_cons pe_int (pa_cons pe_bl pa_nil))))) pa_nil))))))
  (pss_one (ps_ret pe_bl))
  pss_nil))))))
  (pss_one (ps_ret pe_bl))))), ?_⟩
    repeat walk_at "rd"
    refine ⟨rfl, fun v H1 s1 d1 => ?_⟩
    repeat walk_at "rd"
    refine ⟨v, grN 4, rfl, d1, gco, gok.dep, by rw [glen]; decide, fun W H2 hW s2 e2 => ?_⟩
    repeat walk_at "rd"
    refine Rd.ndec (fun c => absurd (by rw [List.length_map, glen]; rfl) c) (fun _ => ?_)
    have s02 := s1.trans s2
    clear e2 d1 s1 s2
    repeat walk_at "rd"
    refine ⟨a, ns, 0, rfl, s02.seq hS, by decide, by decide, fun p x y hp ok => ?_⟩
    have hp3 : upd H2 p (.lst [.int x, .int y]) p = some (.lst [.int x, .int y]) := upd_same
    have s3 := Rd.sNew (o := .lst [.int x, .int y]) hp
    have s03 := s02.trans s3
    have nH : H p = none := by
      cases z : H p with
      | none => rfl
      | some u => rw [s02 _ _ z] at hp; cases hp
    generalize upd H2 p (.lst [.int x, .int y]) = H3 at hp3 s3 s03 ⊢
    clear s3 s02 hp
    repeat walk_at "rd"
    refine ⟨rfl, fun v4 H4 s4 d4 => ?_⟩
    have s04 := s03.trans s4
    repeat walk_at "rd"
    refine ⟨p, x, y, "unlike", v4, grN 4, rfl, s4 _ _ hp3, ok, by decide +kernel, gok, d4, fun H5 K5 => ?_⟩
    have hS5 : SqL K H5 a (ns.map V.int) := by
      refine Same.seq (H := H) (fun b u e => K5 b u (fun z => ?_) (s04 _ _ e)) hS
      rw [z, nH] at e
      cases e
    clear hp3 s03 s04 d4 K5 s4 nH ok hS gok glen gco
    repeat walk_at "rd"
    refine Rd.ff_ ?_
    repeat walk_at "rd"
    (try refine Rd.forR ?_)
    repeat walk_at "rd"
    refine Rd.rng (by (repeat' split) <;> omega) (by (repeat' split) <;> omega) ?_
    refine Rd.forGo (fun i σ Hc => SLw a σ ∧ Same H5 Hc) ⟨⟨_, _, _, _, rfl⟩, Same.refl _⟩ ?_ ?_
    · rintro i σ Hc hi ⟨⟨z1, z2, z3, z4, rfl⟩, s6⟩
      have i9 : i < 100 := by
        rw [List.length_map] at hi
        revert hi
        (repeat' split) <;> intro hi <;> omega
      repeat walk_at "rd"
      refine ⟨a, ns, (i : Int), rfl, s6.seq hS5, by omega, by omega, fun p x y hp ok => ?_⟩
      have hp7 : upd Hc p (.lst [.int x, .int y]) p = some (.lst [.int x, .int y]) := upd_same
      have s7 := Rd.sNew (o := .lst [.int x, .int y]) hp
      have s57 := s6.trans s7
      have nH : H5 p = none := by
        cases z : H5 p with
        | none => rfl
        | some u => rw [s6 _ _ z] at hp; cases hp
      generalize upd Hc p (.lst [.int x, .int y]) = H7 at hp7 s7 s57 ⊢
      clear s7 s6 hp
      repeat walk_at "rd"
      refine ⟨Rd.sz (by simp), fun lm hlm => ?_⟩
      have s8 := Rd.sNew (o := .lst (bodyM.map V.str)) hlm
      have em : upd H7 lm (.lst (bodyM.map V.str)) lm = some (.lst (bodyM.map V.str)) := upd_same
      have hp8 := s8 _ _ hp7
      have s58 := s57.trans s8
      show gName _ _ _ (upd H7 lm (.lst (bodyM.map V.str))) _
      generalize upd H7 lm (.lst (bodyM.map V.str)) = H8 at s8 em hp8 s58 ⊢
      clear s8 s57 hp7 hlm
      repeat walk_at "rd"
      refine oneSs (ws := bodyM) hp8 em (ne_lp em hp8) ok (by decide) (by decide) fun m H9 x9 y9 hm K9 hp9 ok9 => ?_
      repeat walk_at "rd"
      refine ⟨2, Nat.le_refl _, p, x9, y9, m, true, rfl, hp9, ok9, hm, fun v nd H10 x10 y10 K10 hp10 ok10 dv al dep sz => ?_⟩
      have sz : nd.size ≤ 13 := sz
      have bok : BdOk m nd := ⟨bodyM_in m hm, (bodyM_iff m (bodyM_in m hm)).mpr hm, al, by omega, by omega⟩
      repeat walk_at "rd"
      refine ⟨p, x10, y10, m, v, nd, rfl, hp10, ok10, hm, bok, dv, fun H11 K11 => ?_⟩
      have s511 : Same H5 H11 := fun b u e => by
        have ne : b ≠ p := fun z => by rw [z, nH] at e; cases e
        exact K11 b u ne (K10 b u ne (K9 b u ne (s58 _ _ e)))
      repeat walk_at "rd"
      refine Rd.ff_ ?_
      repeat walk_at "rd"
      exact ⟨⟨_, _, _, _, rfl⟩, s511⟩
    · rintro σ Hc ⟨⟨z1, z2, z3, z4, rfl⟩, s6⟩
      repeat walk_at "rd"
      exact q Hc
end
end Ab
namespace Ab
open PySem.Spec PyProof.Rows
abbrev sInit_NoName : Stmt := meth 3 0
theorem scInit_NoName : FnScope ["self", "value"] ["self", "value"] (defScope sInit_NoName) := ⟨rfl, rfl, rfl, by decide +kernel, rfl, by decide +kernel, by decide +kernel⟩
abbrev sInit_NoBody : Stmt := meth 4 0
theorem scInit_NoBody : FnScope ["self", "place"] ["self", "place"] (defScope sInit_NoBody) := ⟨rfl, rfl, rfl, by decide +kernel, rfl, by decide +kernel, by decide +kernel⟩
abbrev sInit_NoNote : Stmt := meth 5 0
theorem scInit_NoNote : FnScope ["self", "line"] ["self", "line"] (defScope sInit_NoNote) := ⟨rfl, rfl, rfl, by decide +kernel, rfl, by decide +kernel, by decide +kernel⟩
/-- a tuple that the top has written -/
theorem sqT_of {K : PySem.W.Frag} {p : Addr} {d : Option Addr} {its : Array Value} {m : Nat} {sl : Array (Option Value)} {xs : List V} (l : K.lookup p = some ⟨.type "tuple", d, .seq its m, sl⟩) (z : its.size ≤ sizeLine) (v : Vals xs its.toList) : ∀ H, SqT K H p xs :=
  fun _ => .inr ⟨_, its, m, l, rfl, rfl, z, v⟩
theorem kl_nil {P : Params} : PySem.W.KeysLit P [] := by unfold PySem.W.KeysLit; trivial
theorem kl_cons {P : Params} {x : Str} {t : Tok} {v : Value} {l : List DictEntry} (r : PySem.W.KeysLit P l) : PySem.W.KeysLit P (⟨PyData.keyHash P x, .str x t, v⟩ :: l) := by unfold PySem.W.KeysLit; exact ⟨⟨x, t, rfl, rfl⟩, r⟩
theorem kdct_of {K : PySem.W.Frag} {w : World} {p : Addr} {es : Array DictEntry} {m : Nat} (l : K.lookup p = some ⟨.type "dict", none, .dict es m, #[]⟩) (kl : PySem.W.KeysLit w.params es.toList) {x : Str} {u : Value} {v : V} (hn : PySem.W.nsIn K p x = some (some u)) (r : RelV v u) : KDct K w p x v :=
  ⟨es, m, u, l, kl, hn, r⟩
theorem kitCls_ref {K : PySem.W.Frag} {u : Value} {D : Addr} {b : Bool} (h2 : PySem.W.isClsIn K D = true) (h3 : PySem.W.typeIn K (.ref D) = some (.type "type")) (h4 : PySem.W.subIn K u (.ref D) = some b) : PySem.W.kitCls K u (.ref D) = some b := by
  have h2' : (PySem.W.clsIn K D).isSome = true := h2
  show (if ((PySem.W.clsIn K D).isSome && PySem.W.typeIn K (.ref D) == some (.type "type")) = true then PySem.W.subIn K u (.ref D) else none) = some b
  rw [h2', h3, if_pos (by rfl)]
  exact h4
theorem exm_own {K : PySem.W.Frag} {C : Addr} (h1 : PySem.W.subIn K (.ref C) (.type "BaseException") = some true) (h2 : PySem.W.isClsIn K C = true) (h3 : PySem.W.typeIn K (.ref C) = some (.type "type")) (h4 : PySem.W.subIn K (.ref C) (.ref C) = some true) : PySem.W.exmOne K (.ref C) (.ref C) = some true := by
  show (if (PySem.W.subIn K (.ref C) (.type "BaseException") == some true) = true then PySem.W.kitCls K (.ref C) (.ref C) else none) = some true
  rw [h1, if_pos (by rfl)]
  exact kitCls_ref h2 h3 h4
theorem kit_err {K : PySem.W.Frag} {C D : Addr} (h2 : PySem.W.isClsIn K D = true) (h3 : PySem.W.typeIn K (.ref D) = some (.type "type")) (h4 : PySem.W.subIn K (.ref C) (.ref D) = some true) : PySem.W.kitOne K (.ref C) (.ref D) = some true := by
  show (if (Value.ref C == Value.ref D) = true then some true else PySem.W.kitCls K (.ref C) (.ref D)) = some true
  split
  · rfl
  · exact kitCls_ref h2 h3 h4
theorem kit_value {K : PySem.W.Frag} {C : Addr} (h4 : PySem.W.subIn K (.ref C) (.type "ValueError") = some true) : PySem.W.kitOne K (.ref C) (.type "ValueError") = some true := by
  have e : (Value.ref C == Value.type "ValueError") = false := rfl
  show (if (Value.ref C == Value.type "ValueError") = true then some true else (if PySem.W.kitMeta "ValueError" = true then PySem.W.subIn K (.ref C) (.type "ValueError") else none)) = some true
  rw [e, if_neg Bool.false_ne_true, if_pos (by decide +kernel)]
  exact h4
theorem exm_not {K : PySem.W.Frag} {C D : Addr} (h1 : PySem.W.subIn K (.ref D) (.type "BaseException") = some true) (h2 : PySem.W.isClsIn K D = true) (h3 : PySem.W.typeIn K (.ref D) = some (.type "type")) (h4 : PySem.W.subIn K (.ref C) (.ref D) = some false) : PySem.W.exmOne K (.ref C) (.ref D) = some false := by
  show (if (PySem.W.subIn K (.ref D) (.type "BaseException") == some true) = true then PySem.W.kitCls K (.ref C) (.ref D) else none) = some false
  rw [h1, if_pos (by rfl)]
  exact kitCls_ref h2 h3 h4
theorem kit_not {K : PySem.W.Frag} {C D : Addr} (h2 : PySem.W.isClsIn K D = true) (h3 : PySem.W.typeIn K (.ref D) = some (.type "type")) (h4 : PySem.W.subIn K (.ref C) (.ref D) = some false) (h5 : PySem.W.subIn K (.ref D) (.ref D) = some true) : PySem.W.kitOne K (.ref C) (.ref D) = some false := by
  show (if (Value.ref C == Value.ref D) = true then some true else PySem.W.kitCls K (.ref C) (.ref D)) = some false
  by_cases e : C = D
  · subst e
    rw [h4] at h5
    cases h5
  · rw [if_neg (fun z => e (by simpa using z))]
    exact kitCls_ref h2 h3 h4
def keyTxt (e : DictEntry) : Option Str := match e.key with
  | .str x _ => some x
  | _ => none
theorem find_keys {z : Str} : ∀ {l : List DictEntry} {ks : List Str}, l.map keyTxt = ks.map some → (z ∉ ks → l.find? (·.key.isStr z) = none) ∧ (z ∈ ks → ∃ e, l.find? (·.key.isStr z) = some e) ∧ l.any (·.refKey) = false
  | [], [], _ => ⟨fun _ => rfl, (fun h => by cases h), rfl⟩
  | [], _ :: _, h => by cases h
  | _ :: _, [], h => by cases h
  | d :: l, k :: ks, h => by
    have h1 := (List.cons.inj h).1
    obtain ⟨a, b, c⟩ := find_keys (z := z) (List.cons.inj h).2
    obtain ⟨key, x, v⟩ : ∃ (x : Str) (t : Tok), d.key = .str x t := by
      unfold keyTxt at h1
      split at h1
      · exact ⟨_, _, by assumption⟩
      · cases h1
    have ek : key = k := by
      rw [keyTxt, v] at h1
      exact Option.some.inj h1
    subst ek
    have es : d.key.isStr z = (key == z) := by rw [v]; rfl
    have er : d.refKey = false := by unfold DictEntry.refKey; rw [v]
    refine ⟨fun hz => ?_, fun hz => ?_, ?_⟩
    · rw [List.find?_cons_of_neg (by rw [es]; simp; intro e; exact hz (e ▸ List.mem_cons_self))]
      exact a fun m => hz (List.mem_cons_of_mem _ m)
    · by_cases e : key = z
      · exact ⟨d, List.find?_cons_of_pos (by rw [es]; simpa using e)⟩
      · rw [List.find?_cons_of_neg (by rw [es]; simpa using e)]
        exact b ((List.mem_cons.mp hz).resolve_left fun q => e q.symm)
    · rw [List.any_cons, er, c]; rfl
theorem ns_of {K : PySem.W.Frag} {p : Addr} {c : Value} {d : Option Addr} {es : Array DictEntry} {n : Nat} {s : Array (Option Value)} (l : K.lookup p = some ⟨c, d, .dict es n, s⟩) {ks : List Str} (x : es.toList.map keyTxt = ks.map some) (z : Str) : (z ∉ ks → PySem.W.nsIn K p z = some none) ∧ (z ∈ ks → ∃ v, PySem.W.nsIn K p z = some (some v)) := by
  obtain ⟨a, b, r⟩ := find_keys (z := z) x
  refine ⟨fun h => ?_, fun h => ?_⟩
  · unfold PySem.W.nsIn
    rw [l]
    show (match es.toList.find? (·.key.isStr z) with | some e => some (some e.val) | none => if es.toList.any (·.refKey) then none else some none) = some none
    rw [a h]
    show (if es.toList.any (·.refKey) then none else some none) = some none
    rw [r]
    rfl
  · obtain ⟨e, he⟩ := b h
    refine ⟨e.val, ?_⟩
    unfold PySem.W.nsIn
    rw [l]
    show (match es.toList.find? (·.key.isStr z) with | some e => some (some e.val) | none => if es.toList.any (·.refKey) then none else some none) = _
    rw [he]
theorem kit_ty {K : PySem.W.Frag} {C : Addr} {t : String} (h2 : PySem.W.isClsIn K C = true) (h3 : PySem.W.typeIn K (.ref C) = some (.type "type")) (h4 : PySem.W.subIn K (.type t) (.ref C) = some false) : PySem.W.kitOne K (.type t) (.ref C) = some false ∧ PySem.W.notFirst K C (.type t) = true := by
  have ne : (Value.type t == Value.ref C) = false := rfl
  refine ⟨?_, ?_⟩
  · show (if (Value.type t == Value.ref C) = true then some true else PySem.W.kitCls K (.type t) (.ref C)) = some false
    rw [ne, if_neg Bool.false_ne_true]
    exact kitCls_ref h2 h3 h4
  · show ((Value.type t == Value.ref C) || PySem.W.subIn K (.type t) (.ref C) == some false) = true
    rw [h4, ne]
    rfl
section
variable {P : Program} {w : World} {K : PySem.W.Frag} {mg : Str → Option Value} {base : Heap}
theorem ok_init_NoName {C fI : Addr} {fd : FuncData} (T : Ex.ErrC K mg "NoName" "value" C) (F : Fun K "__init__" "NoName.__init__" sInit_NoName fI fd) : FnOk P w K mg base CX0 1 fI fd ["self", "value"] (Ex.spInit C "value") := by
  refine F.ok scInit_NoName (fun vs H Q E h => ?_) (fun cdv A outer s H vs Q E hr h => ⟨_, pss_one (ps_ost (pv 0) (pv 1)), ?_⟩)
  · obtain ⟨a, v, rfl, _⟩ := h
    rfl
  · obtain ⟨a, v, rfl, ha, q⟩ := h
    exact ⟨_, rfl, _, rfl, a, C, rfl, T.t, T.no, .inl ⟨ha, q⟩⟩
theorem ok_init_NoBody {C fI : Addr} {fd : FuncData} (T : Ex.ErrC K mg "NoBody" "place" C) (F : Fun K "__init__" "NoBody.__init__" sInit_NoBody fI fd) : FnOk P w K mg base CX0 1 fI fd ["self", "place"] (Ex.spInit C "place") := by
  refine F.ok scInit_NoBody (fun vs H Q E h => ?_) (fun cdv A outer s H vs Q E hr h => ⟨_, pss_one (ps_ost (pv 0) (pv 1)), ?_⟩)
  · obtain ⟨a, v, rfl, _⟩ := h
    rfl
  · obtain ⟨a, v, rfl, ha, q⟩ := h
    exact ⟨_, rfl, _, rfl, a, C, rfl, T.t, T.no, .inl ⟨ha, q⟩⟩
theorem ok_init_NoNote {C fI : Addr} {fd : FuncData} (T : Ex.ErrC K mg "NoNote" "line" C) (F : Fun K "__init__" "NoNote.__init__" sInit_NoNote fI fd) : FnOk P w K mg base CX0 1 fI fd ["self", "line"] (Ex.spInit C "line") := by
  refine F.ok scInit_NoNote (fun vs H Q E h => ?_) (fun cdv A outer s H vs Q E hr h => ⟨_, pss_one (ps_ost (pv 0) (pv 1)), ?_⟩)
  · obtain ⟨a, v, rfl, _⟩ := h
    rfl
  · obtain ⟨a, v, rfl, ha, q⟩ := h
    exact ⟨_, rfl, _, rfl, a, C, rfl, T.t, T.no, .inl ⟨ha, q⟩⟩
theorem ok_initH_NoNote {C fI : Addr} {fd : FuncData} (T : Ex.ErrC K mg "NoNote" "line" C) (F : Fun K "__init__" "NoNote.__init__" sInit_NoNote fI fd) : L2H.FnH P w K mg base CX0 1 fI fd ["self", "line"] (Ex.spInit C "line") := by
  obtain ⟨oc, od, kV, doc, pm, an, cd, ct, osl, rfl, lk, hcd⟩ := F.ex
  refine L2H.fn_ofH (k := 0) lk hcd scInit_NoNote (fun vs H Q E h => ?_) (fun A outer s H vs Q E p hot hr h => ⟨_, pss_one (ps_ost (pv 0) (pv 1)), ?_⟩)
  · obtain ⟨a, v, rfl, _⟩ := h
    rfl
  · obtain ⟨a, v, rfl, ha, q⟩ := h
    exact ⟨_, rfl, _, rfl, a, C, rfl, T.t, T.no, .inl ⟨ha, q⟩⟩
end
theorem all_mk {l : PySem.W.OpenLaw} {w : World} {K : PySem.W.Frag} {h : Heap} {mg : Str → Option Value} {fa : Addr} (X : K.In h) (G : h.Ns mainGlobals mg) (hfa : mg "law" = some (.ref fa))
    {f1 : Addr} (a1 : PySem.W.nsIn K mainGlobals "is_number" = some (some (.ref f1)))
    {od1 an1 : Option Addr} {sl1 : Array (Option Value)} {oc1 kV1 dc1 pm1 cd1 ct1 : Value}
    (l1 : K.lookup f1 = some ⟨oc1, od1, .func (PySem.W.fnOf "is_number" "is_number" (defArgs sIs_number) (defBody sIs_number) (defScope sIs_number) .none kV1 dc1 pm1 an1 cd1 ct1), sl1⟩)
    (c1 : PySem.W.codeIn K cd1 "is_number" = true)
    (k1 : PySem.W.keepIn K (.ref f1) = true)
    {f2 : Addr} (a2 : PySem.W.nsIn K mainGlobals "is_one_of" = some (some (.ref f2)))
    {od2 an2 : Option Addr} {sl2 : Array (Option Value)} {oc2 kV2 dc2 pm2 cd2 ct2 : Value}
    (l2 : K.lookup f2 = some ⟨oc2, od2, .func (PySem.W.fnOf "is_one_of" "is_one_of" (defArgs sIs_one_of) (defBody sIs_one_of) (defScope sIs_one_of) .none kV2 dc2 pm2 an2 cd2 ct2), sl2⟩)
    (c2 : PySem.W.codeIn K cd2 "is_one_of" = true)
    (k2 : PySem.W.keepIn K (.ref f2) = true)
    {f3 : Addr} (a3 : PySem.W.nsIn K mainGlobals "check_method" = some (some (.ref f3)))
    {od3 an3 : Option Addr} {sl3 : Array (Option Value)} {oc3 kV3 dc3 pm3 cd3 ct3 : Value}
    (l3 : K.lookup f3 = some ⟨oc3, od3, .func (PySem.W.fnOf "check_method" "check_method" (defArgs sCheck_method) (defBody sCheck_method) (defScope sCheck_method) .none kV3 dc3 pm3 an3 cd3 ct3), sl3⟩)
    (c3 : PySem.W.codeIn K cd3 "check_method" = true)
    (k3 : PySem.W.keepIn K (.ref f3) = true)
    {f4 : Addr} (a4 : PySem.W.nsIn K mainGlobals "kind_of" = some (some (.ref f4)))
    {od4 an4 : Option Addr} {sl4 : Array (Option Value)} {oc4 kV4 dc4 pm4 cd4 ct4 : Value}
    (l4 : K.lookup f4 = some ⟨oc4, od4, .func (PySem.W.fnOf "kind_of" "kind_of" (defArgs sKind_of) (defBody sKind_of) (defScope sKind_of) .none kV4 dc4 pm4 an4 cd4 ct4), sl4⟩)
    (c4 : PySem.W.codeIn K cd4 "kind_of" = true)
    (k4 : PySem.W.keepIn K (.ref f4) = true)
    {f5 : Addr} (a5 : PySem.W.nsIn K mainGlobals "takes_other" = some (some (.ref f5)))
    {od5 an5 : Option Addr} {sl5 : Array (Option Value)} {oc5 kV5 dc5 pm5 cd5 ct5 : Value}
    (l5 : K.lookup f5 = some ⟨oc5, od5, .func (PySem.W.fnOf "takes_other" "takes_other" (defArgs sTakes_other) (defBody sTakes_other) (defScope sTakes_other) .none kV5 dc5 pm5 an5 cd5 ct5), sl5⟩)
    (c5 : PySem.W.codeIn K cd5 "takes_other" = true)
    (k5 : PySem.W.keepIn K (.ref f5) = true)
    {f6 : Addr} (a6 : PySem.W.nsIn K mainGlobals "may_decline" = some (some (.ref f6)))
    {od6 an6 : Option Addr} {sl6 : Array (Option Value)} {oc6 kV6 dc6 pm6 cd6 ct6 : Value}
    (l6 : K.lookup f6 = some ⟨oc6, od6, .func (PySem.W.fnOf "may_decline" "may_decline" (defArgs sMay_decline) (defBody sMay_decline) (defScope sMay_decline) .none kV6 dc6 pm6 an6 cd6 ct6), sl6⟩)
    (c6 : PySem.W.codeIn K cd6 "may_decline" = true)
    (k6 : PySem.W.keepIn K (.ref f6) = true)
    {f7 : Addr} (a7 : PySem.W.nsIn K mainGlobals "is_count" = some (some (.ref f7)))
    {od7 an7 : Option Addr} {sl7 : Array (Option Value)} {oc7 kV7 dc7 pm7 cd7 ct7 : Value}
    (l7 : K.lookup f7 = some ⟨oc7, od7, .func (PySem.W.fnOf "is_count" "is_count" (defArgs sIs_count) (defBody sIs_count) (defScope sIs_count) .none kV7 dc7 pm7 an7 cd7 ct7), sl7⟩)
    (c7 : PySem.W.codeIn K cd7 "is_count" = true)
    (k7 : PySem.W.keepIn K (.ref f7) = true)
    {f8 : Addr} (a8 : PySem.W.nsIn K mainGlobals "check_body_method" = some (some (.ref f8)))
    {od8 an8 : Option Addr} {sl8 : Array (Option Value)} {oc8 kV8 dc8 pm8 cd8 ct8 : Value}
    (l8 : K.lookup f8 = some ⟨oc8, od8, .func (PySem.W.fnOf "check_body_method" "check_body_method" (defArgs sCheck_body_method) (defBody sCheck_body_method) (defScope sCheck_body_method) .none kV8 dc8 pm8 an8 cd8 ct8), sl8⟩)
    (c8 : PySem.W.codeIn K cd8 "check_body_method" = true)
    (k8 : PySem.W.keepIn K (.ref f8) = true)
    {f9 : Addr} (a9 : PySem.W.nsIn K mainGlobals "_is_role" = some (some (.ref f9)))
    {od9 an9 : Option Addr} {sl9 : Array (Option Value)} {oc9 kV9 dc9 pm9 cd9 ct9 : Value}
    (l9 : K.lookup f9 = some ⟨oc9, od9, .func (PySem.W.fnOf "_is_role" "_is_role" (defArgs sIs_role) (defBody sIs_role) (defScope sIs_role) .none kV9 dc9 pm9 an9 cd9 ct9), sl9⟩)
    (c9 : PySem.W.codeIn K cd9 "_is_role" = true)
    (k9 : PySem.W.keepIn K (.ref f9) = true)
    {f10 : Addr} (a10 : PySem.W.nsIn K mainGlobals "_is_ask" = some (some (.ref f10)))
    {od10 an10 : Option Addr} {sl10 : Array (Option Value)} {oc10 kV10 dc10 pm10 cd10 ct10 : Value}
    (l10 : K.lookup f10 = some ⟨oc10, od10, .func (PySem.W.fnOf "_is_ask" "_is_ask" (defArgs sIs_ask) (defBody sIs_ask) (defScope sIs_ask) .none kV10 dc10 pm10 an10 cd10 ct10), sl10⟩)
    (c10 : PySem.W.codeIn K cd10 "_is_ask" = true)
    (k10 : PySem.W.keepIn K (.ref f10) = true)
    {f11 : Addr} (a11 : PySem.W.nsIn K mainGlobals "_is_word_alone" = some (some (.ref f11)))
    {od11 an11 : Option Addr} {sl11 : Array (Option Value)} {oc11 kV11 dc11 pm11 cd11 ct11 : Value}
    (l11 : K.lookup f11 = some ⟨oc11, od11, .func (PySem.W.fnOf "_is_word_alone" "_is_word_alone" (defArgs sIs_word_alone) (defBody sIs_word_alone) (defScope sIs_word_alone) .none kV11 dc11 pm11 an11 cd11 ct11), sl11⟩)
    (c11 : PySem.W.codeIn K cd11 "_is_word_alone" = true)
    (k11 : PySem.W.keepIn K (.ref f11) = true)
    {f12 : Addr} (a12 : PySem.W.nsIn K mainGlobals "_is_node" = some (some (.ref f12)))
    {od12 an12 : Option Addr} {sl12 : Array (Option Value)} {oc12 kV12 dc12 pm12 cd12 ct12 : Value}
    (l12 : K.lookup f12 = some ⟨oc12, od12, .func (PySem.W.fnOf "_is_node" "_is_node" (defArgs sIs_node) (defBody sIs_node) (defScope sIs_node) .none kV12 dc12 pm12 an12 cd12 ct12), sl12⟩)
    (c12 : PySem.W.codeIn K cd12 "_is_node" = true)
    (k12 : PySem.W.keepIn K (.ref f12) = true)
    {f13 : Addr} (a13 : PySem.W.nsIn K mainGlobals "_parts" = some (some (.ref f13)))
    {od13 an13 : Option Addr} {sl13 : Array (Option Value)} {oc13 kV13 dc13 pm13 cd13 ct13 : Value}
    (l13 : K.lookup f13 = some ⟨oc13, od13, .func (PySem.W.fnOf "_parts" "_parts" (defArgs sParts) (defBody sParts) (defScope sParts) .none kV13 dc13 pm13 an13 cd13 ct13), sl13⟩)
    (c13 : PySem.W.codeIn K cd13 "_parts" = true)
    (k13 : PySem.W.keepIn K (.ref f13) = true)
    {f14 : Addr} (a14 : PySem.W.nsIn K mainGlobals "_tails" = some (some (.ref f14)))
    {od14 an14 : Option Addr} {sl14 : Array (Option Value)} {oc14 kV14 dc14 pm14 cd14 ct14 : Value}
    (l14 : K.lookup f14 = some ⟨oc14, od14, .func (PySem.W.fnOf "_tails" "_tails" (defArgs sTails) (defBody sTails) (defScope sTails) .none kV14 dc14 pm14 an14 cd14 ct14), sl14⟩)
    (c14 : PySem.W.codeIn K cd14 "_tails" = true)
    (k14 : PySem.W.keepIn K (.ref f14) = true)
    {f15 : Addr} (a15 : PySem.W.nsIn K mainGlobals "_first_wrong" = some (some (.ref f15)))
    {od15 an15 : Option Addr} {sl15 : Array (Option Value)} {oc15 kV15 dc15 pm15 cd15 ct15 : Value}
    (l15 : K.lookup f15 = some ⟨oc15, od15, .func (PySem.W.fnOf "_first_wrong" "_first_wrong" (defArgs sFirst_wrong) (defBody sFirst_wrong) (defScope sFirst_wrong) .none kV15 dc15 pm15 an15 cd15 ct15), sl15⟩)
    (c15 : PySem.W.codeIn K cd15 "_first_wrong" = true)
    (k15 : PySem.W.keepIn K (.ref f15) = true)
    {f16 : Addr} (a16 : PySem.W.nsIn K mainGlobals "_numbered" = some (some (.ref f16)))
    {od16 an16 : Option Addr} {sl16 : Array (Option Value)} {oc16 kV16 dc16 pm16 cd16 ct16 : Value}
    (l16 : K.lookup f16 = some ⟨oc16, od16, .func (PySem.W.fnOf "_numbered" "_numbered" (defArgs sNumbered) (defBody sNumbered) (defScope sNumbered) .none kV16 dc16 pm16 an16 cd16 ct16), sl16⟩)
    (c16 : PySem.W.codeIn K cd16 "_numbered" = true)
    (k16 : PySem.W.keepIn K (.ref f16) = true)
    {f17 : Addr} (a17 : PySem.W.nsIn K mainGlobals "_words_of" = some (some (.ref f17)))
    {od17 an17 : Option Addr} {sl17 : Array (Option Value)} {oc17 kV17 dc17 pm17 cd17 ct17 : Value}
    (l17 : K.lookup f17 = some ⟨oc17, od17, .func (PySem.W.fnOf "_words_of" "_words_of" (defArgs sWords_of) (defBody sWords_of) (defScope sWords_of) .none kV17 dc17 pm17 an17 cd17 ct17), sl17⟩)
    (c17 : PySem.W.codeIn K cd17 "_words_of" = true)
    (k17 : PySem.W.keepIn K (.ref f17) = true)
    {f18 : Addr} (a18 : PySem.W.nsIn K mainGlobals "write_body" = some (some (.ref f18)))
    {od18 an18 : Option Addr} {sl18 : Array (Option Value)} {oc18 kV18 dc18 pm18 cd18 ct18 : Value}
    (l18 : K.lookup f18 = some ⟨oc18, od18, .func (PySem.W.fnOf "write_body" "write_body" (defArgs sWrite_body) (defBody sWrite_body) (defScope sWrite_body) .none kV18 dc18 pm18 an18 cd18 ct18), sl18⟩)
    (c18 : PySem.W.codeIn K cd18 "write_body" = true)
    (k18 : PySem.W.keepIn K (.ref f18) = true)
    {f19 : Addr} (a19 : PySem.W.nsIn K mainGlobals "_many_words" = some (some (.ref f19)))
    {od19 an19 : Option Addr} {sl19 : Array (Option Value)} {oc19 kV19 dc19 pm19 cd19 ct19 : Value}
    (l19 : K.lookup f19 = some ⟨oc19, od19, .func (PySem.W.fnOf "_many_words" "_many_words" (defArgs sMany_words) (defBody sMany_words) (defScope sMany_words) .none kV19 dc19 pm19 an19 cd19 ct19), sl19⟩)
    (c19 : PySem.W.codeIn K cd19 "_many_words" = true)
    (k19 : PySem.W.keepIn K (.ref f19) = true)
    {f20 : Addr} (a20 : PySem.W.nsIn K mainGlobals "_read_expression" = some (some (.ref f20)))
    {od20 an20 : Option Addr} {sl20 : Array (Option Value)} {oc20 kV20 dc20 pm20 cd20 ct20 : Value}
    (l20 : K.lookup f20 = some ⟨oc20, od20, .func (PySem.W.fnOf "_read_expression" "_read_expression" (defArgs sRead_expression) (defBody sRead_expression) (defScope sRead_expression) .none kV20 dc20 pm20 an20 cd20 ct20), sl20⟩)
    (c20 : PySem.W.codeIn K cd20 "_read_expression" = true)
    (k20 : PySem.W.keepIn K (.ref f20) = true)
    {f21 : Addr} (a21 : PySem.W.nsIn K mainGlobals "read_body" = some (some (.ref f21)))
    {od21 an21 : Option Addr} {sl21 : Array (Option Value)} {oc21 kV21 dc21 pm21 cd21 ct21 : Value}
    (l21 : K.lookup f21 = some ⟨oc21, od21, .func (PySem.W.fnOf "read_body" "read_body" (defArgs sRead_body) (defBody sRead_body) (defScope sRead_body) .none kV21 dc21 pm21 an21 cd21 ct21), sl21⟩)
    (c21 : PySem.W.codeIn K cd21 "read_body" = true)
    (k21 : PySem.W.keepIn K (.ref f21) = true)
    {f22 : Addr} (a22 : PySem.W.nsIn K mainGlobals "_law_pool" = some (some (.ref f22)))
    {od22 an22 : Option Addr} {sl22 : Array (Option Value)} {oc22 kV22 dc22 pm22 cd22 ct22 : Value}
    (l22 : K.lookup f22 = some ⟨oc22, od22, .func (PySem.W.fnOf "_law_pool" "_law_pool" (defArgs sL_pool) (defBody sL_pool) (defScope sL_pool) .none kV22 dc22 pm22 an22 cd22 ct22), sl22⟩)
    (c22 : PySem.W.codeIn K cd22 "_law_pool" = true)
    (k22 : PySem.W.keepIn K (.ref f22) = true)
    {f23 : Addr} (a23 : PySem.W.nsIn K mainGlobals "_law_take" = some (some (.ref f23)))
    {od23 an23 : Option Addr} {sl23 : Array (Option Value)} {oc23 kV23 dc23 pm23 cd23 ct23 : Value}
    (l23 : K.lookup f23 = some ⟨oc23, od23, .func (PySem.W.fnOf "_law_take" "_law_take" (defArgs sL_take) (defBody sL_take) (defScope sL_take) .none kV23 dc23 pm23 an23 cd23 ct23), sl23⟩)
    (c23 : PySem.W.codeIn K cd23 "_law_take" = true)
    (k23 : PySem.W.keepIn K (.ref f23) = true)
    {f24 : Addr} (a24 : PySem.W.nsIn K mainGlobals "_law_one" = some (some (.ref f24)))
    {od24 an24 : Option Addr} {sl24 : Array (Option Value)} {oc24 kV24 dc24 pm24 cd24 ct24 : Value}
    (l24 : K.lookup f24 = some ⟨oc24, od24, .func (PySem.W.fnOf "_law_one" "_law_one" (defArgs sL_one) (defBody sL_one) (defScope sL_one) .none kV24 dc24 pm24 an24 cd24 ct24), sl24⟩)
    (c24 : PySem.W.codeIn K cd24 "_law_one" = true)
    (k24 : PySem.W.keepIn K (.ref f24) = true)
    {f25 : Addr} (a25 : PySem.W.nsIn K mainGlobals "_law_leaf" = some (some (.ref f25)))
    {od25 an25 : Option Addr} {sl25 : Array (Option Value)} {oc25 kV25 dc25 pm25 cd25 ct25 : Value}
    (l25 : K.lookup f25 = some ⟨oc25, od25, .func (PySem.W.fnOf "_law_leaf" "_law_leaf" (defArgs sL_leaf) (defBody sL_leaf) (defScope sL_leaf) .none kV25 dc25 pm25 an25 cd25 ct25), sl25⟩)
    (c25 : PySem.W.codeIn K cd25 "_law_leaf" = true)
    (k25 : PySem.W.keepIn K (.ref f25) = true)
    {f26 : Addr} (a26 : PySem.W.nsIn K mainGlobals "_law_asking" = some (some (.ref f26)))
    {od26 an26 : Option Addr} {sl26 : Array (Option Value)} {oc26 kV26 dc26 pm26 cd26 ct26 : Value}
    (l26 : K.lookup f26 = some ⟨oc26, od26, .func (PySem.W.fnOf "_law_asking" "_law_asking" (defArgs sL_asking) (defBody sL_asking) (defScope sL_asking) .none kV26 dc26 pm26 an26 cd26 ct26), sl26⟩)
    (c26 : PySem.W.codeIn K cd26 "_law_asking" = true)
    (k26 : PySem.W.keepIn K (.ref f26) = true)
    {f27 : Addr} (a27 : PySem.W.nsIn K mainGlobals "_law_deep" = some (some (.ref f27)))
    {od27 an27 : Option Addr} {sl27 : Array (Option Value)} {oc27 kV27 dc27 pm27 cd27 ct27 : Value}
    (l27 : K.lookup f27 = some ⟨oc27, od27, .func (PySem.W.fnOf "_law_deep" "_law_deep" (defArgs sL_deep) (defBody sL_deep) (defScope sL_deep) .none kV27 dc27 pm27 an27 cd27 ct27), sl27⟩)
    (c27 : PySem.W.codeIn K cd27 "_law_deep" = true)
    (k27 : PySem.W.keepIn K (.ref f27) = true)
    {f28 : Addr} (a28 : PySem.W.nsIn K mainGlobals "_law_flat" = some (some (.ref f28)))
    {od28 an28 : Option Addr} {sl28 : Array (Option Value)} {oc28 kV28 dc28 pm28 cd28 ct28 : Value}
    (l28 : K.lookup f28 = some ⟨oc28, od28, .func (PySem.W.fnOf "_law_flat" "_law_flat" (defArgs sL_flat) (defBody sL_flat) (defScope sL_flat) .none kV28 dc28 pm28 an28 cd28 ct28), sl28⟩)
    (c28 : PySem.W.codeIn K cd28 "_law_flat" = true)
    (k28 : PySem.W.keepIn K (.ref f28) = true)
    {f29 : Addr} (a29 : PySem.W.nsIn K mainGlobals "_law_read" = some (some (.ref f29)))
    {od29 an29 : Option Addr} {sl29 : Array (Option Value)} {oc29 kV29 dc29 pm29 cd29 ct29 : Value}
    (l29 : K.lookup f29 = some ⟨oc29, od29, .func (PySem.W.fnOf "_law_read" "_law_read" (defArgs sL_read) (defBody sL_read) (defScope sL_read) .none kV29 dc29 pm29 an29 cd29 ct29), sl29⟩)
    (c29 : PySem.W.codeIn K cd29 "_law_read" = true)
    (k29 : PySem.W.keepIn K (.ref f29) = true)
    {f30 : Addr} (a30 : PySem.W.nsIn K mainGlobals "_law_due" = some (some (.ref f30)))
    {od30 an30 : Option Addr} {sl30 : Array (Option Value)} {oc30 kV30 dc30 pm30 cd30 ct30 : Value}
    (l30 : K.lookup f30 = some ⟨oc30, od30, .func (PySem.W.fnOf "_law_due" "_law_due" (defArgs sL_due) (defBody sL_due) (defScope sL_due) .none kV30 dc30 pm30 an30 cd30 ct30), sl30⟩)
    (c30 : PySem.W.codeIn K cd30 "_law_due" = true)
    (k30 : PySem.W.keepIn K (.ref f30) = true)
    {f31 : Addr} (a31 : PySem.W.nsIn K mainGlobals "_law_bent" = some (some (.ref f31)))
    {od31 an31 : Option Addr} {sl31 : Array (Option Value)} {oc31 kV31 dc31 pm31 cd31 ct31 : Value}
    (l31 : K.lookup f31 = some ⟨oc31, od31, .func (PySem.W.fnOf "_law_bent" "_law_bent" (defArgs sL_bent) (defBody sL_bent) (defScope sL_bent) .none kV31 dc31 pm31 an31 cd31 ct31), sl31⟩)
    (c31 : PySem.W.codeIn K cd31 "_law_bent" = true)
    (k31 : PySem.W.keepIn K (.ref f31) = true)
    {f32 : Addr} (a32 : PySem.W.nsIn K mainGlobals "_law_right" = some (some (.ref f32)))
    {od32 an32 : Option Addr} {sl32 : Array (Option Value)} {oc32 kV32 dc32 pm32 cd32 ct32 : Value}
    (l32 : K.lookup f32 = some ⟨oc32, od32, .func (PySem.W.fnOf "_law_right" "_law_right" (defArgs sL_right) (defBody sL_right) (defScope sL_right) .none kV32 dc32 pm32 an32 cd32 ct32), sl32⟩)
    (c32 : PySem.W.codeIn K cd32 "_law_right" = true)
    (k32 : PySem.W.keepIn K (.ref f32) = true)
    {f33 : Addr} (a33 : PySem.W.nsIn K mainGlobals "_law_greatest" = some (some (.ref f33)))
    {od33 an33 : Option Addr} {sl33 : Array (Option Value)} {oc33 kV33 dc33 pm33 cd33 ct33 : Value}
    (l33 : K.lookup f33 = some ⟨oc33, od33, .func (PySem.W.fnOf "_law_greatest" "_law_greatest" (defArgs sL_greatest) (defBody sL_greatest) (defScope sL_greatest) .none kV33 dc33 pm33 an33 cd33 ct33), sl33⟩)
    (c33 : PySem.W.codeIn K cd33 "_law_greatest" = true)
    (k33 : PySem.W.keepIn K (.ref f33) = true)
    {f34 : Addr} (a34 : PySem.W.nsIn K mainGlobals "law" = some (some (.ref f34)))
    {od34 an34 : Option Addr} {sl34 : Array (Option Value)} {oc34 kV34 dc34 pm34 cd34 ct34 : Value}
    (l34 : K.lookup f34 = some ⟨oc34, od34, .func (PySem.W.fnOf "law" "law" (defArgs sLaw) (defBody sLaw) (defScope sLaw) .none kV34 dc34 pm34 an34 cd34 ct34), sl34⟩)
    (c34 : PySem.W.codeIn K cd34 "law" = true)
    (k34 : PySem.W.keepIn K (.ref f34) = true)
    (z_int : PySem.W.nsIn K mainGlobals "int" = some none)
    (z_len : PySem.W.nsIn K mainGlobals "len" = some none)
    (z_max : PySem.W.nsIn K mainGlobals "max" = some none)
    (z_min : PySem.W.nsIn K mainGlobals "min" = some none)
    (z_isinstance : PySem.W.nsIn K mainGlobals "isinstance" = some none)
    (z_range : PySem.W.nsIn K mainGlobals "range" = some none)
    (z_list : PySem.W.nsIn K mainGlobals "list" = some none)
    (z_dict : PySem.W.nsIn K mainGlobals "dict" = some none)
    (z_tuple : PySem.W.nsIn K mainGlobals "tuple" = some none)
    (z_set : PySem.W.nsIn K mainGlobals "set" = some none)
    (z_str : PySem.W.nsIn K mainGlobals "str" = some none)
    (z_bool : PySem.W.nsIn K mainGlobals "bool" = some none)
    (z_repr : PySem.W.nsIn K mainGlobals "repr" = some none)
    (z_all : PySem.W.nsIn K mainGlobals "all" = some none)
    (z_sum : PySem.W.nsIn K mainGlobals "sum" = some none)
    (z_zip : PySem.W.nsIn K mainGlobals "zip" = some none)
    {CA : Addr}
    (aA : PySem.W.nsIn K mainGlobals "AnswerError" = some (some (.ref CA)))
    (hsp : PySem.W.specialIn K (.builtin "object.__class__") "__get__" = some (some (.builtin "getset_descriptor.__get__")))
    (htk : PySem.W.takesIn K (.builtin "object.__class__") = some true)
    {C_NoName N_NoName : Addr} {nm_NoName q_NoName : Str} {bs_NoName : List Value} {sn_NoName : List Str} {sub_NoName : List Value} {ab_NoName : Bool} {col_NoName : Option Bool} {dd_NoName : Option Addr} {m0_NoName m1_NoName m2_NoName m3_NoName m5_NoName : Option Value}
    (aC_NoName : PySem.W.nsIn K mainGlobals "NoName" = some (some (.ref C_NoName)))
    (xL_NoName : K.lookup C_NoName = some (excClassObj nm_NoName q_NoName C_NoName N_NoName bs_NoName [.ref CA, .type "ValueError", .type "Exception", .type "BaseException", .type "object"] true sn_NoName sub_NoName ab_NoName col_NoName dd_NoName m0_NoName m1_NoName m2_NoName m3_NoName m5_NoName "ValueError.__new__"))
    (sa_NoName : PySem.W.findIn K (.ref C_NoName) "__setattr__" = some (some (.builtin "object.__setattr__")))
    (eC_NoName : PySem.W.subIn K (.ref C_NoName) (.type "BaseException") = some true)
    (tC_NoName : PySem.W.typeIn K (.ref C_NoName) = some (.type "type"))
    (kC_NoName : PySem.W.keepIn K (.ref C_NoName) = true)
    (ga_NoName : PySem.W.findIn K (.ref C_NoName) "__getattribute__" = some (some (.builtin "BaseException.__getattribute__")))
    (gg_NoName : PySem.W.findIn K (.ref C_NoName) "__getattr__" = some none)
    (hC_NoName : PySem.W.hasDictIn K C_NoName = true)
    (hcl_NoName : PySem.W.findIn K (.ref C_NoName) "__class__" = some (some (.builtin "object.__class__")))
    (hmr_NoName : PySem.W.mroIn K C_NoName (.type "object") = some true)
    (nf_NoName : PySem.W.findIn K (.ref C_NoName) "value" = some none)
    (cC_NoName : PySem.W.isClsIn K C_NoName = true)
    (sC_NoName : PySem.W.subIn K (.ref C_NoName) (.ref C_NoName) = some true)
    {fI_NoName : Addr}
    (iI_NoName : PySem.W.findIn K (.ref C_NoName) "__init__" = some (some (.ref fI_NoName)))
    (tI_NoName : PySem.W.typeIn K (.ref fI_NoName) = some (.type "function"))
    {odI_NoName anI_NoName : Option Addr} {slI_NoName : Array (Option Value)} {ocI_NoName dcI_NoName pmI_NoName cdI_NoName ctI_NoName : Value}
    (lI_NoName : K.lookup fI_NoName = some ⟨ocI_NoName, odI_NoName, .func (PySem.W.fnOf "__init__" "NoName.__init__" (defArgs sInit_NoName) (defBody sInit_NoName) (defScope sInit_NoName) .none .none dcI_NoName pmI_NoName anI_NoName cdI_NoName ctI_NoName), slI_NoName⟩)
    (cI_NoName : PySem.W.codeIn K cdI_NoName "NoName.__init__" = true)
    (kI_NoName : PySem.W.keepIn K (.ref fI_NoName) = true)
    {C_NoBody N_NoBody : Addr} {nm_NoBody q_NoBody : Str} {bs_NoBody : List Value} {sn_NoBody : List Str} {sub_NoBody : List Value} {ab_NoBody : Bool} {col_NoBody : Option Bool} {dd_NoBody : Option Addr} {m0_NoBody m1_NoBody m2_NoBody m3_NoBody m5_NoBody : Option Value}
    (aC_NoBody : PySem.W.nsIn K mainGlobals "NoBody" = some (some (.ref C_NoBody)))
    (xL_NoBody : K.lookup C_NoBody = some (excClassObj nm_NoBody q_NoBody C_NoBody N_NoBody bs_NoBody [.ref CA, .type "ValueError", .type "Exception", .type "BaseException", .type "object"] true sn_NoBody sub_NoBody ab_NoBody col_NoBody dd_NoBody m0_NoBody m1_NoBody m2_NoBody m3_NoBody m5_NoBody "ValueError.__new__"))
    (sa_NoBody : PySem.W.findIn K (.ref C_NoBody) "__setattr__" = some (some (.builtin "object.__setattr__")))
    (eC_NoBody : PySem.W.subIn K (.ref C_NoBody) (.type "BaseException") = some true)
    (tC_NoBody : PySem.W.typeIn K (.ref C_NoBody) = some (.type "type"))
    (kC_NoBody : PySem.W.keepIn K (.ref C_NoBody) = true)
    (ga_NoBody : PySem.W.findIn K (.ref C_NoBody) "__getattribute__" = some (some (.builtin "BaseException.__getattribute__")))
    (gg_NoBody : PySem.W.findIn K (.ref C_NoBody) "__getattr__" = some none)
    (hC_NoBody : PySem.W.hasDictIn K C_NoBody = true)
    (hcl_NoBody : PySem.W.findIn K (.ref C_NoBody) "__class__" = some (some (.builtin "object.__class__")))
    (hmr_NoBody : PySem.W.mroIn K C_NoBody (.type "object") = some true)
    (nf_NoBody : PySem.W.findIn K (.ref C_NoBody) "place" = some none)
    (cC_NoBody : PySem.W.isClsIn K C_NoBody = true)
    (sC_NoBody : PySem.W.subIn K (.ref C_NoBody) (.ref C_NoBody) = some true)
    {fI_NoBody : Addr}
    (iI_NoBody : PySem.W.findIn K (.ref C_NoBody) "__init__" = some (some (.ref fI_NoBody)))
    (tI_NoBody : PySem.W.typeIn K (.ref fI_NoBody) = some (.type "function"))
    {odI_NoBody anI_NoBody : Option Addr} {slI_NoBody : Array (Option Value)} {ocI_NoBody dcI_NoBody pmI_NoBody cdI_NoBody ctI_NoBody : Value}
    (lI_NoBody : K.lookup fI_NoBody = some ⟨ocI_NoBody, odI_NoBody, .func (PySem.W.fnOf "__init__" "NoBody.__init__" (defArgs sInit_NoBody) (defBody sInit_NoBody) (defScope sInit_NoBody) .none .none dcI_NoBody pmI_NoBody anI_NoBody cdI_NoBody ctI_NoBody), slI_NoBody⟩)
    (cI_NoBody : PySem.W.codeIn K cdI_NoBody "NoBody.__init__" = true)
    (kI_NoBody : PySem.W.keepIn K (.ref fI_NoBody) = true)
    {C_NoNote N_NoNote : Addr} {nm_NoNote q_NoNote : Str} {bs_NoNote : List Value} {sn_NoNote : List Str} {sub_NoNote : List Value} {ab_NoNote : Bool} {col_NoNote : Option Bool} {dd_NoNote : Option Addr} {m0_NoNote m1_NoNote m2_NoNote m3_NoNote m5_NoNote : Option Value}
    (aC_NoNote : PySem.W.nsIn K mainGlobals "NoNote" = some (some (.ref C_NoNote)))
    (xL_NoNote : K.lookup C_NoNote = some (excClassObj nm_NoNote q_NoNote C_NoNote N_NoNote bs_NoNote [.ref CA, .type "ValueError", .type "Exception", .type "BaseException", .type "object"] true sn_NoNote sub_NoNote ab_NoNote col_NoNote dd_NoNote m0_NoNote m1_NoNote m2_NoNote m3_NoNote m5_NoNote "ValueError.__new__"))
    (sa_NoNote : PySem.W.findIn K (.ref C_NoNote) "__setattr__" = some (some (.builtin "object.__setattr__")))
    (eC_NoNote : PySem.W.subIn K (.ref C_NoNote) (.type "BaseException") = some true)
    (tC_NoNote : PySem.W.typeIn K (.ref C_NoNote) = some (.type "type"))
    (kC_NoNote : PySem.W.keepIn K (.ref C_NoNote) = true)
    (ga_NoNote : PySem.W.findIn K (.ref C_NoNote) "__getattribute__" = some (some (.builtin "BaseException.__getattribute__")))
    (gg_NoNote : PySem.W.findIn K (.ref C_NoNote) "__getattr__" = some none)
    (hC_NoNote : PySem.W.hasDictIn K C_NoNote = true)
    (hcl_NoNote : PySem.W.findIn K (.ref C_NoNote) "__class__" = some (some (.builtin "object.__class__")))
    (hmr_NoNote : PySem.W.mroIn K C_NoNote (.type "object") = some true)
    (nf_NoNote : PySem.W.findIn K (.ref C_NoNote) "line" = some none)
    (cC_NoNote : PySem.W.isClsIn K C_NoNote = true)
    (sC_NoNote : PySem.W.subIn K (.ref C_NoNote) (.ref C_NoNote) = some true)
    {fI_NoNote : Addr}
    (iI_NoNote : PySem.W.findIn K (.ref C_NoNote) "__init__" = some (some (.ref fI_NoNote)))
    (tI_NoNote : PySem.W.typeIn K (.ref fI_NoNote) = some (.type "function"))
    {odI_NoNote anI_NoNote : Option Addr} {slI_NoNote : Array (Option Value)} {ocI_NoNote dcI_NoNote pmI_NoNote cdI_NoNote ctI_NoNote : Value}
    (lI_NoNote : K.lookup fI_NoNote = some ⟨ocI_NoNote, odI_NoNote, .func (PySem.W.fnOf "__init__" "NoNote.__init__" (defArgs sInit_NoNote) (defBody sInit_NoNote) (defScope sInit_NoNote) .none .none dcI_NoNote pmI_NoNote anI_NoNote cdI_NoNote ctI_NoNote), slI_NoNote⟩)
    (cI_NoNote : PySem.W.codeIn K cdI_NoNote "NoNote.__init__" = true)
    (kI_NoNote : PySem.W.keepIn K (.ref fI_NoNote) = true)
    (cC_A : PySem.W.isClsIn K CA = true)
    (tC_A : PySem.W.typeIn K (.ref CA) = some (.type "type"))
    (ka_NoName : PySem.W.subIn K (.ref C_NoName) (.ref CA) = some true)
    (kv_NoName : PySem.W.subIn K (.ref C_NoName) (.type "ValueError") = some true)
    (ka_NoBody : PySem.W.subIn K (.ref C_NoBody) (.ref CA) = some true)
    (kv_NoBody : PySem.W.subIn K (.ref C_NoBody) (.type "ValueError") = some true)
    (ka_NoNote : PySem.W.subIn K (.ref C_NoNote) (.ref CA) = some true)
    (kv_NoNote : PySem.W.subIn K (.ref C_NoNote) (.type "ValueError") = some true)
    (no_NoNote_NoName : PySem.W.subIn K (.ref C_NoNote) (.ref C_NoName) = some false)
    (no_NoName_NoNote : PySem.W.subIn K (.ref C_NoName) (.ref C_NoNote) = some false)
    {C_Body : Addr}
    (aK_Body : PySem.W.nsIn K mainGlobals "Body" = some (some (.ref C_Body)))
    (pg_Body : PySem.W.plainGet K C_Body Str.empty = true)
    (hd_Body : PySem.W.hasDictIn K C_Body = true)
    (po_Body : PySem.W.plainOver K C_Body = true)
    (sa_Body : PySem.W.findIn K (.ref C_Body) "__setattr__" = some (some (.builtin "object.__setattr__")))
    (mk_Body : PySem.W.makesIn K C_Body = true)
    (kc_Body : PySem.W.keepIn K (.ref C_Body) = true)
    (ne_Body : PySem.W.findIn K (.ref C_Body) "__ne__" = some (some (.builtin "object.__ne__")))
    (ob_Body : PySem.W.mroIn K C_Body (.type "object") = some true)
    (hc_Body : PySem.W.findIn K (.ref C_Body) "__class__" = some (some (.builtin "object.__class__")))
    (dq_Body : PySem.W.subIn K (.ref C_Body) (.type "collections.deque") = some false)
    (cC_Body : PySem.W.isClsIn K C_Body = true)
    (tC_Body : PySem.W.typeIn K (.ref C_Body) = some (.type "type"))
    (n_Body_method : PySem.W.findIn K (.ref C_Body) "method" = some none)
    (n_Body_expression : PySem.W.findIn K (.ref C_Body) "expression" = some none)
    (n_Body__nodes : PySem.W.findIn K (.ref C_Body) "_nodes" = some none)
    {f_Body_init : Addr}
    (a_Body_init : PySem.W.findIn K (.ref C_Body) "__init__" = some (some (.ref f_Body_init)))
    (i_Body_init : PySem.W.isFn K (.ref f_Body_init) = true)
    {od_Body_init an_Body_init : Option Addr} {sl_Body_init : Array (Option Value)} {oc_Body_init kV_Body_init dc_Body_init pm_Body_init cd_Body_init ct_Body_init : Value}
    (l_Body_init : K.lookup f_Body_init = some ⟨oc_Body_init, od_Body_init, .func (PySem.W.fnOf "__init__" "Body.__init__" (defArgs sBody___init__) (defBody sBody___init__) (defScope sBody___init__) .none kV_Body_init dc_Body_init pm_Body_init an_Body_init cd_Body_init ct_Body_init), sl_Body_init⟩)
    (c_Body_init : PySem.W.codeIn K cd_Body_init "Body.__init__" = true)
    (k_Body_init : PySem.W.keepIn K (.ref f_Body_init) = true)
    {f_Body_eq : Addr}
    (a_Body_eq : PySem.W.findIn K (.ref C_Body) "__eq__" = some (some (.ref f_Body_eq)))
    (i_Body_eq : PySem.W.isFn K (.ref f_Body_eq) = true)
    {od_Body_eq an_Body_eq : Option Addr} {sl_Body_eq : Array (Option Value)} {oc_Body_eq kV_Body_eq dc_Body_eq pm_Body_eq cd_Body_eq ct_Body_eq : Value}
    (l_Body_eq : K.lookup f_Body_eq = some ⟨oc_Body_eq, od_Body_eq, .func (PySem.W.fnOf "__eq__" "Body.__eq__" (defArgs sBody___eq__) (defBody sBody___eq__) (defScope sBody___eq__) .none kV_Body_eq dc_Body_eq pm_Body_eq an_Body_eq cd_Body_eq ct_Body_eq), sl_Body_eq⟩)
    (c_Body_eq : PySem.W.codeIn K cd_Body_eq "Body.__eq__" = true)
    (k_Body_eq : PySem.W.keepIn K (.ref f_Body_eq) = true)
    {p_METHODS : Addr} {d_METHODS : Option Addr} {i_METHODS : Array Value} {n_METHODS : Nat} {s_METHODS : Array (Option Value)}
    (a_METHODS : PySem.W.nsIn K mainGlobals "METHODS" = some (some (.ref p_METHODS)))
    (l_METHODS : K.lookup p_METHODS = some ⟨.type "tuple", d_METHODS, .seq i_METHODS n_METHODS, s_METHODS⟩)
    (z_METHODS : i_METHODS.size ≤ sizeLine)
    (v_METHODS : Vals (methods.map V.str) i_METHODS.toList)
    {p_OTHER_TAKERS : Addr} {d_OTHER_TAKERS : Option Addr} {i_OTHER_TAKERS : Array Value} {n_OTHER_TAKERS : Nat} {s_OTHER_TAKERS : Array (Option Value)}
    (a_OTHER_TAKERS : PySem.W.nsIn K mainGlobals "OTHER_TAKERS" = some (some (.ref p_OTHER_TAKERS)))
    (l_OTHER_TAKERS : K.lookup p_OTHER_TAKERS = some ⟨.type "tuple", d_OTHER_TAKERS, .seq i_OTHER_TAKERS n_OTHER_TAKERS, s_OTHER_TAKERS⟩)
    (z_OTHER_TAKERS : i_OTHER_TAKERS.size ≤ sizeLine)
    (v_OTHER_TAKERS : Vals (others.map V.str) i_OTHER_TAKERS.toList)
    {p_DECLINERS : Addr} {d_DECLINERS : Option Addr} {i_DECLINERS : Array Value} {n_DECLINERS : Nat} {s_DECLINERS : Array (Option Value)}
    (a_DECLINERS : PySem.W.nsIn K mainGlobals "DECLINERS" = some (some (.ref p_DECLINERS)))
    (l_DECLINERS : K.lookup p_DECLINERS = some ⟨.type "tuple", d_DECLINERS, .seq i_DECLINERS n_DECLINERS, s_DECLINERS⟩)
    (z_DECLINERS : i_DECLINERS.size ≤ sizeLine)
    (v_DECLINERS : Vals (decliners.map V.str) i_DECLINERS.toList)
    {p_BODY_KINDS : Addr} {d_BODY_KINDS : Option Addr} {i_BODY_KINDS : Array Value} {n_BODY_KINDS : Nat} {s_BODY_KINDS : Array (Option Value)}
    (a_BODY_KINDS : PySem.W.nsIn K mainGlobals "BODY_KINDS" = some (some (.ref p_BODY_KINDS)))
    (l_BODY_KINDS : K.lookup p_BODY_KINDS = some ⟨.type "tuple", d_BODY_KINDS, .seq i_BODY_KINDS n_BODY_KINDS, s_BODY_KINDS⟩)
    (z_BODY_KINDS : i_BODY_KINDS.size ≤ sizeLine)
    (v_BODY_KINDS : Vals (bodyKinds.map V.str) i_BODY_KINDS.toList)
    {p_ANSWER_WORDS : Addr} {d_ANSWER_WORDS : Option Addr} {i_ANSWER_WORDS : Array Value} {n_ANSWER_WORDS : Nat} {s_ANSWER_WORDS : Array (Option Value)}
    (a_ANSWER_WORDS : PySem.W.nsIn K mainGlobals "ANSWER_WORDS" = some (some (.ref p_ANSWER_WORDS)))
    (l_ANSWER_WORDS : K.lookup p_ANSWER_WORDS = some ⟨.type "tuple", d_ANSWER_WORDS, .seq i_ANSWER_WORDS n_ANSWER_WORDS, s_ANSWER_WORDS⟩)
    (z_ANSWER_WORDS : i_ANSWER_WORDS.size ≤ sizeLine)
    (v_ANSWER_WORDS : Vals (answerW.map V.str) i_ANSWER_WORDS.toList)
    {p_ASKED_OF_ONE : Addr} {d_ASKED_OF_ONE : Option Addr} {i_ASKED_OF_ONE : Array Value} {n_ASKED_OF_ONE : Nat} {s_ASKED_OF_ONE : Array (Option Value)}
    (a_ASKED_OF_ONE : PySem.W.nsIn K mainGlobals "ASKED_OF_ONE" = some (some (.ref p_ASKED_OF_ONE)))
    (l_ASKED_OF_ONE : K.lookup p_ASKED_OF_ONE = some ⟨.type "tuple", d_ASKED_OF_ONE, .seq i_ASKED_OF_ONE n_ASKED_OF_ONE, s_ASKED_OF_ONE⟩)
    (z_ASKED_OF_ONE : i_ASKED_OF_ONE.size ≤ sizeLine)
    (v_ASKED_OF_ONE : Vals (askOne.map V.str) i_ASKED_OF_ONE.toList)
    {p_ASKED_OF_TWO : Addr} {d_ASKED_OF_TWO : Option Addr} {i_ASKED_OF_TWO : Array Value} {n_ASKED_OF_TWO : Nat} {s_ASKED_OF_TWO : Array (Option Value)}
    (a_ASKED_OF_TWO : PySem.W.nsIn K mainGlobals "ASKED_OF_TWO" = some (some (.ref p_ASKED_OF_TWO)))
    (l_ASKED_OF_TWO : K.lookup p_ASKED_OF_TWO = some ⟨.type "tuple", d_ASKED_OF_TWO, .seq i_ASKED_OF_TWO n_ASKED_OF_TWO, s_ASKED_OF_TWO⟩)
    (z_ASKED_OF_TWO : i_ASKED_OF_TWO.size ≤ sizeLine)
    (v_ASKED_OF_TWO : Vals (askTwo.map V.str) i_ASKED_OF_TWO.toList)
    {t_MOST_WORDS : Tok}
    (a_MOST_WORDS : PySem.W.nsIn K mainGlobals "MOST_WORDS" = some (some (.int 64 t_MOST_WORDS)))
    {t_MOST_COUNT : Tok}
    (a_MOST_COUNT : PySem.W.nsIn K mainGlobals "MOST_COUNT" = some (some (.int 4 t_MOST_COUNT)))
    {t_MOST_NODES : Tok}
    (a_MOST_NODES : PySem.W.nsIn K mainGlobals "MOST_NODES" = some (some (.int 16 t_MOST_NODES)))
    {t_MOST_DEPTH : Tok}
    (a_MOST_DEPTH : PySem.W.nsIn K mainGlobals "MOST_DEPTH" = some (some (.int 6 t_MOST_DEPTH)))
    {p_KINDS : Addr} {e_KINDS : Array DictEntry} {n_KINDS : Nat}
    (a_KINDS : PySem.W.nsIn K mainGlobals "KINDS" = some (some (.ref p_KINDS)))
    (l_KINDS : K.lookup p_KINDS = some ⟨.type "dict", none, .dict e_KINDS n_KINDS, #[]⟩)
    (y_KINDS : PySem.W.KeysLit w.params e_KINDS.toList)
    {t_KINDS_truth : Tok}
    (g_KINDS_truth : PySem.W.nsIn K p_KINDS "truth" = some (some (.str "flag" t_KINDS_truth)))
    {t_KINDS_length : Tok}
    (g_KINDS_length : PySem.W.nsIn K p_KINDS "length" = some (some (.str "count" t_KINDS_length)))
    {t_KINDS_item : Tok}
    (g_KINDS_item : PySem.W.nsIn K p_KINDS "item" = some (some (.str "item" t_KINDS_item)))
    {t_KINDS_walk : Tok}
    (g_KINDS_walk : PySem.W.nsIn K p_KINDS "walk" = some (some (.str "walker" t_KINDS_walk)))
    {t_KINDS_back : Tok}
    (g_KINDS_back : PySem.W.nsIn K p_KINDS "back" = some (some (.str "walker" t_KINDS_back)))
    {t_KINDS_has : Tok}
    (g_KINDS_has : PySem.W.nsIn K p_KINDS "has" = some (some (.str "flag" t_KINDS_has)))
    {t_KINDS_like : Tok}
    (g_KINDS_like : PySem.W.nsIn K p_KINDS "like" = some (some (.str "flag" t_KINDS_like)))
    {t_KINDS_unlike : Tok}
    (g_KINDS_unlike : PySem.W.nsIn K p_KINDS "unlike" = some (some (.str "flag" t_KINDS_unlike)))
    {t_KINDS_before : Tok}
    (g_KINDS_before : PySem.W.nsIn K p_KINDS "before" = some (some (.str "flag" t_KINDS_before)))
    {t_KINDS_behind : Tok}
    (g_KINDS_behind : PySem.W.nsIn K p_KINDS "behind" = some (some (.str "flag" t_KINDS_behind)))
    {t_KINDS_hash : Tok}
    (g_KINDS_hash : PySem.W.nsIn K p_KINDS "hash" = some (some (.str "count" t_KINDS_hash)))
    {t_KINDS_grow : Tok}
    (g_KINDS_grow : PySem.W.nsIn K p_KINDS "grow" = some (some (.str "any" t_KINDS_grow)))
    {t_KINDS_plus : Tok}
    (g_KINDS_plus : PySem.W.nsIn K p_KINDS "plus" = some (some (.str "any" t_KINDS_plus)))
    {t_KINDS_call : Tok}
    (g_KINDS_call : PySem.W.nsIn K p_KINDS "call" = some (some (.str "any" t_KINDS_call)))
    {p_PARTS : Addr} {e_PARTS : Array DictEntry} {n_PARTS : Nat}
    (a_PARTS : PySem.W.nsIn K mainGlobals "PARTS" = some (some (.ref p_PARTS)))
    (l_PARTS : K.lookup p_PARTS = some ⟨.type "dict", none, .dict e_PARTS n_PARTS, #[]⟩)
    (y_PARTS : PySem.W.KeysLit w.params e_PARTS.toList)
    {t_PARTS_not : Tok}
    (g_PARTS_not : PySem.W.nsIn K p_PARTS "not" = some (some (.int 1 t_PARTS_not)))
    {t_PARTS_if : Tok}
    (g_PARTS_if : PySem.W.nsIn K p_PARTS "if" = some (some (.int 3 t_PARTS_if)))
    (x_PARTS : e_PARTS.toList.map keyTxt = [some ("not" : Str), some ("if" : Str)])
    (o_PARTS : (p_PARTS == sysModules) = false)
    {p_DIGITS : Addr} {e_DIGITS : Array DictEntry} {n_DIGITS : Nat}
    (a_DIGITS : PySem.W.nsIn K mainGlobals "DIGITS" = some (some (.ref p_DIGITS)))
    (l_DIGITS : K.lookup p_DIGITS = some ⟨.type "dict", none, .dict e_DIGITS n_DIGITS, #[]⟩)
    (y_DIGITS : PySem.W.KeysLit w.params e_DIGITS.toList)
    {t_DIGITS_0 : Tok}
    (g_DIGITS_0 : PySem.W.nsIn K p_DIGITS "0" = some (some (.int 0 t_DIGITS_0)))
    {t_DIGITS_1 : Tok}
    (g_DIGITS_1 : PySem.W.nsIn K p_DIGITS "1" = some (some (.int 1 t_DIGITS_1)))
    {t_DIGITS_2 : Tok}
    (g_DIGITS_2 : PySem.W.nsIn K p_DIGITS "2" = some (some (.int 2 t_DIGITS_2)))
    {t_DIGITS_3 : Tok}
    (g_DIGITS_3 : PySem.W.nsIn K p_DIGITS "3" = some (some (.int 3 t_DIGITS_3)))
    {t_DIGITS_4 : Tok}
    (g_DIGITS_4 : PySem.W.nsIn K p_DIGITS "4" = some (some (.int 4 t_DIGITS_4)))
    (x_DIGITS : e_DIGITS.toList.map keyTxt = [some ("0" : Str), some ("1" : Str), some ("2" : Str), some ("3" : Str), some ("4" : Str)])
    (o_DIGITS : (p_DIGITS == sysModules) = false)
    : ∃ fd : FuncData, (∀ (s : Shared) (u : Value), BindsTo s fd ⟨[u], []⟩ [("_law_script", u)]) ∧ ∀ base : Heap, K.In base → base.Ns mainGlobals mg → FnG l.prog w K mg base CX0 73 fa fd ["_law_script"] (spLaw K) := by
  have e := hfa.symm.trans (PySem.W.mg_of X G a34)
  cases e
  have T : Txt K mg := { int := PySem.W.mg_none_of X G z_int, len := PySem.W.mg_none_of X G z_len, max := PySem.W.mg_none_of X G z_max, min := PySem.W.mg_none_of X G z_min, isinstance := PySem.W.mg_none_of X G z_isinstance, range := PySem.W.mg_none_of X G z_range, list := PySem.W.mg_none_of X G z_list, dict := PySem.W.mg_none_of X G z_dict, tuple := PySem.W.mg_none_of X G z_tuple, set := PySem.W.mg_none_of X G z_set, str := PySem.W.mg_none_of X G z_str, bool := PySem.W.mg_none_of X G z_bool, repr := PySem.W.mg_none_of X G z_repr, all := PySem.W.mg_none_of X G z_all, sum := PySem.W.mg_none_of X G z_sum, zip := PySem.W.mg_none_of X G z_zip }
  have D_is_number : DefAt K mg "is_number" sIs_number ["value"] := defAt X G (fun _ _ _ _ _ _ us hl => match us, hl with | [_], _ => rfl) a1 l1 c1 k1
  have D_is_one_of : DefAt K mg "is_one_of" sIs_one_of ["value", "words"] := defAt X G (fun _ _ _ _ _ _ us hl => match us, hl with | [_, _], _ => rfl) a2 l2 c2 k2
  have D_check_method : DefAt K mg "check_method" sCheck_method ["method"] := defAt X G (fun _ _ _ _ _ _ us hl => match us, hl with | [_], _ => rfl) a3 l3 c3 k3
  have D_kind_of : DefAt K mg "kind_of" sKind_of ["method"] := defAt X G (fun _ _ _ _ _ _ us hl => match us, hl with | [_], _ => rfl) a4 l4 c4 k4
  have D_takes_other : DefAt K mg "takes_other" sTakes_other ["method"] := defAt X G (fun _ _ _ _ _ _ us hl => match us, hl with | [_], _ => rfl) a5 l5 c5 k5
  have D_may_decline : DefAt K mg "may_decline" sMay_decline ["method"] := defAt X G (fun _ _ _ _ _ _ us hl => match us, hl with | [_], _ => rfl) a6 l6 c6 k6
  have D_is_count : DefAt K mg "is_count" sIs_count ["value"] := defAt X G (fun _ _ _ _ _ _ us hl => match us, hl with | [_], _ => rfl) a7 l7 c7 k7
  have D_check_body_method : DefAt K mg "check_body_method" sCheck_body_method ["method"] := defAt X G (fun _ _ _ _ _ _ us hl => match us, hl with | [_], _ => rfl) a8 l8 c8 k8
  have D__is_role : DefAt K mg "_is_role" sIs_role ["method", "value"] := defAt X G (fun _ _ _ _ _ _ us hl => match us, hl with | [_, _], _ => rfl) a9 l9 c9 k9
  have D__is_ask : DefAt K mg "_is_ask" sIs_ask ["method", "node"] := defAt X G (fun _ _ _ _ _ _ us hl => match us, hl with | [_, _], _ => rfl) a10 l10 c10 k10
  have D__is_word_alone : DefAt K mg "_is_word_alone" sIs_word_alone ["method", "word", "tail"] := defAt X G (fun _ _ _ _ _ _ us hl => match us, hl with | [_, _, _], _ => rfl) a11 l11 c11 k11
  have D__is_node : DefAt K mg "_is_node" sIs_node ["method", "node", "tail"] := defAt X G (fun _ _ _ _ _ _ us hl => match us, hl with | [_, _, _], _ => rfl) a12 l12 c12 k12
  have D__parts : DefAt K mg "_parts" sParts ["node"] := defAt X G (fun _ _ _ _ _ _ us hl => match us, hl with | [_], _ => rfl) a13 l13 c13 k13
  have D__tails : DefAt K mg "_tails" sTails ["node", "tail"] := defAt X G (fun _ _ _ _ _ _ us hl => match us, hl with | [_, _], _ => rfl) a14 l14 c14 k14
  have D__first_wrong : DefAt K mg "_first_wrong" sFirst_wrong ["method", "expression"] := defAt X G (fun _ _ _ _ _ _ us hl => match us, hl with | [_, _], _ => rfl) a15 l15 c15 k15
  have D__numbered : DefAt K mg "_numbered" sNumbered ["node", "number"] := defAt X G (fun _ _ _ _ _ _ us hl => match us, hl with | [_, _], _ => rfl) a16 l16 c16 k16
  have D__words_of : DefAt K mg "_words_of" sWords_of ["expression"] := defAt X G (fun _ _ _ _ _ _ us hl => match us, hl with | [_], _ => rfl) a17 l17 c17 k17
  have D_write_body : DefAt K mg "write_body" sWrite_body ["body"] := defAt X G (fun _ _ _ _ _ _ us hl => match us, hl with | [_], _ => rfl) a18 l18 c18 k18
  have D__many_words : DefAt K mg "_many_words" sMany_words ["words", "at"] := defAt X G (fun _ _ _ _ _ _ us hl => match us, hl with | [_, _], _ => rfl) a19 l19 c19 k19
  have D__read_expression : DefAt K mg "_read_expression" sRead_expression ["words", "at"] := defAt X G (fun _ _ _ _ _ _ us hl => match us, hl with | [_, _], _ => rfl) a20 l20 c20 k20
  have D_read_body : DefAt K mg "read_body" sRead_body ["method", "text"] := defAt X G (fun _ _ _ _ _ _ us hl => match us, hl with | [_, _], _ => rfl) a21 l21 c21 k21
  have D_L_pool : DefAt K mg "_law_pool" sL_pool ["_law_script", "_law_k"] := defAt X G (fun _ _ _ _ _ _ us hl => match us, hl with | [_, _], _ => rfl) a22 l22 c22 k22
  have D_L_take : DefAt K mg "_law_take" sL_take ["_law_pool_here", "_law_many"] := defAt X G (fun _ _ _ _ _ _ us hl => match us, hl with | [_, _], _ => rfl) a23 l23 c23 k23
  have D_L_one : DefAt K mg "_law_one" sL_one ["_law_pool_here", "_law_some"] := defAt X G (fun _ _ _ _ _ _ us hl => match us, hl with | [_, _], _ => rfl) a24 l24 c24 k24
  have D_L_leaf : DefAt K mg "_law_leaf" sL_leaf ["_law_pool_here", "_law_method", "_law_at_tail"] := defAt X G (fun _ _ _ _ _ _ us hl => match us, hl with | [_, _, _], _ => rfl) a25 l25 c25 k25
  have D_L_asking : DefAt K mg "_law_asking" sL_asking ["_law_pool_here", "_law_method"] := defAt X G (fun _ _ _ _ _ _ us hl => match us, hl with | [_, _], _ => rfl) a26 l26 c26 k26
  have D_L_deep : DefAt K mg "_law_deep" sL_deep ["_law_pool_here", "_law_method", "_law_deep_here", "_law_at_tail"] := defAt X G (fun _ _ _ _ _ _ us hl => match us, hl with | [_, _, _, _], _ => rfl) a27 l27 c27 k27
  have D_L_flat : DefAt K mg "_law_flat" sL_flat ["_law_told"] := defAt X G (fun _ _ _ _ _ _ us hl => match us, hl with | [_], _ => rfl) a28 l28 c28 k28
  have D_L_read : DefAt K mg "_law_read" sL_read ["_law_method", "_law_text"] := defAt X G (fun _ _ _ _ _ _ us hl => match us, hl with | [_, _], _ => rfl) a29 l29 c29 k29
  have D_L_due : DefAt K mg "_law_due" sL_due ["_law_method", "_law_told"] := defAt X G (fun _ _ _ _ _ _ us hl => match us, hl with | [_, _], _ => rfl) a30 l30 c30 k30
  have D_L_bent : DefAt K mg "_law_bent" sL_bent ["_law_pool_here", "_law_text"] := defAt X G (fun _ _ _ _ _ _ us hl => match us, hl with | [_, _], _ => rfl) a31 l31 c31 k31
  have D_L_right : DefAt K mg "_law_right" sL_right ["_law_pool_here", "_law_method", "_law_told"] := defAt X G (fun _ _ _ _ _ _ us hl => match us, hl with | [_, _, _], _ => rfl) a32 l32 c32 k32
  have D_L_greatest : DefAt K mg "_law_greatest" sL_greatest [] := defAt X G (fun _ _ _ _ _ _ us hl => match us, hl with | [], _ => rfl) a33 l33 c33 k33
  have FL := fun_mk (st := sLaw) l34 c34 k34
  have T_NoName : Ex.ErrC K mg "NoName" "value" C_NoName := { t := ⟨⟨nm_NoName, q_NoName, N_NoName, bs_NoName, _, sn_NoName, sub_NoName, ab_NoName, col_NoName, dd_NoName, m0_NoName, m1_NoName, m2_NoName, m3_NoName, m5_NoName, xL_NoName, by rfl⟩, sa_NoName, eC_NoName, tC_NoName, kC_NoName⟩, xf := ⟨ga_NoName, gg_NoName, eC_NoName, hC_NoName⟩, ic := ⟨ga_NoName, gg_NoName, eC_NoName, hC_NoName, hcl_NoName, hsp, htk, hmr_NoName⟩, no := nf_NoName, g := PySem.W.mg_of X G aC_NoName, te := exm_own eC_NoName cC_NoName tC_NoName sC_NoName }
  have FI_NoName := fun_mk (st := sInit_NoName) lI_NoName cI_NoName kI_NoName
  have bI_NoName := FI_NoName.binds (ps := ["self", "value"]) fun _ _ _ _ _ _ us hl => match us, hl with | [_, _], _ => rfl
  have T_NoBody : Ex.ErrC K mg "NoBody" "place" C_NoBody := { t := ⟨⟨nm_NoBody, q_NoBody, N_NoBody, bs_NoBody, _, sn_NoBody, sub_NoBody, ab_NoBody, col_NoBody, dd_NoBody, m0_NoBody, m1_NoBody, m2_NoBody, m3_NoBody, m5_NoBody, xL_NoBody, by rfl⟩, sa_NoBody, eC_NoBody, tC_NoBody, kC_NoBody⟩, xf := ⟨ga_NoBody, gg_NoBody, eC_NoBody, hC_NoBody⟩, ic := ⟨ga_NoBody, gg_NoBody, eC_NoBody, hC_NoBody, hcl_NoBody, hsp, htk, hmr_NoBody⟩, no := nf_NoBody, g := PySem.W.mg_of X G aC_NoBody, te := exm_own eC_NoBody cC_NoBody tC_NoBody sC_NoBody }
  have FI_NoBody := fun_mk (st := sInit_NoBody) lI_NoBody cI_NoBody kI_NoBody
  have bI_NoBody := FI_NoBody.binds (ps := ["self", "place"]) fun _ _ _ _ _ _ us hl => match us, hl with | [_, _], _ => rfl
  have T_NoNote : Ex.ErrC K mg "NoNote" "line" C_NoNote := { t := ⟨⟨nm_NoNote, q_NoNote, N_NoNote, bs_NoNote, _, sn_NoNote, sub_NoNote, ab_NoNote, col_NoNote, dd_NoNote, m0_NoNote, m1_NoNote, m2_NoNote, m3_NoNote, m5_NoNote, xL_NoNote, by rfl⟩, sa_NoNote, eC_NoNote, tC_NoNote, kC_NoNote⟩, xf := ⟨ga_NoNote, gg_NoNote, eC_NoNote, hC_NoNote⟩, ic := ⟨ga_NoNote, gg_NoNote, eC_NoNote, hC_NoNote, hcl_NoNote, hsp, htk, hmr_NoNote⟩, no := nf_NoNote, g := PySem.W.mg_of X G aC_NoNote, te := exm_own eC_NoNote cC_NoNote tC_NoNote sC_NoNote }
  have FI_NoNote := fun_mk (st := sInit_NoNote) lI_NoNote cI_NoNote kI_NoNote
  have bI_NoNote := FI_NoNote.binds (ps := ["self", "line"]) fun _ _ _ _ _ _ us hl => match us, hl with | [_, _], _ => rfl
  have S_METHODS := sqT_of l_METHODS z_METHODS v_METHODS
  have S_OTHER_TAKERS := sqT_of l_OTHER_TAKERS z_OTHER_TAKERS v_OTHER_TAKERS
  have S_DECLINERS := sqT_of l_DECLINERS z_DECLINERS v_DECLINERS
  have S_BODY_KINDS := sqT_of l_BODY_KINDS z_BODY_KINDS v_BODY_KINDS
  have S_ANSWER_WORDS := sqT_of l_ANSWER_WORDS z_ANSWER_WORDS v_ANSWER_WORDS
  have S_ASKED_OF_ONE := sqT_of l_ASKED_OF_ONE z_ASKED_OF_ONE v_ASKED_OF_ONE
  have S_ASKED_OF_TWO := sqT_of l_ASKED_OF_TWO z_ASKED_OF_TWO v_ASKED_OF_TWO
  have F_Body_init := fun_mk (st := sBody___init__) l_Body_init c_Body_init k_Body_init
  have b_Body_init_ := F_Body_init.binds (ps := ["self", "method", "expression"]) fun _ _ _ _ _ _ us hl => match us, hl with | [_, _, _], _ => rfl
  have F_Body_eq := fun_mk (st := sBody___eq__) l_Body_eq c_Body_eq k_Body_eq
  have b_Body_eq_ := F_Body_eq.binds (ps := ["self", "other"]) fun _ _ _ _ _ _ us hl => match us, hl with | [_, _], _ => rfl
  have cl_Body : L2.Cls K C_Body := ⟨pg_Body, hd_Body, po_Body, sa_Body⟩
  refine ⟨PySem.W.fnOf "law" "law" (defArgs sLaw) (defBody sLaw) (defScope sLaw) .none kV34 dc34 pm34 an34 cd34 ct34, fun s v => .of_eq rfl, fun base _ _ => ?_⟩
  have M_NoName : Ex.InitOk l.prog w K mg base "value" C_NoName := ⟨fI_NoName, _, iI_NoName, tI_NoName, ok_init_NoName T_NoName FI_NoName, bI_NoName⟩
  have M_NoBody : Ex.InitOk l.prog w K mg base "place" C_NoBody := ⟨fI_NoBody, _, iI_NoBody, tI_NoBody, ok_init_NoBody T_NoBody FI_NoBody, bI_NoBody⟩
  have M_NoNote : Ex.InitOk l.prog w K mg base "line" C_NoNote := ⟨fI_NoNote, _, iI_NoNote, tI_NoNote, ok_init_NoNote T_NoNote FI_NoNote, bI_NoNote⟩

  have tK : ∀ s ∈ methods, KDct K w p_KINDS s (.str (kindOf s)) := by
    intro s hs
    simp only [methods, List.mem_cons, List.not_mem_nil, or_false] at hs
    rcases hs with rfl | rfl | rfl | rfl | rfl | rfl | rfl | rfl | rfl | rfl | rfl | rfl | rfl | rfl
    · exact kdct_of l_KINDS y_KINDS g_KINDS_truth ⟨_, rfl⟩
    · exact kdct_of l_KINDS y_KINDS g_KINDS_length ⟨_, rfl⟩
    · exact kdct_of l_KINDS y_KINDS g_KINDS_item ⟨_, rfl⟩
    · exact kdct_of l_KINDS y_KINDS g_KINDS_walk ⟨_, rfl⟩
    · exact kdct_of l_KINDS y_KINDS g_KINDS_back ⟨_, rfl⟩
    · exact kdct_of l_KINDS y_KINDS g_KINDS_has ⟨_, rfl⟩
    · exact kdct_of l_KINDS y_KINDS g_KINDS_like ⟨_, rfl⟩
    · exact kdct_of l_KINDS y_KINDS g_KINDS_unlike ⟨_, rfl⟩
    · exact kdct_of l_KINDS y_KINDS g_KINDS_before ⟨_, rfl⟩
    · exact kdct_of l_KINDS y_KINDS g_KINDS_behind ⟨_, rfl⟩
    · exact kdct_of l_KINDS y_KINDS g_KINDS_hash ⟨_, rfl⟩
    · exact kdct_of l_KINDS y_KINDS g_KINDS_grow ⟨_, rfl⟩
    · exact kdct_of l_KINDS y_KINDS g_KINDS_plus ⟨_, rfl⟩
    · exact kdct_of l_KINDS y_KINDS g_KINDS_call ⟨_, rfl⟩
  have pt : PartsA K w mg p_PARTS := by
    refine ⟨PySem.W.mg_of X G a_PARTS, ⟨_, _, l_PARTS, y_PARTS, o_PARTS⟩, ?_, kdct_of l_PARTS y_PARTS g_PARTS_not ⟨_, rfl⟩, kdct_of l_PARTS y_PARTS g_PARTS_if ⟨_, rfl⟩⟩
    intro z _
    obtain ⟨h1, h2⟩ := ns_of l_PARTS (ks := ["not", "if"]) x_PARTS z
    by_cases hz : z ∈ partW
    · obtain ⟨v, hv⟩ := h2 hz
      exact ⟨_, hv, (decide_eq_true hz).symm⟩
    · exact ⟨_, h1 hz, (decide_eq_false hz).symm⟩
  have dg : DigA K w mg p_DIGITS := ⟨PySem.W.mg_of X G a_DIGITS, ⟨_, _, l_DIGITS, y_DIGITS, o_DIGITS⟩, fun z _ => by
    obtain ⟨h1, _⟩ := ns_of l_DIGITS (ks := ["0", "1", "2", "3", "4"]) x_DIGITS z
    by_cases hz : z ∈ (["0", "1", "2", "3", "4"] : List Str)
    · simp only [List.mem_cons, List.not_mem_nil, or_false] at hz
      rcases hz with rfl | rfl | rfl | rfl | rfl
      · exact ⟨_, g_DIGITS_0, _, rfl⟩
      · exact ⟨_, g_DIGITS_1, _, rfl⟩
      · exact ⟨_, g_DIGITS_2, _, rfl⟩
      · exact ⟨_, g_DIGITS_3, _, rfl⟩
      · exact ⟨_, g_DIGITS_4, _, rfl⟩
    · refine ⟨_, h1 hz, ?_⟩
      simp only [List.mem_cons, List.not_mem_nil, or_false, not_or] at hz
      obtain ⟨n0, n1, n2, n3, n4⟩ := hz
      show RelO (digV z) none
      unfold digV
      rw [if_neg n0, if_neg n1, if_neg n2, if_neg n3, if_neg n4]
      trivial⟩
  have B : BdF K mg C_Body := { cl := cl_Body, g := PySem.W.mg_of X G aK_Body, ne := ne_Body, ob := ob_Body, n1 := n_Body_method, n2 := n_Body_expression, n3 := n_Body__nodes }
  have E_num := ok_number (P := l.prog) (w := w) (base := base) T D_is_number
  have E_one := ok_one_of (P := l.prog) (w := w) (base := base) T D_is_one_of
  have E_cm := ok_check_method T (PySem.W.mg_of X G a_METHODS) S_METHODS T_NoName M_NoName D_check_method E_one
  have E_kind := ok_kind_of T (PySem.W.mg_of X G a_KINDS) tK D_kind_of E_cm
  have E_take := ok_takes_other T (PySem.W.mg_of X G a_OTHER_TAKERS) S_OTHER_TAKERS D_takes_other E_cm
  have E_may := ok_may_decline T (PySem.W.mg_of X G a_DECLINERS) S_DECLINERS D_may_decline E_cm
  have E_cnt := ok_count T (PySem.W.mg_of X G a_MOST_COUNT) D_is_count E_num
  have E_role := ok_role T D__is_role E_take E_one
  have E_ask := ok_ask T (PySem.W.mg_of X G a_ASKED_OF_ONE) S_ASKED_OF_ONE (PySem.W.mg_of X G a_ASKED_OF_TWO) S_ASKED_OF_TWO D__is_ask E_role E_one
  have E_alone := ok_alone T (PySem.W.mg_of X G a_ANSWER_WORDS) S_ANSWER_WORDS D__is_word_alone E_may
  have E_node := ok_node T pt D__is_node E_cnt E_ask E_alone
  have E_parts := ok_parts (P := l.prog) (base := base) T pt D__parts
  have E_partsN := CalG.imp E_parts parts_nd
  have E_tails := ok_tails T D__tails E_parts
  have E_first := ok_first T (PySem.W.mg_of X G a_MOST_NODES) (PySem.W.mg_of X G a_MOST_DEPTH) D__first_wrong E_parts E_tails E_node
  have E_numb := ok_numb T D__numbered E_partsN 6
  have E_cb := ok_checkB T (PySem.W.mg_of X G a_BODY_KINDS) S_BODY_KINDS T_NoName M_NoName D_check_body_method E_kind
  have ic : BIC K C_Body := ⟨hc_Body, hsp, htk⟩
  have IN : Ob.MkCal l.prog w K mg base (L2N.CX l.prog w) C_Body 9 "Body" (spBN K C_Body C_NoBody) := ⟨_, _, _, ok_bdN T B T_NoBody M_NoBody E_cb E_first E_numb ⟨F_Body_init, b_Body_init_⟩, ⟨mk_Body, a_Body_init, i_Body_init, kc_Body⟩, b_Body_init_, PySem.W.mg_of X G aK_Body⟩
  have IB : Ob.MkCal l.prog w K mg base (L2.CX l.prog w) C_Body 9 "Body" (spBN K C_Body C_NoBody) := by
    obtain ⟨f, fd, ps, F, h⟩ := IN
    exact ⟨f, fd, ps, Hn.up_cx F, h⟩
  have QB : Ob.EqCal l.prog w K mg base CX0 C_Body 1 (spBEq K C_Body) := ⟨_, _, _, ok_beq T B ic ⟨F_Body_eq, b_Body_eq_⟩, a_Body_eq, i_Body_eq, b_Body_eq_⟩
  have H_NoNote : Hn.InitH l.prog w K mg base "line" C_NoNote := ⟨fI_NoNote, _, iI_NoNote, tI_NoNote, ok_initH_NoNote T_NoNote FI_NoNote, bI_NoNote⟩
  have R : Errs K CA C_NoName C_NoNote := { aN := kit_err cC_A tC_A ka_NoName, aM := kit_err cC_A tC_A ka_NoNote, nM := kit_not cC_NoName tC_NoName no_NoNote_NoName sC_NoName, mN := kit_not cC_NoNote tC_NoNote no_NoName_NoNote sC_NoNote, xN := exm_not eC_NoNote cC_NoNote tC_NoNote no_NoName_NoNote }
  have E_words := ok_words (P := l.prog) (w := w) (base := base) T D__words_of 6
  have E_write := ok_write T B D_write_body E_words
  have E_many := ok_many T (PySem.W.mg_of X G a_ASKED_OF_TWO) S_ASKED_OF_TWO D__many_words E_one
  have E_read := ok_read T pt dg T_NoNote M_NoNote D__read_expression E_many 65
  have E_rb := ok_readB T (PySem.W.mg_of X G a_MOST_WORDS) B T_NoNote M_NoNote H_NoNote T_NoBody D_read_body E_cb E_read IN E_write
  have E_pool := ok_pool (P := l.prog) (w := w) (base := base) T D_L_pool
  have E_ltake := ok_take (P := l.prog) (w := w) (base := base) T D_L_take
  have E_lone := ok_one T D_L_one E_ltake
  have E_leaf := ok_leaf T D_L_leaf E_ltake E_lone
  have E_asking := ok_asking T D_L_asking E_ltake E_lone
  have E_deep := ok_part T D_L_deep E_ltake E_leaf E_asking 2
  have E_flat := ok_flat (P := l.prog) (w := w) (base := base) T D_L_flat 6
  have E_lread := ok_lread T R T_NoName T_NoNote (PySem.W.mg_of X G aA) D_L_read E_rb
  have E_due := ok_ldue T T_NoBody IB D_L_due
  have E_great := ok_great (P := l.prog) (w := w) (base := base) T D_L_greatest
  have E_bent := ok_bent T D_L_bent E_ltake
  have E_right := ok_right T B ic IB QB D_L_right E_write E_flat E_lread E_due E_bent
  exact ok_law T E_pool E_lone E_deep E_flat E_great E_right FL
end Ab
open PySem PySem.W PyProof.Rows
set_option maxRecDepth 100000 in
set_option maxHeartbeats 0 in
theorem PySem.Challenge.cw_answersby_k88_bodies_written_holds : PySem.Challenge.rw_answersby_k88_bodies_written.Holds := by
  w_on; o_law; k_head; (case hw => w_witness2)
  k_fill
  refine Gk.walkG (l := PySem.Challenge.rw_answersby_k88_bodies_written) (n := 63) (k := 73) (x := "_law_script") (sp := fun w => Ab.spLaw _) rfl (by decide) rfl ⟨rfl, by decide, by decide⟩ (fun w h Y => PySem.W.kIn_of Y) ?F (fun w H a ns hl _ hS => ⟨a, ns, rfl, hS, hl, fun _ => rfl⟩)
  case F =>
    intro w mg fa h KX G hmg
    refine' Ab.all_mk KX G hmg ?a1 ?l1 ?c1 ?k1 ?a2 ?l2 ?c2 ?k2 ?a3 ?l3 ?c3 ?k3 ?a4 ?l4 ?c4 ?k4 ?a5 ?l5 ?c5 ?k5 ?a6 ?l6 ?c6 ?k6 ?a7 ?l7 ?c7 ?k7 ?a8 ?l8 ?c8 ?k8 ?a9 ?l9 ?c9 ?k9 ?a10 ?l10 ?c10 ?k10 ?a11 ?l11 ?c11 ?k11 ?a12 ?l12 ?c12 ?k12 ?a13 ?l13 ?c13 ?k13 ?a14 ?l14 ?c14 ?k14 ?a15 ?l15 ?c15 ?k15 ?a16 ?l16 ?c16 ?k16 ?a17 ?l17 ?c17 ?k17 ?a18 ?l18 ?c18 ?k18 ?a19 ?l19 ?c19 ?k19 ?a20 ?l20 ?c20 ?k20 ?a21 ?l21 ?c21 ?k21 ?a22 ?l22 ?c22 ?k22 ?a23 ?l23 ?c23 ?k23 ?a24 ?l24 ?c24 ?k24 ?a25 ?l25 ?c25 ?k25 ?a26 ?l26 ?c26 ?k26 ?a27 ?l27 ?c27 ?k27 ?a28 ?l28 ?c28 ?k28 ?a29 ?l29 ?c29 ?k29 ?a30 ?l30 ?c30 ?k30 ?a31 ?l31 ?c31 ?k31 ?a32 ?l32 ?c32 ?k32 ?a33 ?l33 ?c33 ?k33 ?a34 ?l34 ?c34 ?k34 ?z_int ?z_len ?z_max ?z_min ?z_isinstance ?z_range ?z_list ?z_dict ?z_tuple ?z_set ?z_str ?z_bool ?z_repr ?z_all ?z_sum ?z_zip ?aA ?hsp ?htk ?aC_NoName ?xL_NoName ?sa_NoName ?eC_NoName ?tC_NoName ?kC_NoName ?ga_NoName ?gg_NoName ?hC_NoName ?hcl_NoName ?hmr_NoName ?nf_NoName ?cC_NoName ?sC_NoName ?iI_NoName ?tI_NoName ?lI_NoName ?cI_NoName ?kI_NoName ?aC_NoBody ?xL_NoBody ?sa_NoBody ?eC_NoBody ?tC_NoBody ?kC_NoBody ?ga_NoBody ?gg_NoBody ?hC_NoBody ?hcl_NoBody ?hmr_NoBody ?nf_NoBody ?cC_NoBody ?sC_NoBody ?iI_NoBody ?tI_NoBody ?lI_NoBody ?cI_NoBody ?kI_NoBody ?aC_NoNote ?xL_NoNote ?sa_NoNote ?eC_NoNote ?tC_NoNote ?kC_NoNote ?ga_NoNote ?gg_NoNote ?hC_NoNote ?hcl_NoNote ?hmr_NoNote ?nf_NoNote ?cC_NoNote ?sC_NoNote ?iI_NoNote ?tI_NoNote ?lI_NoNote ?cI_NoNote ?kI_NoNote ?cC_A ?tC_A ?ka_NoName ?kv_NoName ?ka_NoBody ?kv_NoBody ?ka_NoNote ?kv_NoNote ?no_NoNote_NoName ?no_NoName_NoNote ?aK_Body ?pg_Body ?hd_Body ?po_Body ?sa_Body ?mk_Body ?kc_Body ?ne_Body ?ob_Body ?hc_Body ?dq_Body ?cC_Body ?tC_Body ?n_Body_method ?n_Body_expression ?n_Body__nodes ?a_Body_init ?i_Body_init ?l_Body_init ?c_Body_init ?k_Body_init ?a_Body_eq ?i_Body_eq ?l_Body_eq ?c_Body_eq ?k_Body_eq ?a_METHODS ?l_METHODS ?z_METHODS ?v_METHODS ?a_OTHER_TAKERS ?l_OTHER_TAKERS ?z_OTHER_TAKERS ?v_OTHER_TAKERS ?a_DECLINERS ?l_DECLINERS ?z_DECLINERS ?v_DECLINERS ?a_BODY_KINDS ?l_BODY_KINDS ?z_BODY_KINDS ?v_BODY_KINDS ?a_ANSWER_WORDS ?l_ANSWER_WORDS ?z_ANSWER_WORDS ?v_ANSWER_WORDS ?a_ASKED_OF_ONE ?l_ASKED_OF_ONE ?z_ASKED_OF_ONE ?v_ASKED_OF_ONE ?a_ASKED_OF_TWO ?l_ASKED_OF_TWO ?z_ASKED_OF_TWO ?v_ASKED_OF_TWO ?a_MOST_WORDS ?a_MOST_COUNT ?a_MOST_NODES ?a_MOST_DEPTH ?a_KINDS ?l_KINDS ?y_KINDS ?g_KINDS_truth ?g_KINDS_length ?g_KINDS_item ?g_KINDS_walk ?g_KINDS_back ?g_KINDS_has ?g_KINDS_like ?g_KINDS_unlike ?g_KINDS_before ?g_KINDS_behind ?g_KINDS_hash ?g_KINDS_grow ?g_KINDS_plus ?g_KINDS_call ?a_PARTS ?l_PARTS ?y_PARTS ?g_PARTS_not ?g_PARTS_if ?x_PARTS ?o_PARTS ?a_DIGITS ?l_DIGITS ?y_DIGITS ?g_DIGITS_0 ?g_DIGITS_1 ?g_DIGITS_2 ?g_DIGITS_3 ?g_DIGITS_4 ?x_DIGITS ?o_DIGITS
    (case a1 => k_is)
    (case l1 => k_is)
    (case c1 => k_is)
    (case k1 => k_is)
    (case a2 => k_is)
    (case l2 => k_is)
    (case c2 => k_is)
    (case k2 => k_is)
    (case a3 => k_is)
    (case l3 => k_is)
    (case c3 => k_is)
    (case k3 => k_is)
    (case a4 => k_is)
    (case l4 => k_is)
    (case c4 => k_is)
    (case k4 => k_is)
    (case a5 => k_is)
    (case l5 => k_is)
    (case c5 => k_is)
    (case k5 => k_is)
    (case a6 => k_is)
    (case l6 => k_is)
    (case c6 => k_is)
    (case k6 => k_is)
    (case a7 => k_is)
    (case l7 => k_is)
    (case c7 => k_is)
    (case k7 => k_is)
    (case a8 => k_is)
    (case l8 => k_is)
    (case c8 => k_is)
    (case k8 => k_is)
    (case a9 => k_is)
    (case l9 => k_is)
    (case c9 => k_is)
    (case k9 => k_is)
    (case a10 => k_is)
    (case l10 => k_is)
    (case c10 => k_is)
    (case k10 => k_is)
    (case a11 => k_is)
    (case l11 => k_is)
    (case c11 => k_is)
    (case k11 => k_is)
    (case a12 => k_is)
    (case l12 => k_is)
    (case c12 => k_is)
    (case k12 => k_is)
    (case a13 => k_is)
    (case l13 => k_is)
    (case c13 => k_is)
    (case k13 => k_is)
    (case a14 => k_is)
    (case l14 => k_is)
    (case c14 => k_is)
    (case k14 => k_is)
    (case a15 => k_is)
    (case l15 => k_is)
    (case c15 => k_is)
    (case k15 => k_is)
    (case a16 => k_is)
    (case l16 => k_is)
    (case c16 => k_is)
    (case k16 => k_is)
    (case a17 => k_is)
    (case l17 => k_is)
    (case c17 => k_is)
    (case k17 => k_is)
    (case a18 => k_is)
    (case l18 => k_is)
    (case c18 => k_is)
    (case k18 => k_is)
    (case a19 => k_is)
    (case l19 => k_is)
    (case c19 => k_is)
    (case k19 => k_is)
    (case a20 => k_is)
    (case l20 => k_is)
    (case c20 => k_is)
    (case k20 => k_is)
    (case a21 => k_is)
    (case l21 => k_is)
    (case c21 => k_is)
    (case k21 => k_is)
    (case a22 => k_is)
    (case l22 => k_is)
    (case c22 => k_is)
    (case k22 => k_is)
    (case a23 => k_is)
    (case l23 => k_is)
    (case c23 => k_is)
    (case k23 => k_is)
    (case a24 => k_is)
    (case l24 => k_is)
    (case c24 => k_is)
    (case k24 => k_is)
    (case a25 => k_is)
    (case l25 => k_is)
    (case c25 => k_is)
    (case k25 => k_is)
    (case a26 => k_is)
    (case l26 => k_is)
    (case c26 => k_is)
    (case k26 => k_is)
    (case a27 => k_is)
    (case l27 => k_is)
    (case c27 => k_is)
    (case k27 => k_is)
    (case a28 => k_is)
    (case l28 => k_is)
    (case c28 => k_is)
    (case k28 => k_is)
    (case a29 => k_is)
    (case l29 => k_is)
    (case c29 => k_is)
    (case k29 => k_is)
    (case a30 => k_is)
    (case l30 => k_is)
    (case c30 => k_is)
    (case k30 => k_is)
    (case a31 => k_is)
    (case l31 => k_is)
    (case c31 => k_is)
    (case k31 => k_is)
    (case a32 => k_is)
    (case l32 => k_is)
    (case c32 => k_is)
    (case k32 => k_is)
    (case a33 => k_is)
    (case l33 => k_is)
    (case c33 => k_is)
    (case k33 => k_is)
    (case a34 => k_is)
    (case l34 => k_is)
    (case c34 => k_is)
    (case k34 => k_is)
    (case z_int => k_is)
    (case z_len => k_is)
    (case z_max => k_is)
    (case z_min => k_is)
    (case z_isinstance => k_is)
    (case z_range => k_is)
    (case z_list => k_is)
    (case z_dict => k_is)
    (case z_tuple => k_is)
    (case z_set => k_is)
    (case z_str => k_is)
    (case z_bool => k_is)
    (case z_repr => k_is)
    (case z_all => k_is)
    (case z_sum => k_is)
    (case z_zip => k_is)
    (case aA => k_is)
    (case hsp => k_is)
    (case htk => k_is)
    (case aC_NoName => k_is)
    (case xL_NoName => k_is)
    (case sa_NoName => k_is)
    (case eC_NoName => k_is)
    (case tC_NoName => k_is)
    (case kC_NoName => k_is)
    (case ga_NoName => k_is)
    (case gg_NoName => k_is)
    (case hC_NoName => k_is)
    (case hcl_NoName => k_is)
    (case hmr_NoName => k_is)
    (case nf_NoName => k_is)
    (case cC_NoName => k_is)
    (case sC_NoName => k_is)
    (case iI_NoName => k_is)
    (case tI_NoName => k_is)
    (case lI_NoName => k_is)
    (case cI_NoName => k_is)
    (case kI_NoName => k_is)
    (case aC_NoBody => k_is)
    (case xL_NoBody => k_is)
    (case sa_NoBody => k_is)
    (case eC_NoBody => k_is)
    (case tC_NoBody => k_is)
    (case kC_NoBody => k_is)
    (case ga_NoBody => k_is)
    (case gg_NoBody => k_is)
    (case hC_NoBody => k_is)
    (case hcl_NoBody => k_is)
    (case hmr_NoBody => k_is)
    (case nf_NoBody => k_is)
    (case cC_NoBody => k_is)
    (case sC_NoBody => k_is)
    (case iI_NoBody => k_is)
    (case tI_NoBody => k_is)
    (case lI_NoBody => k_is)
    (case cI_NoBody => k_is)
    (case kI_NoBody => k_is)
    (case aC_NoNote => k_is)
    (case xL_NoNote => k_is)
    (case sa_NoNote => k_is)
    (case eC_NoNote => k_is)
    (case tC_NoNote => k_is)
    (case kC_NoNote => k_is)
    (case ga_NoNote => k_is)
    (case gg_NoNote => k_is)
    (case hC_NoNote => k_is)
    (case hcl_NoNote => k_is)
    (case hmr_NoNote => k_is)
    (case nf_NoNote => k_is)
    (case cC_NoNote => k_is)
    (case sC_NoNote => k_is)
    (case iI_NoNote => k_is)
    (case tI_NoNote => k_is)
    (case lI_NoNote => k_is)
    (case cI_NoNote => k_is)
    (case kI_NoNote => k_is)
    (case cC_A => k_is)
    (case tC_A => k_is)
    (case ka_NoName => k_is)
    (case kv_NoName => k_is)
    (case ka_NoBody => k_is)
    (case kv_NoBody => k_is)
    (case ka_NoNote => k_is)
    (case kv_NoNote => k_is)
    (case no_NoNote_NoName => k_is)
    (case no_NoName_NoNote => k_is)
    (case aK_Body => k_is)
    (case pg_Body => k_is)
    (case hd_Body => k_is)
    (case po_Body => k_is)
    (case sa_Body => k_is)
    (case mk_Body => k_is)
    (case kc_Body => k_is)
    (case ne_Body => k_is)
    (case ob_Body => k_is)
    (case hc_Body => k_is)
    (case dq_Body => k_is)
    (case cC_Body => k_is)
    (case tC_Body => k_is)
    (case n_Body_method => k_is)
    (case n_Body_expression => k_is)
    (case n_Body__nodes => k_is)
    (case a_Body_init => k_is)
    (case i_Body_init => k_is)
    (case l_Body_init => k_is)
    (case c_Body_init => k_is)
    (case k_Body_init => k_is)
    (case a_Body_eq => k_is)
    (case i_Body_eq => k_is)
    (case l_Body_eq => k_is)
    (case c_Body_eq => k_is)
    (case k_Body_eq => k_is)
    (case a_METHODS => k_is)
    (case l_METHODS => k_is)
    (case z_METHODS => decide +kernel)
    (case v_METHODS => repeat (first | exact .nil | refine .cons ⟨_, rfl⟩ ?_))
    (case a_OTHER_TAKERS => k_is)
    (case l_OTHER_TAKERS => k_is)
    (case z_OTHER_TAKERS => decide +kernel)
    (case v_OTHER_TAKERS => repeat (first | exact .nil | refine .cons ⟨_, rfl⟩ ?_))
    (case a_DECLINERS => k_is)
    (case l_DECLINERS => k_is)
    (case z_DECLINERS => decide +kernel)
    (case v_DECLINERS => repeat (first | exact .nil | refine .cons ⟨_, rfl⟩ ?_))
    (case a_BODY_KINDS => k_is)
    (case l_BODY_KINDS => k_is)
    (case z_BODY_KINDS => decide +kernel)
    (case v_BODY_KINDS => repeat (first | exact .nil | refine .cons ⟨_, rfl⟩ ?_))
    (case a_ANSWER_WORDS => k_is)
    (case l_ANSWER_WORDS => k_is)
    (case z_ANSWER_WORDS => decide +kernel)
    (case v_ANSWER_WORDS => repeat (first | exact .nil | refine .cons ⟨_, rfl⟩ ?_))
    (case a_ASKED_OF_ONE => k_is)
    (case l_ASKED_OF_ONE => k_is)
    (case z_ASKED_OF_ONE => decide +kernel)
    (case v_ASKED_OF_ONE => repeat (first | exact .nil | refine .cons ⟨_, rfl⟩ ?_))
    (case a_ASKED_OF_TWO => k_is)
    (case l_ASKED_OF_TWO => k_is)
    (case z_ASKED_OF_TWO => decide +kernel)
    (case v_ASKED_OF_TWO => repeat (first | exact .nil | refine .cons ⟨_, rfl⟩ ?_))
    (case a_MOST_WORDS => k_is)
    (case a_MOST_COUNT => k_is)
    (case a_MOST_NODES => k_is)
    (case a_MOST_DEPTH => k_is)
    (case a_KINDS => k_is)
    (case l_KINDS => k_is)
    (case y_KINDS => repeat (first | exact Ab.kl_nil | refine Ab.kl_cons ?_))
    (case g_KINDS_truth => k_is)
    (case g_KINDS_length => k_is)
    (case g_KINDS_item => k_is)
    (case g_KINDS_walk => k_is)
    (case g_KINDS_back => k_is)
    (case g_KINDS_has => k_is)
    (case g_KINDS_like => k_is)
    (case g_KINDS_unlike => k_is)
    (case g_KINDS_before => k_is)
    (case g_KINDS_behind => k_is)
    (case g_KINDS_hash => k_is)
    (case g_KINDS_grow => k_is)
    (case g_KINDS_plus => k_is)
    (case g_KINDS_call => k_is)
    (case a_PARTS => k_is)
    (case l_PARTS => k_is)
    (case y_PARTS => repeat (first | exact Ab.kl_nil | refine Ab.kl_cons ?_))
    (case g_PARTS_not => k_is)
    (case g_PARTS_if => k_is)
    (case x_PARTS => rfl)
    (case o_PARTS => first | rfl | decide +kernel)
    (case a_DIGITS => k_is)
    (case l_DIGITS => k_is)
    (case y_DIGITS => repeat (first | exact Ab.kl_nil | refine Ab.kl_cons ?_))
    (case g_DIGITS_0 => k_is)
    (case g_DIGITS_1 => k_is)
    (case g_DIGITS_2 => k_is)
    (case g_DIGITS_3 => k_is)
    (case g_DIGITS_4 => k_is)
    (case x_DIGITS => rfl)
    (case o_DIGITS => first | rfl | decide +kernel)
