import PyProof.Rows.All
import Wide.All
import OpenK.AllK
import Wide.FinOn
import HandS.ForMost
import PyProof.ReprReads
import PyProof.ReprRoads
import HandS.Codes
import HandS.ForExc
import HandS.ExcInit
import HandS.ExcField
import HandS.ExcIs
import KE.KExcIs
import HandS.IsInst
import HandS.WrittenGet
import HandS.Star
import HandS.Conv
import HandS.More
import KE.KExcInit
import HandS.ExcValue
import HandS.Small
import HandS.Walk
import HandS.Iter
import PySem.Challenge.RW_answersby_k34_refusals_apart
set_option Elab.async false
set_option linter.all false
set_option maxRecDepth 100000
set_option maxHeartbeats 8000000
/-! repr of data; defs that are called where no container is being shown -/
namespace Gk
open PySem L2 PySem.Spec PyProof.Rows

/-! ### a def's promise, kept where no list, tuple or dict is being shown -/
structure FnG (P : Program) (w : World) (K : PySem.W.Frag) (mg : Str → Option Value) (base : Heap) (CX : CXT) (k : Nat) (f : Addr) (fd : FuncData) (ps : List Str) (sp : Sp) : Prop where
  len : ∀ vs H Q E, sp vs H Q E → vs.length = ps.length
  go : ∀ (A : Around), A.guards = some [] → ∀ (outer : List Env) (s : Shared) (H : Hp) (args : Args) (us : List Value) (vs : List V) (Q : VK) (E : XK),
    Room k A → Env0 P w K mg base A outer s H → BindsTo s fd args (ps.zip us) → Vals vs us → sp vs H Q E → codeAny (model P w) A (.call (.ref f) args) (CR CX outer P w H s Q E) s

section
variable {P : Program} {w : World} {K : PySem.W.Frag} {mg : Str → Option Value} {base : Heap} {CX : CXT} {j k : Nat} {f : Addr} {fd : FuncData} {ps : List Str} {sp : Sp}
theorem FnG.up (F : FnG P w K mg base CX j f fd ps sp) (h : j ≤ k) : FnG P w K mg base CX k f fd ps sp :=
  ⟨F.len, fun A g outer s H args us vs Q E hr => F.go A g outer s H args us vs Q E (hr.mono h)⟩
end

section
variable {X : Cx} {CX : CXT} {k : Nat} {f : Addr} {fd : FuncData} {ps : List Str} {sp : Sp} {dvs : List V} {ds : List Value} {E : XK} {x : Str} {p pos : Pos} {e : Expr} {es : List Expr} {t : TA}
theorem runG {pins : List (Addr × Obj)} {σ : L2.St} {H : Hp} {s : Shared} {Q : VK} {us : List Value} {vs : List V} (F : FnG X.prog X.w X.K X.mg X.base CX k f fd ps sp) (g : X.A.guards = some [])
    (hr : Room k X.A) (hb : Binds X.K fd ps ds) (hd : Vals dvs ds) (hx : Passes CX X E) (I : Inv X pins σ H s) (r : Vals vs us) (h : sp (vs ++ dvs) H Q E) :
    wpAny (model X.prog X.w) X.A (call (.ref f) us) (EP X pins σ Q) X.xe s := by
  have rr := r.append hd
  have lens : (us ++ ds).length = ps.length := (rr.length).symm.trans (F.len _ _ _ _ h)
  have body := F.go X.A g X.stack s H ⟨us, []⟩ (us ++ ds) (vs ++ dvs) Q E hr I.env0 (hb s us I.kIn lens) rr h
  refine wpAny_call (codeAny_mono body ?_)
  intro res s' hres
  match res, hres with
  | .error e, z => exact hx pins σ H s e s' I z
  | .ok (.ret u), z => exact I.after z
  | .ok .next, z => exact z.elim
  | .ok .brk, z => exact z.elim
  | .ok .cont, z => exact z.elim
theorem pe_callG (F : FnG X.prog X.w X.K X.mg X.base CX k f fd ps sp) (g : X.A.guards = some []) (hr : Room k X.A) (hg : Gl X x) (hm : X.mg x = some (.ref f))
    (hk : PySem.W.keepIn X.K (.ref f) = true) (hb : Binds X.K fd ps ds) (hd : Vals dvs ds) (hx : Passes CX X E) (ha : PA X (e :: es) t)
    (hdb : (x == ("__debug__" : Str)) = false := by decide)
    (he : starEach (e :: es) X.env = (false, eval e X.env) :: starEach es X.env := by rfl)
    (hpl : (backTo pos (starEach es X.env)).any (·.1) = false := by rfl) :
    PE X (.Call (.Name x p) (e :: es) [] pos) (tCall sp dvs E t) := by
  refine ⟨fun pins s σ H Q I h => wpAny_Call_Name_kw (ld_glob I hg hm ?_ hdb)⟩
  have args := ha.run pos pins s σ H _ I h
  refine PySem.W.callWith_K (h₀ := X.base) I.ok.mod.kin hk (thn args ?_) he hpl
  rintro us s1 ⟨vs, H1, I1, r, q⟩
  exact ⟨I1.kIn, runG F g hr hb hd hx I1 r q⟩
end

/-! ### a def of the text, and the law's own call -/
section
variable {CX : CXT} {P : Program} {w : World} {K : PySem.W.Frag} {mg : Str → Option Value} {base : Heap}
theorem defG {k : Nat} {f : Addr} {x qual : Str} {st : Stmt} {fd : FuncData} {N ps : List Str} {sp : Sp}
    (F : Fun K x qual st f fd) (S : FnScope N ps (defScope st)) (len : ∀ vs H Q E, sp vs H Q E → vs.length = ps.length)
    (inner : ∀ (cd : Value) (A : Around), A.guards = some [] → ∀ (outer : List Env) (s : Shared) (H : Hp) (vs : List V) (Q : VK) (E : XK),
      Room k (A.deeper (envOfC qual (defScope st) s.heap.objs.size f cd)) → sp vs H Q E →
      ∃ t, PSs (cxOf CX P w K mg base N qual (defScope st) f cd A outer s H E) (defBody st) t ∧ t { nx := fun _ H' => Q .non H', rt := Q } (start N vs) H) :
    FnG P w K mg base CX (k + 1) f fd ps sp := by
  obtain ⟨oc, od, kV, doc, pm, an, cd, ct, osl, rfl, lk, hcd⟩ := F.ex
  refine ⟨len, ?_⟩
  intro A g outer s H args us vs Q E hr e0 hb r hsp
  have kept : ∀ b o, base.get? b = some o → s.heap.get? b = some o := fun b o z => (e0.bs b o z).1
  have KX : K.In s.heap := e0.mod.kin.keeps kept
  have lim : s.heap.NoLimit := e0.mod.nolimit.keeps kept
  have slots : ∀ y ∈ ps.zip us, (defScope st).names.lookup y.1 = some .local ∨
      ((defScope st).names.lookup y.1 = some .cell ∧ ((cellsFrom (s.heap.objs.size + 1) (defScope st).names []).lookup y.1).isSome = true) := by
    rintro ⟨n, v⟩ hy
    have hp := S.par n (List.of_mem_zip hy).1
    exact hp.imp id fun q => ⟨q, PySem.W.cellsFrom_some _ _ _ (.inl q)⟩
  refine codeAny_call_function hr.depth (KX _ _ lk) rfl S.co S.gen rfl (PySem.W.codeRec_of KX hcd) (hb _ _ _ _ ?_)
  refine wpAny_newFunctionEnv_cells S.kind slots ?_
  rintro env rfl s1 x
  refine ⟨lim.keeps x.toInCall.keep, codeAny_func ?_⟩
  obtain ⟨t, ht, hq⟩ := inner cd A g outer s H vs Q E (hr.deeper _) hsp
  have I := inv_start (CX := CX) (mg := mg) (E := E) S hr.hd e0 (len _ _ _ _ hsp) r x
  refine wpAny_mono (ht.run [] s1 (start N vs) H _ I hq) ?_ fun _ _ z => z
  intro fl s' hs
  match fl, hs with
  | .ret u, ⟨v, σ', H', J, rv, q⟩ => exact ⟨v, H', J.os, J.bare, J.base, J.hok, rv, q⟩
  | .next, ⟨σ', H', J, q⟩ => exact ⟨V.non, H', J.os, J.bare, J.base, J.hok, rfl, q⟩
  | .brk, ⟨_, _, _, q⟩ => exact q.elim
  | .cont, ⟨_, _, _, q⟩ => exact q.elim
/-- no exception leaves the def -/
theorem defG0 {k : Nat} {f : Addr} {x qual : Str} {st : Stmt} {fd : FuncData} {N ps : List Str} {sp : Sp}
    (F : Fun K x qual st f fd) (S : FnScope N ps (defScope st)) (len : ∀ vs H Q E, sp vs H Q E → vs.length = ps.length)
    (inner : ∀ (cd : Value) (A : Around), A.guards = some [] → ∀ (outer : List Env) (s : Shared) (H : Hp) (vs : List V) (Q : VK) (E : XK),
      Room k (A.deeper (envOfC qual (defScope st) s.heap.objs.size f cd)) → sp vs H Q E →
      ∃ t, PSs (cxOf CX0 P w K mg base N qual (defScope st) f cd A outer s H E).nox (defBody st) t ∧ t { nx := fun _ H' => Q .non H', rt := Q } (start N vs) H) :
    FnG P w K mg base CX0 (k + 1) f fd ps sp :=
  defG F S len fun cd A g outer s H vs Q E hr h => let ⟨t, a, b⟩ := inner cd A g outer s H vs Q E hr h; ⟨t, a.nox, b⟩
end

/-! ### repr -/
section
variable {X : Cx}
def rRepr (K : PySem.W.Frag) : List V → Hp → VK → Prop := fun xs H Q =>
  ∃ v d, xs = [v] ∧ Dp K H v d ∧ d.showable = true ∧ d.hasDict = false ∧ d.depth ≤ 60 ∧ d.shown.length ≤ sizeLine ∧ Q (.str d.shown) H
theorem call_reprD (hg : X.A.guards = some []) (hu : X.A.units + 64 < cLine) : CallR X (.builtin "repr") (rRepr X.K) := by
  intro pins s σ H xs us Q I r h
  obtain ⟨v, d, rfl, hd, h1, h2, h3, h4, q⟩ := h
  obtain ⟨u, rfl, ru⟩ := vals1 r
  obtain ⟨as, rd⟩ := Dp.reads I d v u hd ru
  have out : ∀ h' u' tk, (∀ b o, s.heap.get? b = some o → h'.get? b = some o) → EP X pins σ Q (.str d.shown u') { s with heap := h', toks := tk } :=
    fun h' u' tk hk => ⟨.str d.shown, H, I.kept hk, ⟨u', rfl⟩, q⟩
  cases rd with
  | none => exact P.repr_of_none (by simpa only [PyData.shown] using out s.heap s.toks (s.toks + 1) fun _ _ z => z)
  | bool b => exact P.repr_of_bool (by simpa only [PyData.shown] using out s.heap s.toks (s.toks + 1) fun _ _ z => z)
  | int i t => exact P.repr_of_int (by simpa [PyData.showable] using h1) (by simpa only [PyData.shown] using out s.heap _ _ fun _ _ z => z)
  | str x t => exact P.repr_of_str (by simpa only [PyData.shown] using out s.heap _ _ fun _ _ z => z) (by simpa only [PyData.shown] using h4)
  | list a1 a2 a3 a4 => exact repr_of_reads' (.list a1 a2 a3 a4) h1 (fun z => by rw [h2] at z; cases z) hg (by omega) (fun _ _ z => z) out h4
  | tuple a1 a2 a3 a4 => exact repr_of_reads' (.tuple a1 a2 a3 a4) h1 (fun z => by rw [h2] at z; cases z) hg (by omega) (fun _ _ z => z) out h4
  | dict a1 a2 a3 a4 a5 => simp [PyData.hasDict] at h2
end
end Gk
/-! the law's own call, by a promise of the kind FnG -/
namespace Gk
open PySem L2 PySem.Spec PyProof.Rows
abbrev AllTrue (s₁ : Shared) (r : Result) (s' : Shared) : Prop := r = .ok (.ret (.bool true)) ∧ OldK s₁.heap s'.heap ∧ s'.os = s₁.os ∧ AllBare s'.gens
section
variable {P : Program} {w : World} {K : PySem.W.Frag} {mg mb : Str → Option Value} {k : Nat} {fa a : Addr} {fd : FuncData} {x : Str} {sp : Sp} {s₁ : Shared} {vs : List Value} {ns : List Int}
/-- what is hidden by H stands at a alone, and that is the script's list -/
structure Hid (K : PySem.W.Frag) (s₁ : Shared) (a : Addr) (vs : List Value) (H : Hp) : Prop where
  only : Only H
  at_a : ∀ b, H b ≠ none → b = a
  new : H a ≠ none → K.lookup a = none
  scr : s₁.heap.get? a = some { cls := .type "list", data := .seq vs.toArray }
theorem Hid.free {H : Hp} (h : Hid K s₁ a vs H) {b : Addr} {o : Obj} (e : s₁.heap.get? b = some o) (hd : ∀ z n, o.data ≠ .seq z n) : H b = none := by
  cases q : H b with
  | none => rfl
  | some u =>
    obtain rfl : b = a := h.at_a b (by simp [q])
    rw [h.scr] at e
    cases e
    exact absurd rfl (hd _ _)
theorem Hid.nsp {H : Hp} (h : Hid K s₁ a vs H) {b : Addr} {m : Str → Option Value} : s₁.heap.Ns b m → (hidT s₁.heap H).Ns b m := by
  rintro ⟨o, es, ep, e, d, r⟩
  exact ⟨o, es, ep, hidT_get e (h.free e fun z n q => by rw [d] at q; cases q), d, r⟩
theorem Hid.kin {H : Hp} (h : Hid K s₁ a vs H) (KX : K.In s₁.heap) : K.In (hidT s₁.heap H) := by
  intro b o e
  refine hidT_get (KX b o e) ?_
  cases q : H b with
  | none => rfl
  | some u =>
    obtain rfl : b = a := h.at_a b (by simp [q])
    rw [h.new (by simp [q])] at e
    cases e
theorem run_law {H : Hp} (h : Hid K s₁ a vs H) (KX : K.In s₁.heap) (hns : s₁.heap.Ns mainGlobals mg) (hb : s₁.heap.Ns builtinsNs mb) (hbb : ∀ x : Str, x ≠ "__name__" → mb x = bootBuiltins x) (hlim : s₁.heap.NoLimit)
    (hg : s₁.gens = #[]) (hr : Room k callerA) (F : ∀ base : Heap, K.In base → base.Ns mainGlobals mg → FnG P w K mg base CX0 k fa fd [x] sp)
    (hbind : ∀ (s : Shared) (u : Value), BindsTo s fd ⟨[u], []⟩ [(x, u)]) (hok : HOk P w H s₁.heap) (hsp : sp [.ref a] H (fun v _ => v = .bl true) fun _ _ _ => False) :
    codeAny (model P w) callerA (.call (.ref fa) ⟨[.ref a], []⟩) (AllTrue s₁) s₁ := by
  obtain ⟨mc, l1, l2⟩ := hlim
  have md : Mod K mg (hidT s₁.heap H) := ⟨h.kin KX, h.nsp hns, ⟨mb, h.nsp hb, hbb⟩, ⟨mc, h.nsp l1, l2⟩⟩
  have ev : Env0 P w K mg (hidT s₁.heap H) callerA [] s₁ H :=
    ⟨rfl, md, fun b o e => of_hidT e, Nat.le_of_eq (hidT_size _ _), trivial, fun b hb => (List.not_mem_nil hb).elim, hok, .of_eq hg⟩
  have go := (F _ (h.kin KX) (h.nsp hns)).go callerA rfl [] s₁ H ⟨[.ref a], []⟩ [.ref a] [.ref a] _ _ hr ev (hbind s₁ (.ref a)) (.cons rfl .nil) hsp
  refine codeAny_mono go ?_
  intro res s' hres
  match res, hres with
  | .error e, z => exact z.elim
  | .ok .next, z => exact z.elim
  | .ok .brk, z => exact z.elim
  | .ok .cont, z => exact z.elim
  | .ok (.ret u), ⟨v, H', os, bare, un, hok', rv, q⟩ =>
    obtain rfl : v = .bl true := q
    obtain rfl : u = Value.bool true := rv
    refine ⟨rfl, OldK.of_keep ?_, os, bare⟩
    intro b o e
    rcases h.only b with z | ⟨ob, xs, z⟩
    · exact un.keep b o e z (fun m => (List.not_mem_nil m).elim) (fun m => (List.not_mem_nil m).elim)
    · obtain ⟨e1, _⟩ := hok b _ z
      obtain ⟨e2, _⟩ := hok' b _ (un.frzs b ob _ z)
      rw [e] at e1
      cases e1
      exact e2
theorem law_callG (KX : K.In s₁.heap) (hns : s₁.heap.Ns mainGlobals mg) (hb : s₁.heap.Ns builtinsNs mb) (hbb : ∀ x : Str, x ≠ "__name__" → mb x = bootBuiltins x) (hlim : s₁.heap.NoLimit) (hg : s₁.gens = #[])
    (scr : s₁.heap.get? a = some { cls := .type "list", data := .seq vs.toArray }) (hi : IntsAre vs ns) (hl : ns.length ≤ sizeLine) (hr : Room k callerA)
    (F : ∀ base : Heap, K.In base → base.Ns mainGlobals mg → FnG P w K mg base CX0 k fa fd [x] sp) (hbind : ∀ (s : Shared) (u : Value), BindsTo s fd ⟨[u], []⟩ [(x, u)])
    (hsp : ∀ H : Hp, Only H → SqL K H a (ns.map V.int) → sp [.ref a] H (fun v _ => v = .bl true) fun _ _ _ => False) :
    codeAny (model P w) callerA (.call (.ref fa) ⟨[.ref a], []⟩) (AllTrue s₁) s₁ := by
  have rv := vals_ints hi
  cases hk : K.lookup a with
  | some o =>
    have e := KX a o hk
    rw [scr] at e
    cases e
    have on : Only (fun _ => none) := fun _ => .inl rfl
    refine run_law (H := fun _ => none) ⟨on, fun b z => absurd rfl z, fun z => absurd rfl z, scr⟩ KX hns hb hbb hlim hg hr F hbind (fun b u z => nomatch z) (hsp _ on ?_)
    exact .inr ⟨_, vs.toArray, _, hk, rfl, rfl, rfl, by rw [List.size_toArray, hi.length]; exact hl, by simpa using rv⟩
  | none =>
    let L : HO := .frz { cls := .type "list", data := .seq vs.toArray } (.lst (ns.map V.int))
    have la : (fun b => if b = a then some L else none : Hp) a = some L := if_pos rfl
    have on : Only (fun b => if b = a then some L else none) := by
      intro b
      by_cases hb : b = a
      · exact .inr ⟨_, _, if_pos hb⟩
      · exact .inl (if_neg hb)
    refine run_law ⟨on, fun b z => ?_, fun _ => hk, scr⟩ KX hns hb hbb hlim hg hr F hbind (fun b u z => ?_) (hsp _ on (.inl (.inr ⟨_, la⟩)))
    · by_cases hb : b = a
      · exact hb
      · exact absurd (if_neg hb) z
    · by_cases hb : b = a
      · subst hb
        have z' := la.symm.trans z
        cases z'
        exact ⟨scr, by rw [List.length_map]; exact hl, vs, _, rv, scr⟩
      · have z' := (if_neg hb).symm.trans z
        cases z'
end
theorem walkG {l : PySem.W.OpenLaw} {n k : Nat} {q : Program} {loose : List Str} {XP : (Str → Option Value) → Heap → Prop} {YP : World → Heap → Prop} {d : DefRec} {K : Params → PySem.W.Frag} {sp : World → Sp} {x : Str}
    (hn : l.most = some n) (hn2 : n ≤ sizeLine) (hdf : d.params.defaults = []) (hr : Room k callerA) (hY : ∀ (w : World) (h : Heap), YP w h → (K w.params).In h)
    (F : ∀ (w : World) (mg : Str → Option Value) (fa : Addr) (h : Heap), (K w.params).In h → h.Ns mainGlobals mg → mg d.name = some (.ref fa) →
      ∃ fd : FuncData, (∀ (s : Shared) (u : Value), BindsTo s fd ⟨[u], []⟩ [(x, u)]) ∧
        ∀ base : Heap, (K w.params).In base → base.Ns mainGlobals mg → FnG l.prog w (K w.params) mg base CX0 k fa fd [x] (sp w))
    (hsp : ∀ (w : World) (H : Hp) (a : Addr) (ns : List Int), ns.length ≤ n → Only H → SqL (K w.params) H a (ns.map V.int) → sp w [.ref a] H (fun v _ => v = .bl true) fun _ _ _ => False) :
    PySem.W.WalkO q loose XP YP l.row.toRowW d [] (fun f vs => PySem.call f vs) := by
  refine Att.attach_call hn hdf ?_
  intro w s₀ s₁ mg mb fa o pm cd doc a vs ns G Y ho hd hcd hmg hobj hints hlen hg
  obtain ⟨fd, hb, hF⟩ := F w mg fa _ (hY w _ Y) G.T.g hmg
  exact law_callG (hY w _ Y) G.T.g G.T.b G.T.builtins G.T.nolimit hg hobj hints (Nat.le_trans hlen hn2) hr hF hb fun H hO hS => hsp w H a ns hlen hO hS
end Gk
namespace Gk
open PySem L2 PySem.Spec PyProof.Rows
/-- a def of the module's top, by its name, with its promise -/
def CalG (P : Program) (w : World) (K : PySem.W.Frag) (mg : Str → Option Value) (base : Heap) (k : Nat) (x : Str) (sp : Sp) : Prop :=
  ∃ (f : Addr) (fd : FuncData) (ps : List Str), FnG P w K mg base CX0 k f fd ps sp ∧ mg x = some (.ref f) ∧ PySem.W.keepIn K (.ref f) = true ∧ Binds K fd ps []
/-- a def as the top has left it -/
def DefAt (K : PySem.W.Frag) (mg : Str → Option Value) (x : Str) (st : Stmt) (ps : List Str) : Prop :=
  ∃ (f : Addr) (fd : FuncData), mg x = some (.ref f) ∧ Fun K x x st f fd ∧ Binds K fd ps []
theorem defAt {K : PySem.W.Frag} {h : Heap} {mg : Str → Option Value} {x : Str} {st : Stmt} {ps : List Str} {f : Addr} {oc : Value} {od an : Option Addr} {osl : Array (Option Value)} {kV doc pm cdv ct : Value} (X : K.In h) (G : h.Ns mainGlobals mg)
    (hb : ∀ (kV doc pm : Value) (an : Option Addr) (cdv ct : Value) (us : List Value), us.length = ps.length → bindArgs (PySem.W.fnOf x x (defArgs st) (defBody st) (defScope st) .none kV doc pm an cdv ct) ⟨us, []⟩ = pure (ps.zip us))
    (a : PySem.W.nsIn K mainGlobals x = some (some (.ref f)))
    (l : K.lookup f = some ⟨oc, od, .func (PySem.W.fnOf x x (defArgs st) (defBody st) (defScope st) .none kV doc pm an cdv ct), osl⟩)
    (c : PySem.W.codeIn K cdv x = true) (k : PySem.W.keepIn K (.ref f) = true) : DefAt K mg x st ps :=
  ⟨f, _, PySem.W.mg_of X G a, fun_mk l c k, (fun_mk (st := st) l c k).binds hb⟩
section
variable {P : Program} {w : World} {K : PySem.W.Frag} {mg : Str → Option Value} {base : Heap}
/-- a def by its body -/
theorem DefAt.by {x : Str} {st : Stmt} {ps N : List Str} {k : Nat} {sp : Sp} (D : DefAt K mg x st ps) (S : FnScope N ps (defScope st)) (len : ∀ vs H Q E, sp vs H Q E → vs.length = ps.length)
    (inner : ∀ (f : Addr) (cd : Value) (A : Around), A.guards = some [] → ∀ (outer : List Env) (s : Shared) (H : Hp) (vs : List V) (Q : VK) (E : XK),
      Room k (A.deeper (envOfC x (defScope st) s.heap.objs.size f cd)) → sp vs H Q E →
      ∃ t, PSs (cxOf CX0 P w K mg base N x (defScope st) f cd A outer s H E).nox (defBody st) t ∧ t { nx := fun _ H' => Q .non H', rt := Q } (start N vs) H) :
    CalG P w K mg base (k + 1) x sp := by
  obtain ⟨f, fd, hm, F, hb⟩ := D
  exact ⟨f, fd, ps, defG0 F S len (inner f), hm, F.kp, hb⟩
end
section
variable {X : Cx} {k j : Nat} {sp : Sp} {x : Str} {p pos : Pos} {e : Expr} {es : List Expr} {t : TA}
theorem pe_cG (c : CalG X.prog X.w X.K X.mg X.base k x sp) (g : X.A.guards = some []) (hr : Room j X.A) (hk : k ≤ j) (ha : PA X (e :: es) t) (hg : Gl X x := by rfl)
    (hdb : (x == ("__debug__" : Str)) = false := by decide) (he : starEach (e :: es) X.env = (false, eval e X.env) :: starEach es X.env := by rfl)
    (hpl : (backTo pos (starEach es X.env)).any (·.1) = false := by rfl) : PE X (.Call (.Name x p) (e :: es) [] pos) (tCall sp [] E0 t) := by
  obtain ⟨f, fd, ps, F, hm, hkp, hb⟩ := c
  exact pe_callG F g (hr.mono hk) hg hm hkp hb .nil pass0 ha hdb he hpl
end
end Gk
/-! readings, one construct a lemma: what a term of the layer asks, from the value -/
namespace Rd
open PySem L2 PySem.Spec PyProof.Rows Gk
section
variable {K : PySem.W.Frag} {σ : L2.St} {H : Hp} {Q : VK} {QA : List V → Hp → Prop} {QB : Bool → Hp → Prop} {QH : Hp → Prop} {D : Ends} {i j : Int} {n : Nat} {v x y : V} {ta tb te : TE} {tt tu : TT} {t u : TS} {as ar : TA} {p q : Addr} {xs ys : List V} {z s : Str} {b c : Bool}
theorem var (h : σ[n]? = some (some v)) (k : Q v H) : tVar n σ H Q := ⟨v, h, k⟩
theorem cst (k : Q v H) : tC v σ H Q := k
theorem op {r : R2} (k : ta σ H fun x H1 => tb σ H1 fun y H2 => r x y H2 Q) : tOp r ta tb σ H Q := k
theorem un {r : V → Hp → VK → Prop} (k : ta σ H fun x H1 => r x H1 Q) : tUn r ta σ H Q := k
theorem i0 {g : Int → Int → V} (k : Q (g i j) H) : rI0 g (.int i) (.int j) H Q := ⟨i, j, rfl, rfl, k⟩
theorem ic {C : Int → Int → Prop} {g : Int → Int → V} (h : C i j) (k : Q (g i j) H) : rI C g (.int i) (.int j) H Q := ⟨i, j, rfl, rfl, h, k⟩
theorem u1 {g : Int → V} (k : Q (g i) H) : rU g (.int i) H Q := ⟨i, rfl, k⟩
theorem eq (h : scal x y = true) (k : Q (.bl (decide (x = y))) H) : rEq x y H Q := ⟨h, k⟩
theorem ne (h : scal x y = true) (k : Q (.bl (!decide (x = y))) H) : rNe x y H Q := ⟨h, k⟩
theorem ixL (h : SqL K H p xs) (a : atI xs i = some v) (k : Q v H) : rIxL K (.ref p) (.int i) H Q := ⟨p, xs, i, v, rfl, rfl, h, a, k⟩
theorem ixT (h : SqT K H p xs) (a : atI xs i = some v) (k : Q v H) : rIxT K (.ref p) (.int i) H Q := ⟨p, xs, i, v, rfl, rfl, h, a, k⟩
theorem ixS {m : Nat} (h : z.length ≤ sizeLine) (a : atI z.cps.toList i = some m) (k : Q (.str ⟨#[m]⟩) H) : rIxS (.str z) (.int i) H Q := ⟨z, i, m, rfl, rfl, h, a, k⟩
theorem setL {m : Nat} (h : H p = some (.lst xs)) (a : ixN xs.length i = some m) (k : QH (upd H p (.lst (xs.set m v)))) : rSetL (.ref p) (.int i) v H QH := ⟨p, xs, i, m, rfl, rfl, h, a, k⟩
theorem inL {neg : Bool} (h : SqL K H p xs) (hx : flatV x = true) (ha : xs.all flatV = true) (k : Q (.bl (if neg then !inV x xs else inV x xs)) H) : rIn K neg x (.ref p) H Q := ⟨p, xs, rfl, .inl h, hx, ha, k⟩
theorem slL {lo hi : Option Int} (h : SqL K H p xs) (k : ∀ q, H q = none → Q (.ref q) (upd H q (.lst (cutV xs lo hi)))) : rSlL K (.ref p) lo hi H Q := ⟨p, xs, rfl, h, k⟩
theorem slS {lo hi : Option Int} (h : z.length ≤ sizeLine) (k : Q (.str (cutS z lo hi)) H) : rSlS (.str z) lo hi H Q := ⟨z, rfl, h, k⟩
theorem cat (h : H p = some (.lst xs)) (h' : H q = some (.lst ys)) (l : xs.length + ys.length ≤ sizeLine) (k : ∀ r, H r = none → Q (.ref r) (upd H r (.lst (xs ++ ys)))) : rCat (.ref p) (.ref q) H Q := ⟨p, q, xs, ys, rfl, rfl, h, h', l, k⟩
theorem sl {r : V → Option Int → Option Int → Hp → VK → Prop} {tl th : TO} (k : te σ H fun x H1 => tl σ H1 fun l H2 => th σ H2 fun u H3 => r x l u H3 Q) : tSl r te tl th σ H Q := k
theorem noPart {QO : Option Int → Hp → Prop} (k : QO none H) : tNoPart σ H QO := k
theorem part {QO : Option Int → Hp → Prop} (k : te σ H fun x H1 => ∃ i, x = .int i ∧ QO (some i) H1) : tPart te σ H QO := k
theorem int_ {R : Int → Prop} (k : R i) : ∃ i', V.int i = .int i' ∧ R i' := ⟨i, rfl, k⟩
theorem bl_ {R : Bool → Prop} (k : R b) : ∃ c, V.bl b = .bl c ∧ R c := ⟨b, rfl, k⟩
theorem nil (k : QA [] H) : tNil σ H QA := k
theorem cons (k : te σ H fun x H1 => ar σ H1 fun xs H2 => QA (x :: xs) H2) : tCons te ar σ H QA := k
theorem cb {r : List V → Hp → VK → Prop} (k : as σ H fun vs H1 => r vs H1 Q) : tCB r as σ H Q := k
theorem call {sp : Sp} {dvs : List V} {E : XK} (k : as σ H fun vs H1 => sp (vs ++ dvs) H1 Q E) : tCall sp dvs E as σ H Q := k
theorem lst (k : as σ H fun xs H1 => xs.length ≤ sizeLine ∧ ∀ p, H1 p = none → Q (.ref p) (upd H1 p (.lst xs))) : tLst as σ H Q := k
theorem tup (k : as σ H fun xs H1 => xs.length ≤ sizeLine ∧ ∀ p, H1 p = none → Q (.ref p) (upd H1 p (.tup xs))) : tTup as σ H Q := k
theorem test (k : te σ H fun x H' => ∃ k, x = .bl k ∧ QB k H') : tTest te σ H QB := k
theorem tb_ (k : te σ H fun x H' => ∃ k, x = .bl k ∧ QB k H') : tB te σ H QB := k
theorem not_ (k : tt σ H fun c H1 => QB (!c) H1) : tNot tt σ H QB := k
theorem or_ (k : tt σ H fun c H1 => if c = true then QB true H1 else tu σ H1 QB) : tOr tt tu σ H QB := k
theorem and_ (k : tt σ H fun c H1 => if c = true then tu σ H1 QB else QB false H1) : tAnd tt tu σ H QB := k
theorem orV (k : ta σ H fun x H1 => ∃ c, x = .bl c ∧ if c = true then Q (.bl true) H1 else tb σ H1 Q) : tOrV ta tb σ H Q := k
theorem andV (k : ta σ H fun x H1 => ∃ c, x = .bl c ∧ if c = true then tb σ H1 Q else Q (.bl false) H1) : tAndV ta tb σ H Q := k
theorem notV (k : ta σ H fun x H1 => ∃ c, x = .bl c ∧ Q (.bl (!c)) H1) : tNotV ta σ H Q := k
theorem tif (k : tt σ H fun c H1 => if c = true then ta σ H1 Q else tb σ H1 Q) : tIf tt ta tb σ H Q := k
theorem yes (k : QB true H) : tYes σ H QB := k
theorem next (k : D.nx σ H) : tNext D σ H := k
theorem seq (k : t { D with nx := u D } σ H) : tSeq t u D σ H := k
theorem drop (k : te σ H fun _ H1 => D.nx σ H1) : tDrop te D σ H := k
theorem ret (k : te σ H D.rt) : tRet te D σ H := k
theorem retN (k : D.rt .non H) : tRetN D σ H := k
theorem ifs (k : tt σ H fun b H1 => if b = true then t D σ H1 else u D σ H1) : tIfS tt t u D σ H := k
theorem asg {g : TG} (k : te σ H fun x H1 => g x σ H1 D.nx) : tAsg te g D σ H := k
theorem gname {QS : L2.St → Hp → Prop} (k : QS (σ.set n (some v)) H) : gName n v σ H QS := k
theorem gsub {QS : L2.St → Hp → Prop} {st : V → V → V → Hp → (Hp → Prop) → Prop} (k : ta σ H fun o H1 => tb σ H1 fun i H2 => st o i v H2 fun H3 => QS σ H3) : gSub ta tb st v σ H QS := k
theorem par {m l : Nat} (k : as σ H fun vs H1 => ∃ v w, vs = [v, w] ∧ D.nx ((σ.set m (some v)).set l (some w)) H1) : tPar m l as D σ H := k
theorem bm {T : String} {r : V → List V → Hp → VK → Prop} (k : te σ H fun x H1 => tyV K T x H1 ∧ as σ H1 fun xs H2 => r x xs H2 Q) : tBM K T r te as σ H Q := k
theorem bm0 {T : String} {r : V → List V → Hp → VK → Prop} (k : te σ H fun x H1 => tyV K T x H1 ∧ r x [] H1 Q) : tBM0 K T r te σ H Q := k
theorem app (h : H p = some (.lst xs)) (l : xs.length < sizeLine) (k : Q .non (upd H p (.lst (xs ++ [v])))) : rAppend (.ref p) [v] H Q := ⟨p, xs, v, rfl, rfl, h, l, k⟩
theorem ty_list (h : H p = some (.lst xs)) : tyV K "list" (.ref p) H := .inl ⟨rfl, xs, SqL.of h⟩
theorem int1 {R : Int → Prop} {R2 : Bool → Prop} (k : R i) : (∃ j, [V.int i] = [.int j] ∧ R j) ∨ ∃ k, [V.int i] = [.bl k] ∧ R2 k := .inl ⟨i, rfl, k⟩
theorem intB {R : Int → Prop} {R2 : Bool → Prop} (k : R2 b) : (∃ j, [V.bl b] = [.int j] ∧ R j) ∨ ∃ k, [V.bl b] = [.bl k] ∧ R2 k := .inr ⟨b, rfl, k⟩
theorem two {R : Int → Int → Prop} (k : R i j) : ∃ i' j', [V.int i, .int j] = [.int i', .int j'] ∧ R i' j' := ⟨i, j, rfl, k⟩
theorem one {R : Int → Prop} (k : R i) : ∃ i', [V.int i] = [.int i'] ∧ R i' := ⟨i, rfl, k⟩
theorem lenL {R : List V → Prop} (h : SqL K H p xs) (k : R xs) : ∃ p' ys, [V.ref p] = [.ref p'] ∧ (SqL K H p' ys ∨ SqT K H p' ys) ∧ R ys := ⟨p, xs, rfl, .inl h, k⟩
theorem lenS {R : Str → Prop} (h : z.length ≤ sizeLine) (k : R z) : ∃ z', [V.str z] = [.str z'] ∧ z'.length ≤ sizeLine ∧ R z' := ⟨z, rfl, h, k⟩
theorem andr {R : Prop} (k : R) : x = x ∧ R := ⟨rfl, k⟩
theorem str_ {R : Str → Prop} (k : R z) : ∃ c, V.str z = .str c ∧ R c := ⟨z, rfl, k⟩
theorem dec {c A B : Prop} [Decidable c] (h1 : c → A) (h2 : ¬ c → B) : if decide c = true then A else B := by
  by_cases h : c
  · rw [decide_eq_true h]; exact h1 h
  · rw [decide_eq_false h, if_neg Bool.false_ne_true]; exact h2 h
theorem ndec {c A B : Prop} [Decidable c] (h1 : ¬ c → A) (h2 : c → B) : if (!decide c) = true then A else B := by
  by_cases h : c
  · rw [decide_eq_true h]; exact h2 h
  · rw [decide_eq_false h]; exact h1 h
theorem tt_ {A B : Prop} (h : A) : if true = true then A else B := h
theorem ff_ {A B : Prop} (h : B) : if false = true then A else B := iteF h
theorem bool {b : Bool} {A B : Prop} (h1 : b = true → A) (h2 : b = false → B) : if b = true then A else B := by
  cases b with
  | true => exact h1 rfl
  | false => rw [if_neg Bool.false_ne_true]; exact h2 rfl
theorem fm {i m : Int} (m0 : 0 < m) : 0 ≤ i.fmod m ∧ i.fmod m < m := by
  rw [Int.fmod_eq_emod_of_nonneg i (Int.le_of_lt m0)]
  exact ⟨Int.emod_nonneg i (by omega), Int.emod_lt_of_pos i m0⟩
theorem atN {α : Type} {xs : List α} {i : Int} {v : α} (h0 : 0 ≤ i) (h : xs[i.toNat]? = some v) : atI xs i = some v := by
  have e : ((i.toNat : Nat) : Int) = i := Int.toNat_of_nonneg h0
  rw [← e]
  exact atI_nat h
theorem at0 {α : Type} {xs : List α} {v : α} : atI (v :: xs) 0 = some v := atN (Int.le_refl 0) rfl
theorem at_int {ns : List Int} {i : Int} (h0 : 0 ≤ i) (h : i < ((ns.map V.int).length : Int)) : ∃ c, atI (ns.map V.int) i = some (.int c) := by
  rw [List.length_map] at h
  have hk : i.toNat < ns.length := by omega
  exact ⟨ns[i.toNat], atN h0 (by simp [hk])⟩
theorem sz {n : Nat} (h : n ≤ 100000) : n ≤ sizeLine := Nat.le_trans h (by decide)
theorem szl {n : Nat} (h : n < 100000) : n < sizeLine := Nat.lt_of_lt_of_le h (by decide)
end
section
variable {X : Cx}
def rLenK (K : PySem.W.Frag) : List V → Hp → VK → Prop := fun xs H Q => ∃ p ys, xs = [.ref p] ∧ (SqL K H p ys ∨ SqT K H p ys) ∧ Q (.int ys.length) H
theorem callLen : CallR X (.builtin "len") (rLenK X.K) := call_len_seq
def rListK (K : PySem.W.Frag) : List V → Hp → VK → Prop := fun xs H Q => ∃ p ys, xs = [.ref p] ∧ (SqL K H p ys ∨ SqT K H p ys) ∧ ∀ l, H l = none → Q (.ref l) (upd H l (.lst ys))
theorem callList : CallR X (.type "list") (rListK X.K) := call_list_of
def tTru (K : PySem.W.Frag) (ta : TE) : TT := fun σ H Q => ta σ H fun x H' => ∃ k, TruV K x H' k ∧ Q k H'
theorem ptTru {K : PySem.W.Frag} {e : Expr} {ta : TE} (h : X.K = K) (p : PT X e fun σ H Q => ta σ H fun x H' => ∃ k, TruV X.K x H' k ∧ Q k H') : PT X e (tTru K ta) := by
  subst h
  exact p
variable {K : PySem.W.Frag} {σ : L2.St} {H : Hp} {Q : VK} {QB : Bool → Hp → Prop} {p : Addr} {xs : List V} {ta : TE}
theorem lenK (h : SqL K H p xs) (k : Q (.int xs.length) H) : rLenK K [.ref p] H Q := ⟨p, xs, rfl, .inl h, k⟩
theorem lenT (h : SqT K H p xs) (k : Q (.int xs.length) H) : rLenK K [.ref p] H Q := ⟨p, xs, rfl, .inr h, k⟩
theorem listK (h : SqL K H p xs) (k : ∀ l, H l = none → Q (.ref l) (upd H l (.lst xs))) : rListK K [.ref p] H Q := ⟨p, xs, rfl, .inl h, k⟩
theorem tru (k : ta σ H fun x H' => ∃ k, TruV K x H' k ∧ QB k H') : tTru K ta σ H QB := k
theorem truL {R : Bool → Prop} (h : SqL K H p xs) (k : R (!xs.isEmpty)) : ∃ k, TruV K (.ref p) H k ∧ R k := ⟨_, .inl ⟨xs, h, rfl⟩, k⟩
theorem any_ {bs : List Bool} (h : SqL K H p (bs.map V.bl)) (k : Q (.bl (bs.any id)) H) : rAny K [.ref p] H Q := ⟨p, bs, rfl, h, k⟩
theorem all_ {bs : List Bool} (h : SqL K H p (bs.map V.bl)) (k : Q (.bl (bs.all id)) H) : rAll K [.ref p] H Q := ⟨p, bs, rfl, h, k⟩
theorem repr_ {v : V} {d : PyData} (h : Dp K H v d) (h1 : d.showable = true) (h2 : d.hasDict = false) (h3 : d.depth ≤ 60) (h4 : d.shown.length ≤ sizeLine) (k : Q (.str d.shown) H) : rRepr K [v] H Q := ⟨v, d, rfl, h, h1, h2, h3, h4, k⟩
theorem eqD {x y : V} {d e : PyData} (hd : Dp K H x d) (he : Dp K H y e) (h1 : SeqAt.shaped d = true) (h2 : SeqAt.shaped e = true) (k : Q (.bl (PyData.eqv d e)) H) : rEqD K x y H Q := ⟨d, e, hd, he, h1, h2, k⟩
theorem neD {x y : V} {d e : PyData} (hd : Dp K H x d) (he : Dp K H y e) (h1 : SeqAt.shaped d = true) (h2 : SeqAt.shaped e = true) (k : Q (.bl (!PyData.eqv d e)) H) : rNeD K x y H Q := ⟨d, e, hd, he, h1, h2, k⟩
end
end Rd
set_option Elab.async false
set_option linter.all false
set_option maxRecDepth 100000
set_option maxHeartbeats 8000000
open PySem L2 Gk
local macro_rules | `(tactic| walk_at "look") => `(tactic| first
  | assumption
  | exact upd_same
  | exact SqL.of (by assumption)
  | exact SqL.of upd_same)
local macro_rules | `(tactic| walk_at "cond") => `(tactic| first | decide | (show _ ∨ _; right; split <;> decide) | (show _ ∧ _; constructor <;> omega) | (show _ ∨ _; left; constructor <;> omega) | (show _ ∨ _; right; constructor <;> omega) | (show _ ≠ _; omega) | (show _ < _; omega))
local macro_rules | `(tactic| walk_at "rd") => `(tactic| (with_reducible first
  | refine Rd.var rfl ?_ | refine Rd.cst ?_ | refine Rd.op ?_ | refine Rd.un ?_ | refine Rd.i0 ?_ | refine Rd.u1 ?_ | refine Rd.cons ?_ | refine Rd.nil ?_
  | refine Rd.seq ?_ | refine Rd.ifs ?_ | refine Rd.asg ?_ | refine Rd.gname ?_ | refine Rd.gsub ?_ | refine Rd.ret ?_ | refine Rd.retN ?_ | refine Rd.drop ?_ | refine Rd.next ?_
  | refine Rd.test ?_ | refine Rd.tb_ ?_ | refine Rd.not_ ?_ | refine Rd.or_ ?_ | refine Rd.and_ ?_ | refine Rd.orV ?_ | refine Rd.andV ?_ | refine Rd.notV ?_ | refine Rd.tif ?_ | refine Rd.yes ?_
  | refine Rd.cb ?_ | refine Rd.call ?_ | refine Rd.sl ?_ | refine Rd.noPart ?_ | refine Rd.part ?_ | refine Rd.int_ ?_ | refine Rd.bl_ ?_
  | refine Rd.eq rfl ?_ | refine Rd.ne rfl ?_ | refine Rd.lst ?_ | refine Rd.tup ?_ | refine Rd.par ?_ | refine Rd.bm ?_ | refine Rd.bm0 ?_
  | refine Rd.int1 ?_ | refine Rd.intB ?_ | refine Rd.two ?_ | refine Rd.one ?_ | refine Rd.andr ?_ | refine Rd.str_ ?_
  | (refine Rd.ic ?k1 ?_; (case k1 => with_unfolding_all walk_at "cond"))
  | (refine' Rd.ixL ?k1 ?k2 ?_; (case k1 => with_unfolding_all walk_at "look"); (case k2 => with_unfolding_all (first | rfl | exact Rd.at0)))
  | (refine' Rd.setL ?k1 ?k2 ?_; (case k1 => with_unfolding_all walk_at "look"); (case k2 => with_unfolding_all rfl))
  | (refine' Rd.lenL ?k1 ?_; (case k1 => with_unfolding_all walk_at "look"))
  | (refine' Rd.lenK ?k1 ?_; (case k1 => with_unfolding_all walk_at "look"))
  | refine Rd.tru ?_ | (refine' Rd.truL ?k1 ?_; (case k1 => with_unfolding_all walk_at "look"))))
namespace Rd
open PySem.Spec PyProof.Rows
section
variable {K : PySem.W.Frag} {σ : L2.St} {H H' : Hp} {α β : Type}
theorem sNew {p : Addr} {o : HO} (hp : H p = none) : Same H (upd H p o) := fun b u e => by
  rw [upd_ne (ne_of_none e hp)]
  exact e
theorem sMut {p : Addr} {o : HO} (h : Same H H') (hp : H p = none) : Same H (upd H' p o) := fun b u e => by
  rw [upd_ne (ne_of_none e hp)]
  exact h b u e
theorem pair_get {F : α → β → Prop} : ∀ {as : List α} {bs : List β} {i : Nat} {b : β}, Paired F as bs → bs[i]? = some b → ∃ a, as[i]? = some a ∧ F a b
  | _, _, i, b, .nil, h => by simp at h
  | a :: as, c :: bs, 0, b, .cons h hs, e => by
    obtain rfl : c = b := by simpa using e
    exact ⟨a, rfl, h⟩
  | a :: as, c :: bs, i + 1, b, .cons h hs, e => by
    have := pair_get hs (i := i) (b := b) (by simpa using e)
    simpa using this
theorem pair_len {F : α → β → Prop} : ∀ {as : List α} {bs : List β}, Paired F as bs → as.length = bs.length
  | _, _, .nil => rfl
  | _, _, .cons _ t => by simp [pair_len t]
theorem pair_imp {F G : α → β → Prop} (f : ∀ a b, F a b → G a b) : ∀ {as : List α} {bs : List β}, Paired F as bs → Paired G as bs
  | _, _, .nil => .nil
  | _, _, .cons h t => .cons (f _ _ h) (pair_imp f t)
theorem pair_map {f : α → V} : ∀ {as : List α} {ys : List V}, Paired (fun a y => y = f a) as ys → ys = as.map f
  | _, _, .nil => rfl
  | _, _, .cons h t => by rw [h, pair_map t]; rfl
/-- a relation of what is meant to a value in a heap that stays true as the heap grows -/
def Stays (B : β → V → Hp → Prop) : Prop := ∀ b x H H', Same H H' → B b x H → B b x H'
theorem take_succ {xs : List α} {i : Nat} {x : α} (h : xs[i]? = some x) : xs.take (i + 1) = xs.take i ++ [x] := by
  rw [List.take_succ, h]
  rfl
theorem sUpd {D : Addr} {o : HO} (s : Same H H') : Same (upd H D o) (upd H' D o) := fun b u e => by
  by_cases hb : b = D
  · subst hb; rw [upd_same] at e ⊢; exact e
  · rw [upd_ne hb] at e ⊢; exact s b u e
theorem upd_id {D : Addr} {o : HO} (h : H D = some o) : upd H D o = H := by
  funext b
  by_cases hb : b = D
  · subst hb; rw [upd_same, h]
  · rw [upd_ne hb]
/-- what holds of y in the heap behind, whatever the list in the making (which the heap ahead, H, does not know, and H1 does) holds -/
def Off (H H1 H2 : Hp) (B : V → Hp → Prop) (y : V) : Prop := ∀ D o, H D = none → H1 D ≠ none → B y (L2.upd H2 D o)
theorem off_old {H1 H2 : Hp} {B : V → Hp → Prop} {y : V} (hB : ∀ x H H', Same H H' → B x H → B x H') (s : Same H H2) (h : B y H) : Off H H1 H2 B y :=
  fun D o hD _ => hB _ _ _ (sMut s hD) h
theorem off_any {H1 H2 : Hp} {B : V → Prop} {y : V} (h : B y) : Off H H1 H2 (fun y _ => B y) y := fun D o hD _ => h
/-- a comprehension over a list of things -/
theorem lcL {tl te : TE} {tt : TT} {vs : List Nat} {j : Nat} {Q : VK} {a : Addr} {xs : List V} {bs : List α} (A : α → V → Hp → Prop) (B : β → V → Hp → Prop) (f : α → Bool) (g : α → β)
    (htl : ∀ R : V → Hp → Prop, R (.ref a) H → tl σ H R) (hl : SqL K H a xs) (hA : Stays A) (hB : Stays B) (pr : Paired (fun b x => A b x H) bs xs) (hz : xs.length ≤ 10000)
    (hw : ∀ x, wipe ((wipe σ vs).set j (some x)) vs = wipe σ vs)
    (turn : ∀ b x H1 (R : Bool → Hp → Prop), b ∈ bs → A b x H → A b x H1 → Same H H1 → (∀ H2, Same H1 H2 → R (f b) H2) → tt ((wipe σ vs).set j (some x)) H1 R)
    (elem : ∀ b x H1 (R : VK), b ∈ bs → f b = true → A b x H → A b x H1 → Same H H1 → (∀ y H2, Same H1 H2 → Off H H1 H2 (B (g b)) y → R y H2) → te ((wipe σ vs).set j (some x)) H1 R)
    (fin : ∀ D ys H1, H D = none → Same H H1 → H1 D = some (.lst ys) → Paired (fun c y => B c y H1) ((bs.filter f).map g) ys → Q (.ref D) H1) :
    tLc (iList K tl) (gName j) tt te vs σ H Q := by
  have hlen := pair_len pr
  refine htl _ ⟨a, rfl, ⟨xs, hl⟩, fun D hD => ?_⟩
  refine lc_list (K := K) (a := a) (xs := xs) (fun i H1 => ∃ ys, H1 D = some (.lst ys) ∧ ys.length ≤ i ∧ Same H H1 ∧ ∀ o, Paired (fun c y => B c y (upd H1 D o)) (((bs.take i).filter f).map g) ys) ?_ ?_ ?_ ?_
  · exact ⟨[], upd_same, Nat.le_refl _, sNew hD, fun _ => .nil⟩
  · rintro i H1 hi ⟨ys, _, _, s, _⟩
    exact s.seq hl
  · rintro i x H1 hx ⟨ys, hd, hy, s, pq⟩
    have hi : i < xs.length := (List.getElem?_eq_some_iff.mp hx).1
    obtain ⟨b, hb, hab⟩ := pair_get pr hx
    have mem : b ∈ bs := List.mem_of_getElem? hb
    have tk : bs.take (i + 1) = bs.take i ++ [b] := take_succ hb
    show wipe ((wipe σ vs).set j (some x)) vs = wipe σ vs ∧ _
    refine ⟨hw x, turn b x H1 _ mem hab (hA _ _ _ _ s hab) s fun H2 s2 => ?_⟩
    cases hf : f b with
    | false =>
      rw [if_neg Bool.false_ne_true]
      refine ⟨ys, s2 _ _ hd, by omega, s.trans s2, fun o => ?_⟩
      rw [tk, List.filter_append, List.filter_cons_of_neg (by simp [hf]), List.filter_nil, List.append_nil]
      exact pair_imp (fun c y => hB c y _ _ (sUpd s2)) (pq o)
    | true =>
      rw [if_pos rfl]
      refine elem b x H2 _ mem hf hab (hA _ _ _ _ (s.trans s2) hab) (s.trans s2) fun y H3 s3 hy3 => ?_
      have hd3 := s3 _ _ (s2 _ _ hd)
      have s4 : Same H H3 := (s.trans s2).trans s3
      refine ⟨ys, hd3, szl (by omega), ys ++ [y], upd_same, by rw [List.length_append]; simp; omega, sMut s4 hD, fun o => ?_⟩
      rw [tk, List.filter_append, List.filter_cons_of_pos (by simp [hf]), List.filter_nil, List.map_append, upd_upd]
      exact (pair_imp (fun c z h => hB c z _ _ (sUpd (s2.trans s3)) h) (pq o)).snoc (hy3 D o hD (by rw [s2 _ _ hd]; simp))
  · rintro H1 ⟨ys, hd, hy, s, pq⟩
    refine fin D ys H1 hD s hd ?_
    have pq := pq (.lst ys)
    rw [← hlen, List.take_length, upd_id hd] at pq
    exact pq
end
end Rd
namespace Rd
open PySem.Spec PyProof.Rows
section
variable {K : PySem.W.Frag} {σ : L2.St} {H H' : Hp} {Q : VK} {D : Ends} {z : Str}
/-! ### comprehensions and loops over ranges -/
def LcGo (J : It) (g : TG) (tt : TT) (te : TE) (vs : List Nat) (σ : L2.St) (Q : VK) (H1 : Hp) : Prop := ∀ D, H1 D = none → ∃ W : Nat → Nat → Hp → Prop, (∃ m, W 0 m (upd H1 D (.lst []))) ∧ ∀ i m H, W i m H →
  (J.stop i H ∧ Q (.ref D) H) ∨ (J.go i H ∧ ∃ Nx : Hp → Prop, (∀ H', Nx H' → ∃ m', m' < m ∧ W (i + 1) m' H') ∧ ∀ x H', J.yld i H x H' → g x (wipe σ vs) H' fun σ2 H2 => wipe σ2 vs = wipe σ vs ∧ tt σ2 H2 fun b H3 =>
    if b = true then te σ2 H3 fun y H4 => ∃ acc, H4 D = some (.lst acc) ∧ acc.length < sizeLine ∧ Nx (upd H4 D (.lst (acc ++ [y]))) else Nx H3)
theorem lcR {ta : TA} {g : TG} {tt : TT} {te : TE} {vs : List Nat} (k : ta σ H fun xs H1 => ∃ j : Int, xs = [.int j] ∧ -(2 ^ 62) ≤ j ∧ j < 2 ^ 62 ∧ LcGo (Itr 0 j.toNat) g tt te vs σ Q H1) : tLc (iRng1 ta) g tt te vs σ H Q := k
theorem rng {i : Int} {R : Prop} (h0 : 0 ≤ i) (h1 : i ≤ 100000) (k : R) : -(2 ^ 62) ≤ i ∧ i < 2 ^ 62 ∧ R := ⟨by omega, by omega, k⟩
/-- no test; each turn adds one thing -/
theorem goR {n j : Nat} {te : TE} {vs : List Nat} (Pv : Addr → Nat → List V → Hp → Prop) (h0 : ∀ D, H D = none → Pv D 0 [] (upd H D (.lst []))) (hw : ∀ x, wipe ((wipe σ vs).set j (some x)) vs = wipe σ vs) (hn : n ≤ 100000)
    (turn : ∀ D i acc H1, H D = none → i < n → acc.length = i → H1 D = some (.lst acc) → Pv D i acc H1 → ∀ R : VK, (∀ y H2, H2 D = some (.lst acc) → Pv D (i + 1) (acc ++ [y]) (upd H2 D (.lst (acc ++ [y]))) → R y H2) → te ((wipe σ vs).set j (some (.int (i : Int)))) H1 R)
    (fin : ∀ D acc H1, H D = none → acc.length = n → H1 D = some (.lst acc) → Pv D n acc H1 → Q (.ref D) H1) : LcGo (Itr 0 n) (gName j) tYes te vs σ Q H := by
  intro D hD
  refine lc_range (lo := 0) (n := n) (fun i H1 => ∃ acc, acc.length = i ∧ H1 D = some (.lst acc) ∧ Pv D i acc H1) ⟨[], rfl, upd_same, h0 D hD⟩ ?_ ?_
  · rintro i H1 hi ⟨acc, ha, hd, p⟩
    have e0 : (0 : Int) + (i : Int) = (i : Int) := Int.zero_add _
    rw [e0]
    refine ⟨hw _, ?_⟩
    refine turn D i acc H1 hD hi ha hd p _ fun y H2 h1 h2 => ?_
    exact ⟨acc, h1, szl (by omega), acc ++ [y], by simp [ha], upd_same, h2⟩
  · rintro H1 ⟨acc, ha, hd, p⟩
    exact fin D acc H1 hD ha hd p
def ForGo (J : It) (g : TG) (tb : TS) (D : Ends) (σ : L2.St) (H1 : Hp) : Prop := ∃ W : Nat → Nat → L2.St → Hp → Prop, (∃ m, W 0 m σ H1) ∧ ∀ i m σ H, W i m σ H →
  (J.stop i H ∧ D.nx σ H) ∨ (J.go i H ∧ ∃ N : L2.St → Hp → Prop, (∀ σ' H', N σ' H' → ∃ m', m' < m ∧ W (i + 1) m' σ' H') ∧ ∀ x H', J.yld i H x H' → g x σ H' fun σ2 H2 => tb { D with nx := N, ct := N, bk := D.nx } σ2 H2)
theorem forR {ta : TA} {g : TG} {tb : TS} (k : ta σ H fun xs H1 => ∃ j : Int, xs = [.int j] ∧ -(2 ^ 62) ≤ j ∧ j < 2 ^ 62 ∧ ForGo (Itr 0 j.toNat) g tb D σ H1) : tFor (iRng1 ta) g tb D σ H := k
theorem forGo {n j : Nat} {tb : TS} (Pv : Nat → L2.St → Hp → Prop) (h0 : Pv 0 σ H)
    (turn : ∀ i σ1 H1, i < n → Pv i σ1 H1 → tb { D with nx := Pv (i + 1), ct := Pv (i + 1), bk := D.nx } (σ1.set j (some (.int (i : Int)))) H1) (fin : ∀ σ1 H1, Pv n σ1 H1 → D.nx σ1 H1) : ForGo (Itr 0 n) (gName j) tb D σ H :=
  for_range (lo := 0) (n := n) Pv h0 (fun i σ1 H1 hi p => by
    show tb _ (σ1.set j (some (.int (0 + (i : Int))))) H1
    rw [Int.zero_add]
    exact turn i σ1 H1 hi p) fin
theorem adds {a b : Str} {R : Str → Str → Prop} (h : a.length + b.length ≤ 100000) (k : R a b) : ∃ i j, V.str a = .str i ∧ V.str b = .str j ∧ i.length + j.length ≤ sizeLine ∧ R i j := ⟨a, b, rfl, rfl, sz h, k⟩
theorem gtup {n : Nat} {t : TGs} {a : Addr} {xs : List V} {QS : L2.St → Hp → Prop} (h : SqT K H a xs) (hl : xs.length = n) (k : t xs σ H QS) : gTup K n t (.ref a) σ H QS := ⟨a, xs, rfl, h, hl, k⟩
theorem gcons {v : V} {r : List V} {t : TG} {u : TGs} {QS : L2.St → Hp → Prop} (k : t v σ H fun σ' H' => u r σ' H' QS) : gCons t u (v :: r) σ H QS := ⟨v, r, rfl, k⟩
theorem gnil {QS : L2.St → Hp → Prop} (k : QS σ H) : gNil [] σ H QS := ⟨rfl, k⟩
theorem cut {t u : TS} (Mid : L2.St → Hp → Prop) (h1 : t { D with nx := Mid } σ H) (h2 : ∀ σ' H', Mid σ' H' → u D σ' H') : C8.tCut t u D σ H := ⟨Mid, h1, h2⟩
/-- a method of a text -/
theorem m1 {r : V → List V → Hp → VK → Prop} {to te : TE} (k : to σ H fun x H1 => (∃ a, x = .str a) ∧ te σ H1 fun y H2 => r x [y] H2 Q) : tM1 r to te σ H Q := k
theorem isStr {R : Prop} (k : R) : (∃ a, V.str z = .str a) ∧ R := ⟨⟨z, rfl⟩, k⟩
end
end Rd
namespace W6
open L2 TL
/-! ### texts with a bound -/
structure W (n : Nat) (w : Str) : Prop where
  len : w.length ≤ n
  low : ∀ c ∈ tl w, c < 1000
theorem tl_len (w : Str) : (tl w).length = w.length := by show w.cps.toList.length = w.cps.size; simp
theorem W.app {n m : Nat} {a b : Str} (ha : W n a) (hb : W m b) : W (n + m) (a ++ b) := by
  have e : tl (a ++ b) = tl a ++ tl b := by show (a.cps ++ b.cps).toList = _; simp
  refine ⟨?_, fun c hc => ?_⟩
  · rw [← tl_len, e, List.length_append, tl_len, tl_len]
    exact Nat.add_le_add ha.len hb.len
  · rw [e, List.mem_append] at hc
    exact hc.elim (ha.low c) (hb.low c)
theorem W.cut {n : Nat} {a : Str} (ha : W n a) (lo hi : Option Int) : W n (cutS a lo hi) :=
  ⟨Nat.le_trans (cutS_length a lo hi) ha.len, fun c hc => ha.low c (by
    have hc : c ∈ ((a.cps.toList.drop (HT.sIx a.length 0 lo)).take (HT.sIx a.length a.length hi - HT.sIx a.length 0 lo)) := by simpa [cutS] using hc
    exact List.mem_of_mem_drop (List.mem_of_mem_take hc))⟩
theorem joinL_nil : ∀ ps : List (List Nat), joinL [] ps = ps.flatten
  | [] => rfl
  | [p] => by simp [joinL]
  | p :: q :: r => by rw [joinL, joinL_nil (q :: r)]; simp
theorem W.join {cs : List Str} (h : ∀ c ∈ cs, W 1 c) : W cs.length (Txt.join "" cs) := by
  have e : tl (Txt.join "" cs) = (cs.map tl).flatten := by
    rw [join_eq, tl_join]
    exact joinL_nil _
  refine ⟨?_, fun c hc => ?_⟩
  · rw [← tl_len, e]
    clear e
    induction cs with
    | nil => simp
    | cons a cs ih =>
      rw [List.map_cons, List.flatten_cons, List.length_append, List.length_cons, tl_len]
      have := ih fun c hc => h c (List.mem_cons_of_mem _ hc)
      have := (h a List.mem_cons_self).len
      omega
  · rw [e, List.mem_flatten] at hc
    obtain ⟨l, hl, hc⟩ := hc
    obtain ⟨s, hs, rfl⟩ := List.mem_map.mp hl
    exact (h s hs).low c hc
theorem W.mono {n m : Nat} {a : Str} (h : W n a) (l : n ≤ m) : W m a := ⟨Nat.le_trans h.len l, h.low⟩
theorem W.sum {cs : List Str} (h : ∀ c ∈ cs, W 1 c) : (cs.map (·.length)).sum ≤ cs.length := by
  induction cs with
  | nil => exact Nat.le_refl _
  | cons a cs ih =>
    rw [List.map_cons, List.sum_cons, List.length_cons]
    have := ih fun c hc => h c (List.mem_cons_of_mem _ hc)
    have := (h a List.mem_cons_self).len
    omega
theorem W.sign {n : Nat} {z : Str} {i : Int} (h : W n z) (h0 : 0 ≤ i) (h1 : i < (z.length : Int)) : ∃ c, atI z.cps.toList i = some c ∧ W 1 ⟨#[c]⟩ := by
  have l : i.toNat < z.cps.toList.length := by
    have e : z.cps.toList.length = z.length := tl_len z
    omega
  refine ⟨z.cps.toList[i.toNat], Rd.atN h0 (List.getElem?_eq_getElem l), Nat.le_refl _, fun c hc => ?_⟩
  have e : c = z.cps.toList[i.toNat] := by simpa using hc
  rw [e]
  exact h.low _ (List.getElem_mem l)
end W6
local macro_rules | `(tactic| walk_at "look") => `(tactic| first
  | assumption
  | exact upd_same
  | exact SqL.of (by assumption)
  | exact SqL.of upd_same)
local macro_rules | `(tactic| walk_at "cond") => `(tactic| first | decide | (show _ ∨ _; right; split <;> decide) | (show _ ∧ _; constructor <;> omega) | (show _ ∨ _; left; constructor <;> omega) | (show _ ∨ _; right; constructor <;> omega) | (show _ ≠ _; omega) | (show _ < _; omega))
local macro_rules | `(tactic| walk_at "rd") => `(tactic| (with_reducible first
  | refine Rd.var rfl ?_ | refine Rd.cst ?_ | refine Rd.op ?_ | refine Rd.un ?_ | refine Rd.i0 ?_ | refine Rd.u1 ?_ | refine Rd.cons ?_ | refine Rd.nil ?_
  | refine Rd.seq ?_ | refine Rd.ifs ?_ | refine Rd.asg ?_ | refine Rd.gname ?_ | refine Rd.gsub ?_ | refine Rd.ret ?_ | refine Rd.retN ?_ | refine Rd.drop ?_ | refine Rd.next ?_
  | refine Rd.test ?_ | refine Rd.tb_ ?_ | refine Rd.not_ ?_ | refine Rd.or_ ?_ | refine Rd.and_ ?_ | refine Rd.orV ?_ | refine Rd.andV ?_ | refine Rd.notV ?_ | refine Rd.tif ?_ | refine Rd.yes ?_
  | refine Rd.cb ?_ | refine Rd.call ?_ | refine Rd.sl ?_ | refine Rd.noPart ?_ | refine Rd.part ?_ | refine Rd.int_ ?_ | refine Rd.bl_ ?_
  | refine Rd.eq rfl ?_ | refine Rd.ne rfl ?_ | refine Rd.lst ?_ | refine Rd.tup ?_ | refine Rd.par ?_ | refine Rd.bm ?_ | refine Rd.bm0 ?_ | refine Rd.m1 ?_ | refine Rd.isStr ?_ | refine Rd.lcR ?_ | refine Rd.forR ?_ | refine Rd.gcons ?_ | refine Rd.gnil ?_
  | refine Rd.int1 ?_ | refine Rd.intB ?_ | refine Rd.two ?_ | refine Rd.one ?_ | refine Rd.andr ?_ | refine Rd.str_ ?_
  | (refine Rd.ic ?k1 ?_; (case k1 => with_unfolding_all walk_at "cond"))
  | (refine' Rd.ixL ?k1 ?k2 ?_; (case k1 => with_unfolding_all walk_at "look"); (case k2 => with_unfolding_all (first | rfl | exact Rd.at0)))
  | (refine' Rd.setL ?k1 ?k2 ?_; (case k1 => with_unfolding_all walk_at "look"); (case k2 => with_unfolding_all rfl))
  | (refine' Rd.lenL ?k1 ?_; (case k1 => with_unfolding_all walk_at "look"))
  | (refine' Rd.lenK ?k1 ?_; (case k1 => with_unfolding_all walk_at "look"))
  | refine Rd.tru ?_ | (refine' Rd.truL ?k1 ?_; (case k1 => with_unfolding_all walk_at "look"))))

namespace Ex
open PySem.Spec PyProof.Rows
/-! ### an own error with one field, f: def __init__(self, f): self.f = f -/
def spInit (C : Addr) (f : Str) : Sp := fun vs H Q _ => ∃ (a : Addr) (v : V), vs = [.ref a, v] ∧ H a = some (exo a C none) ∧ ∀ dx, H dx = none → dx ≠ a → Q .non (upd (upd H dx (exd dx [(f, v)])) a (exo a C (some dx)))
structure ErrC (K : PySem.W.Frag) (mg : Str → Option Value) (x f : Str) (C : Addr) : Prop where
  t : OexC K C
  xf : XfC K C
  ic : ExcC K C
  no : PySem.W.findIn K (.ref C) f = some none
  g : mg x = some (.ref C)
  te : PySem.W.exmOne K (.ref C) (.ref C) = some true
/-- its __init__ as a def that keeps its promise -/
def InitOk (P : Program) (w : World) (K : PySem.W.Frag) (mg : Str → Option Value) (base : Heap) (f : Str) (C : Addr) : Prop :=
  ∃ (fI : Addr) (fd : FuncData), PySem.W.findIn K (.ref C) "__init__" = some (some (.ref fI)) ∧ PySem.W.typeIn K (.ref fI) = some (.type "function") ∧ FnOk P w K mg base CX0 1 fI fd ["self", f] (spInit C f) ∧ Binds K fd ["self", f] []
theorem made_heap {H : Hp} {a d : Addr} {f : Str} {v : V} {C : Addr} (ha : H a = none) (hda : d ≠ a) :
    upd (L2.del (upd (upd (upd H a (exo a C none)) d (exd d [(f, v)])) a (exo a C (some d))) a) d (.xd [(f, v)]) = upd H d (.xd [(f, v)]) := by
  funext b
  by_cases hb : b = d
  · subst hb; rw [upd_same, upd_same]
  · rw [upd_ne hb, upd_ne hb]
    by_cases hba : b = a
    · subst hba; rw [del_same, ha]
    · rw [del_ne hba, upd_ne hba, upd_ne hb, upd_ne hba]
section
variable {X : Cx} {σ : L2.St} {H : Hp}
theorem pmkE {x f : Str} {C : Addr} {k : Nat} {e : Expr} {es : List Expr} {p pos : Pos} {ta : TA} (T : ErrC X.K X.mg x f C) (M : InitOk X.prog X.w X.K X.mg X.base f C) (hr : Room k X.A) (hk : 2 ≤ k) (ha : PA X (e :: es) ta) (hg : Gl X x := by rfl)
    (hdb : (x == ("__debug__" : Str)) = false := by decide) (he : starEach (e :: es) X.env = (false, eval e X.env) :: starEach es X.env := by rfl) (hpl : (backTo pos (starEach es X.env)).any (·.1) = false := by rfl) :
    PMk X (.Call (.Name x p) (e :: es) [] pos) (tMkO C (spInit C f) [] ta) := by
  obtain ⟨fI, fd, iC, tI, F, hb⟩ := M
  exact pmk_oex T.t iC tI F (hr.mono hk) hb .nil pass0 hg T.g ha hdb he hpl
theorem mk {C : Addr} {sp : Sp} {dvs : List V} {ta : TA} {Q : XK} (k : ta σ H fun vs H1 => vs.length ≤ 1000 ∧ ∀ a, H1 a = none → sp (.ref a :: (vs ++ dvs)) (upd H1 a (exo a C none)) (fun v H2 => v = .non ∧ ∃ (d : Addr) (fs : List (Str × V)), H2 a = some (exo a C (some d)) ∧ H2 d = some (exd d fs) ∧ H1 d = none ∧ Q (.ref C) (some d) (upd (L2.del (H2) a) d (.xd fs))) (fun _ _ _ => False)) :
    tMkO C sp dvs ta σ H Q := k
theorem made {C : Addr} {f : Str} {v : V} {Q : XK} (h : ∀ d, H d = none → Q (.ref C) (some d) (upd H d (.xd [(f, v)]))) :
    [v].length ≤ 1000 ∧ ∀ a, H a = none → spInit C f (.ref a :: ([v] ++ [])) (upd H a (exo a C none)) (fun u H2 => u = .non ∧ ∃ (d : Addr) (fs : List (Str × V)), H2 a = some (exo a C (some d)) ∧ H2 d = some (exd d fs) ∧ H d = none ∧ Q (.ref C) (some d) (upd (L2.del H2 a) d (.xd fs))) (fun _ _ _ => False) := by
  refine ⟨by simp, fun a ha => ⟨a, v, rfl, upd_same, fun d hd hda => ⟨rfl, d, [(f, v)], upd_same, ?_, ?_, ?_⟩⟩⟩
  · rw [upd_ne hda, upd_same]
  · rw [upd_ne hda] at hd; exact hd
  · rw [upd_ne hda] at hd
    rw [made_heap ha hda]
    exact h d hd
end
/-! ### defs that may raise -/
def CalX (P : Program) (w : World) (K : PySem.W.Frag) (mg : Str → Option Value) (base : Heap) (k : Nat) (x : Str) (sp : Sp) : Prop :=
  ∃ (f : Addr) (fd : FuncData) (ps : List Str), FnG P w K mg base (L2.CX P w) k f fd ps sp ∧ mg x = some (.ref f) ∧ PySem.W.keepIn K (.ref f) = true ∧ Binds K fd ps []
section
variable {P : Program} {w : World} {K : PySem.W.Frag} {mg : Str → Option Value} {base : Heap}
theorem byX {x : Str} {st : Stmt} {ps N : List Str} {k : Nat} {sp : Sp} (D : DefAt K mg x st ps) (S : FnScope N ps (defScope st)) (len : ∀ vs H Q E, sp vs H Q E → vs.length = ps.length)
    (inner : ∀ (f : Addr) (cd : Value) (A : Around), A.guards = some [] → ∀ (outer : List Env) (s : Shared) (H : Hp) (vs : List V) (Q : VK) (E : XK),
      Room k (A.deeper (envOfC x (defScope st) s.heap.objs.size f cd)) → sp vs H Q E →
      ∃ t, PSs (cxOf (L2.CX P w) P w K mg base N x (defScope st) f cd A outer s H E) (defBody st) t ∧ t { nx := fun _ H' => Q .non H', rt := Q } (start N vs) H) :
    CalX P w K mg base (k + 1) x sp := by
  obtain ⟨f, fd, hm, F, hb⟩ := D
  exact ⟨f, fd, ps, defG F S len (inner f), hm, F.kp, hb⟩
end
section
variable {X : Cx} {k j : Nat} {sp : Sp} {x : Str} {p pos : Pos} {e : Expr} {es : List Expr} {t : TA}
/-- called in a def that lets the same out -/
theorem pe_x {E : XK} (c : CalX X.prog X.w X.K X.mg X.base k x sp) (g : X.A.guards = some []) (hr : Room j X.A) (hk : k ≤ j) (tk : Takes X fun cls d _ H => E cls d H) (ha : PA X (e :: es) t) (hg : Gl X x := by rfl)
    (hdb : (x == ("__debug__" : Str)) = false := by decide) (he : starEach (e :: es) X.env = (false, eval e X.env) :: starEach es X.env := by rfl)
    (hpl : (backTo pos (starEach es X.env)).any (·.1) = false := by rfl) : PE X (.Call (.Name x p) (e :: es) [] pos) (tCall sp [] E t) := by
  obtain ⟨f, fd, ps, F, hm, hkp, hb⟩ := c
  exact pe_callG F g (hr.mono hk) hg hm hkp hb .nil (passes_call tk fun _ _ _ _ h => h) ha hdb he hpl
/-- called where nothing is raised -/
theorem pe_x0 (c : CalX X.prog X.w X.K X.mg X.base k x sp) (g : X.A.guards = some []) (hr : Room j X.A) (hk : k ≤ j) (ha : PA X (e :: es) t) (hg : Gl X x := by rfl)
    (hdb : (x == ("__debug__" : Str)) = false := by decide) (he : starEach (e :: es) X.env = (false, eval e X.env) :: starEach es X.env := by rfl)
    (hpl : (backTo pos (starEach es X.env)).any (·.1) = false := by rfl) : PE X (.Call (.Name x p) (e :: es) [] pos) (tCall sp [] E0 t) := by
  obtain ⟨f, fd, ps, F, hm, hkp, hb⟩ := c
  refine pe_callG F g (hr.mono hk) hg hm hkp hb .nil (fun pins σ H s u s' I z => ?_) ha hdb he hpl
  obtain ⟨_, _, _, _, _, _, _, _, _, _, _, _, z⟩ := z
  exact z.elim
/-- called in a try -/
theorem pe_xS {W : WX} (c : CalX X.prog X.w X.K X.mg X.base k x sp) (g : X.A.guards = some []) (hr : Room j X.A) (hk : k ≤ j) (tk : Takes X W) (ha : PA X (e :: es) t) (hg : Gl X x := by rfl)
    (hdb : (x == ("__debug__" : Str)) = false := by decide) (he : starEach (e :: es) X.env = (false, eval e X.env) :: starEach es X.env := by rfl)
    (hpl : (backTo pos (starEach es X.env)).any (·.1) = false := by rfl) : PE X (.Call (.Name x p) (e :: es) [] pos) (tCallS sp (WE W) t) := by
  obtain ⟨f, fd, ps, F, hm, hkp, hb⟩ := c
  refine ⟨fun pins s σ H Q I h => wpAny_Call_Name_kw (ld_glob I hg hm ?_ hdb)⟩
  refine PySem.W.callWith_K (h₀ := X.base) I.ok.mod.kin hkp (thn (ha.run pos pins s σ H _ I h) ?_) he hpl
  rintro us s1 ⟨vs, H1, I1, r, q⟩
  refine ⟨I1.kIn, ?_⟩
  have lens : us.length = ps.length := (r.length).symm.trans (F.len _ _ _ _ q)
  have body := F.go X.A g X.stack s1 H1 ⟨us, []⟩ us vs Q (WE W σ) (hr.mono hk) I1.env0 (by simpa using hb s1 us I1.kIn (by simpa using lens)) r q
  refine wpAny_call (codeAny_mono body ?_)
  intro res s' hres
  match res, hres with
  | .error e, z => exact passAt tk σ pins H1 s1 e s' I1 z
  | .ok (.ret u), z => exact I1.after z
  | .ok .next, z => exact z.elim
  | .ok .brk, z => exact z.elim
  | .ok .cont, z => exact z.elim
end
end Ex
namespace PySem.W
open PySem PySem.Calls PyProof.Rows
theorem clsIn_obj {K : Frag} {D : Addr} (h : hasDictIn K D = true) : ∃ c d cd sl, K.lookup D = some ⟨c, d, .cls cd, sl⟩ := by
  obtain ⟨cd, hc, _⟩ := any_some h
  unfold clsIn at hc
  split at hc
  · rename_i c d cd' sl ho
    exact ⟨c, d, cd', sl, ho⟩
  · cases hc
/-- an instance of an own exception class, with whatever dict, as isinstance asks it -/
theorem kitxD {K : Frag} {x D : Addr} {ox : Obj} {od : Option Obj} (C : L2.ExcC K D) : KitX K (.ref x) (.ref D) (fun h => InstAt h x ox D od) where
  ty := fun _ _ _ I => I.type
  it := fun _ _ X _ => by
    obtain ⟨c, d, cd, sl, ho⟩ := clsIn_obj C.hd
    intro A' Q' E' s' k q
    unfold isType loadHead
    exact wpAny_bind (wpAny_loadPart (k _ _ (X _ _ ho)) (wpAny_pure q))
  ne := fun h tp dd its n sl X htp => by
    obtain ⟨c, d, cd, sl', ho⟩ := clsIn_obj C.hd
    cases e : (Value.ref D == .ref tp) with
    | false => rfl
    | true =>
      obtain rfl : D = tp := Value.ref.inj (beq_iff_eq.mp e)
      have z := (X _ _ ho).symm.trans htp
      cases z
  ca := fun X I k => kx_classE X I C.hg C.hk C.hs (findObj_dataE (by obtain ⟨cd, hc, _⟩ := any_some C.hd; rw [hc]; rfl) C.ha C.hn C.ht) C.hm k
end PySem.W
namespace Ex
open PySem.Spec PyProof.Rows
/-- isinstance(e, c), e the exception that the suite holds, with its dict -/
def rIsD (K : PySem.W.Frag) (C a : Addr) (cls : Value) (d : Option Addr) : List V → Hp → VK → Prop := fun xs H Q => ∃ (c : V) (cv : Value) (b : Bool) (dd : Addr) (fs : List (Str × V)), xs = [.ref a, c] ∧ ClsV c cv ∧ cls = .ref C ∧ d = some dd ∧ H dd = some (.xd fs) ∧ PySem.W.kitOne K (.ref C) cv = some b ∧ Q (.bl b) H
theorem call_isD {X : Cx} {a C : Addr} {oe : Obj} {cls : Value} {d : Option Addr} {pn : List (Addr × Obj)} (T : ExcC X.K C) (hz : Zc cls d oe) (hf : ∃ vs, oe.data = .fields vs) : CallR (X.suite a ((a, oe) :: pn)) (.builtin "isinstance") (rIsD X.K C a cls d) := by
  intro pins s σ H xs us Q I r h
  obtain ⟨c, cv, b, dd, fs, rfl, kc, ec, ed, ea, e, q⟩ := h
  obtain ⟨u, t, rfl, ru, rt⟩ := vals2 r
  obtain rfl : u = Value.ref a := ru
  obtain rfl := kc.eq rt
  subst ec ed
  obtain ⟨hget, _⟩ := I.pin (a, oe) (List.mem_append.mpr (.inl List.mem_cons_self))
  obtain ⟨vs, hv⟩ := hf
  have hx : ObjOk X.prog X.w H s.heap dd (.xd fs) := I.hok dd _ ea
  obtain ⟨mA, hns, hr⟩ := hx
  obtain ⟨od, ho, hl⟩ := lookIn_ns hns
  have J : PySem.W.InstAt s.heap a oe C (some od) := ⟨hget, hz.1, by unfold PySem.W.notCls; rw [hv] <;> rfl, by rw [hz.2]; exact ho⟩
  exact PySem.W.kia_one (PySem.W.kitxD T) I.kIn J e (fun z => nomatch z) fun tk => ⟨.bl b, H, I.kept (t' := tk) fun _ _ z => z, rfl, q⟩
end Ex
namespace Gk
open PySem.Spec PyProof.Rows
section
variable {X : Cx}
def rReprX (K : PySem.W.Frag) : List V → Hp → VK → Prop := fun xs H Q => rRepr K xs H Q ∨ ∃ p, xs = [.ref p] ∧ H p = some (.dK []) ∧ Q (.str "{}") H
theorem call_reprX (hg : X.A.guards = some []) (hu : X.A.units + 64 < cLine) : CallR X (.builtin "repr") (rReprX X.K) := by
  intro pins s σ H xs us Q I r h
  rcases h with h | ⟨p, rfl, hp, q⟩
  · exact call_reprD hg hu pins s σ H xs us Q I r h
  · obtain ⟨u, rfl, ru⟩ := vals1 r
    obtain rfl : u = Value.ref p := ru
    obtain ⟨_, ns, vs, kv, dof⟩ := dk_of I.hok hp
    obtain rfl : vs = [] := by cases kv; rfl
    obtain ⟨o, es, ep, h1, h2, h3, _, h4, _⟩ := dof
    have he : es.toList = [] := by
      cases hz : es.toList with
      | nil => rfl
      | cons a l => rw [hz] at h4; cases h4
    have rd : Reads s.heap (.ref p) (.dict []) (p :: [] ++ []) := .dict h1 h2.1 h3 (by rw [he]; exact .nil) (by rw [he]; exact .nil)
    have e : (PyData.dict []).shown = "{}" := by decide +kernel
    have out : ∀ h' u' tk, (∀ b o, s.heap.get? b = some o → h'.get? b = some o) → EP X pins σ Q (.str (PyData.dict []).shown u') { s with heap := h', toks := tk } :=
      fun h' u' tk hk => ⟨.str "{}", H, I.kept hk, ⟨u', by rw [e]⟩, q⟩
    refine repr_of_reads' rd (by rfl) (fun _ m => ?_) hg (by show _ + (PyData.depth (.dict []) + 1) < _; have : PyData.depth (.dict []) = 1 := rfl; omega) (fun _ _ z => z) out (by rw [e]; decide +kernel)
    have : sysModules = p := by simpa using m
    rw [← this] at ns
    simp at ns
end
end Gk
namespace Gk
open PySem.Spec PyProof.Rows
section
variable {X : Cx} {k j : Nat} {sp : Sp} {x : Str} {p pos : Pos}
/-- a def without arguments -/
theorem pe_cG0 (c : CalG X.prog X.w X.K X.mg X.base k x sp) (g : X.A.guards = some []) (hr : Room j X.A) (hk : k ≤ j) (hg : Gl X x := by rfl) (hdb : (x == ("__debug__" : Str)) = false := by decide) :
    PE X (.Call (.Name x p) [] [] pos) (tCall sp [] E0 tNil) := by
  obtain ⟨f, fd, ps, F, hm, hkp, hb⟩ := c
  refine ⟨fun pins s σ H Q I h => wpAny_Call_Name_kw (ld_glob I hg hm ?_ hdb)⟩
  exact PySem.W.callWith_K0 I.kIn hkp (runG (us := []) F g (hr.mono hk) hb .nil pass0 I .nil h)
end
end Gk
/-! own errors over any built-in error, made as values, by place or by name -/
namespace PySem.W
open PySem PySem.Calls PyProof.Rows Builtin Builtin.ObjectAttr
section
variable {M : Model} {prog : Program} {w : World} {A : Around} {E : Value → Shared → Prop} {R : Result → Shared → Prop} {h hp : Heap} {g : Array GenState} {d : Drawn} {t : Nat} {os : OsState}
variable {nm q : Str} {C N : Addr} {bs bm bmB : List Value} {hdct : Bool} {sn : List Str} {sub : List Value} {ab : Bool} {col : Option Bool} {dd : Option Addr} {k0 k1 k2 k3 k5 : Option Value} {B newId initId : String}
/-- the classes above, as making asks them -/
structure AboveOk (B : String) (bm : List Value) : Prop where
  base : bm.contains (.type B) = true
  attr : bm.contains (.type "AttributeError") = false
  name : bm.contains (.type "NameError") = false
  obj : bm.contains (.type "object") = true
  pass : ∀ self, refuseLoop self "__setattr__" bm = pure ()
theorem AboveOk.up {B : String} {bm : List Value} {D : Addr} (a : AboveOk B bm) : AboveOk B (.ref D :: bm) where
  base := by rw [List.contains_cons, a.base, Bool.or_true]
  attr := by rw [List.contains_cons, a.attr]; rfl
  name := by rw [List.contains_cons, a.name]; rfl
  obj := by rw [List.contains_cons, a.obj, Bool.or_true]
  pass := fun self => by rw [refuseLoop_ref]; exact a.pass self
theorem eb_check (BF : ExcBaseFacts B newId initId bmB) (ao : AboveOk B bm) {rest : List Value} {kw : List (Str × Value)} {Q : Unit → Shared → Prop}
    (lC : h.get? C = some (excClassObj nm q C N bs bm hdct sn sub ab col dd k0 k1 k2 k3 k5 newId)) (z : Q () ⟨h, g, d, t, os⟩) : wpAny M A (checkBuiltinCall newId ⟨.ref C :: rest, kw⟩) Q E ⟨h, g, d, t, os⟩ := by
  have c1 := (ao.up (D := C)).base
  have c2 := BF.noStar
  simp only [checkBuiltinCall, BF.newKind, BF.newSplit, BF.newRow]
  repeat (first
    | refine wpAny_loadPart_at lC ?_
    | (refine wpAny_isSubtype_exc lC ?_; rw [c1])
    | refine wpAny_staticBase_exc lC ?_
    | refine wpAny_madeBy_exc lC ?_
    | simp only [bne_self_eq_false, Bool.false_eq_true, if_false]
    | wp_step)
  exact z
theorem eb_new (BF : ExcBaseFacts B newId initId bmB) (ao : AboveOk B bm) {rest : List Value} {kw : List (Str × Value)}
    (lC : h.get? C = some (excClassObj nm q C N bs bm hdct sn sub ab col dd k0 k1 k2 k3 k5 newId))
    (z : R (.ok (.ret (.ref (h.objs.size + 1)))) ⟨(h.push (kdv_tup rest)).push (HandSPX.excO C h.objs.size), g, d, t, os⟩) (lr : rest.length ≤ sizeLine) :
    codeAny (model prog w) A (.builtin newId ⟨.ref C :: rest, kw⟩) R ⟨h, g, d, t, os⟩ := by
  have c0 := BF.ends
  have c1 := (ao.up (D := C)).base
  have c2 := (ao.up (D := C)).attr
  have c3 := (ao.up (D := C)).name
  refine codeAny_builtinAt BF.entry ?_
  unfold Builtin.«BaseException.__new__»
  refine wpAt_bind ?_
  show wpAt _ _ _ (stack >>= _) _ _ _
  refine wpAt_bind (wpAt_stack fun u v => wpAt_of_wpAny ?_)
  wp_walk
  refine wpAt_of_wpAny ?_
  rw [BF.owner]
  repeat (first
    | with_reducible refine wpAny_madeHere_exc BF.canon lC ?_
    | with_reducible refine wpAny_loadPart_at lC ?_
    | (with_reducible refine wpAny_isSubtype_exc lC ?_; first | rw [c1] | rw [c2] | rw [c3])
    | wp_step)
  show R _ _
  rw [Heap.size_push]
  exact z
theorem eb_typecall (BF : ExcBaseFacts B newId initId bmB) (ao : AboveOk B bm) {rest : List Value} {kw : List (Str × Value)} {fI : Addr} {Q : Fin → Shared → Prop}
    (lC : h.get? C = some (excClassObj nm q C N bs bm hdct sn sub ab col dd k0 k1 k2 k3 k5 newId))
    (li : Looks (model prog w) h (typeLookup (.ref C) "__init__") (some (.ref fI))) (lb : ∀ self, Looks (model prog w) h (bindSpecial (.ref fI) self) (.ref fI, [self])) (lr : rest.length ≤ sizeLine)
    (z : codeAny (model prog w) A (.call (.ref fI) ⟨.ref (h.objs.size + 1) :: rest, kw⟩)
      (fun r s' => match r with | .ok (.ret v) => v = .none ∧ Q (.done (.ret (.ref (h.objs.size + 1)))) s' | .ok _ => False | .error e => E e s')
      ⟨(h.push (kdv_tup rest)).push (HandSPX.excO C h.objs.size), g, d, t, os⟩) :
    wpAny (model prog w) A (Builtin.«type.__call__» ⟨.ref C :: rest, kw⟩) Q E ⟨h, g, d, t, os⟩ := by
  repeat (first
    | with_reducible refine wpAny_loadPart_at lC ?_
    | with_reducible refine wpAny_madeBy_exc lC ?_
    | wp_step)
  refine codeAny_call_builtin_code (Code.quiet_builtin _ BF.quiet) (eb_check BF ao lC ?_)
  refine eb_new BF ao lC ?_ lr
  show wpAny _ _ _ _ _ _
  have up : ∀ b o, h.get? b = some o → ((h.push (kdv_tup rest)).push (HandSPX.excO C h.objs.size)).get? b = some o := fun b o e => Heap.get?_push_of_some _ (Heap.get?_push_of_some _ e)
  have lC' := up _ _ lC
  have lo : ((h.push (kdv_tup rest)).push (HandSPX.excO C h.objs.size)).get? (h.objs.size + 1) = some (HandSPX.excO C h.objs.size) := by heap_get
  have cc : (Value.ref C :: bm).contains (.ref C) = true := by simp
  have li' := li.keeps up
  have lb' := (lb (.ref (h.objs.size + 1))).keeps up
  unfold isInstance
  repeat (first
    | with_reducible refine wpAny_loadPart_at lo ?_
    | (with_reducible refine wpAny_isSubtype_exc lC' ?_; rw [cc])
    | wp_step)
  show wpAny _ _ (typeLookup (.ref C) _) _ _ _
  refine li'.at ?_
  refine wpAny_holding (wpAny_bind (lb'.at ?_))
  refine wpAny_bind (wpAny_call (codeAny_mono z fun r s' y => ?_))
  rcases r with e | (v | _ | _ | _) <;> first | exact y | exact y.elim | skip
  obtain ⟨rfl, y⟩ := y
  first
    | exact wpAny_pure (wpAny_pure y)
    | (wp_walk; exact y)
theorem eb_call (BF : ExcBaseFacts B newId initId bmB) (ao : AboveOk B bm) {rest : List Value} {kw : List (Str × Value)} {fI : Addr}
    (lC : h.get? C = some (excClassObj nm q C N bs bm hdct sn sub ab col dd k0 k1 k2 k3 k5 newId))
    (li : Looks (model prog w) h (typeLookup (.ref C) "__init__") (some (.ref fI))) (lb : ∀ self, Looks (model prog w) h (bindSpecial (.ref fI) self) (.ref fI, [self])) (lr : rest.length ≤ sizeLine)
    (z : codeAny (model prog w) (A.under (.builtin "type.__call__" ⟨.ref C :: rest, kw⟩)) (.call (.ref fI) ⟨.ref (h.objs.size + 1) :: rest, kw⟩) (InitBack (h.objs.size + 1) R)
      ⟨(h.push (kdv_tup rest)).push (HandSPX.excO C h.objs.size), g, d, t, os⟩) :
    codeAny (model prog w) A (.call (.ref C) ⟨rest, kw⟩) R ⟨h, g, d, t, os⟩ := by
  have c1 := tc_lookup
  have c2 := tc_bind (.ref C)
  have c3 := tc_sub
  have ty : (⟨h, g, d, t, os⟩ : Shared).TypeIs (.ref C) "type" := ⟨_, lC, rfl⟩
  refine codeAny_of_tree ?_
  show wpAny _ _ (callAny (.ref C) _) _ _ _
  repeat (any_goals (first
    | assumption
    | with_reducible refine wpAny_loadPart_at lC ?_
    | wp_step))
  refine ⟨rfl, ?_⟩
  have ck : ∀ {M' : Model} {A' : Around} {E' : Value → Shared → Prop} {Q' : Unit → Shared → Prop}, Q' () ⟨h, g, d, t, os⟩ → wpAny M' A' (checkBuiltinCall "type.__call__" ⟨.ref C :: rest, kw⟩) Q' E' ⟨h, g, d, t, os⟩ := fun y => by
    simp only [checkBuiltinCall, tc_kind, tc_split]
    repeat (any_goals (first
      | assumption
      | with_reducible refine wpAny_loadPart_at lC ?_
      | with_reducible refine wpAny_onRaise ?_
      | with_reducible refine wpAny_map ?_
      | wp_step))
  refine codeAny_call_builtin_at (Code.quiet_builtin _ (by decide +kernel)) entry_typeCall (ck (eb_typecall BF ao lC li lb lr ?_))
  refine codeAny_mono z fun r s' y => ?_
  rcases r with e | (v | _ | _ | _) <;> exact y
/-- self.f = v, the first field -/
theorem eb_osa {K : Frag} {f : Str} {tk : Tok} {v : Value} {x : Addr} {fv : Array Value} {cd : ClassData} (X : K.In hp) (lx : hp.get? x = some { cls := .ref C, data := .fields fv }) (lc : clsIn K C = some cd)
    (ao : AboveOk B cd.mro) (hd : cd.hasDict = true) (no : findIn K (.ref C) f = some none)
    (z : ∀ h' tk' dx, (∀ b o, b ≠ x → hp.get? b = some o → h'.get? b = some o) → hp.objs.size ≤ dx → dx ≠ x → h'.get? x = some { cls := .ref C, dict := some dx, data := .fields fv } →
      h'.Ns1 dx (fun y => if y = f then some v else none) → R (.ok (.ret .none)) ⟨h', g, d, tk', os⟩) :
    codeAny (model prog w) A (.call (.builtin "object.__setattr__") ⟨[.ref x, .str f tk, v], []⟩) R ⟨hp, g, d, t, os⟩ := by
  have J : InstAt hp x { cls := .ref C, data := .fields fv } C none := ⟨lx, rfl, rfl, trivial⟩
  have so := F.store_object
  have ne : cd.mro.isEmpty = false := by
    cases e : cd.mro with
    | nil => have y := ao.obj; rw [e] at y; cases y
    | cons _ _ => rfl
  have xs : x ≠ hp.objs.size := Nat.ne_of_lt (Heap.lt_size lx)
  have io : Looks (model prog w) hp (isInstance (.ref x) (.type "object")) true := J.type.andThen (looks_mroIn X (by unfold mroIn; rw [lc, Option.bind_some, if_neg (by rw [ne]; decide), ao.obj]))
  refine codeAny_call_builtin so.slot.plain so.entry (@check_slot (model prog w) _ _ ⟨hp, g, d, t, os⟩ "object.__setattr__" "object" "__setattr__" (.ref x) [.str f tk, v] [] _ so.kind so.split io (so.args (.ref x) (.str f tk) v) ?_)
  have lm : Looks (model prog w) hp (mroOf (.ref C)) cd.mro := (looks_clsIn X lc).andThen .now
  have ls : Looks (model prog w) hp (storeTaker? none) none := .now
  have ld : Looks (model prog w) hp (classData C) cd := looks_clsIn X lc
  rw [osa_eq, refuse_eq]
  refine wpAny_bind (wpAny_bind (J.type.at (wpAny_bind (lm.at ?_))))
  rw [ao.pass]
  refine wpAny_pure (wpAny_bind (J.type.at (wpAny_bind ((looks_findIn X no).at (wpAny_bind (ls.at ?_))))))
  show wpAny _ _ (storeInOwnDict (.ref x) (.ref C) (.str f tk) f v false) _ _ _
  obtain ⟨nm', bs', mro', ns', qn', hd', sn', sb', ab', col', del'⟩ := cd
  dsimp only at hd
  subst hd
  unfold storeInOwnDict ownDictForStores
  repeat (first
    | with_reducible refine HandSPX.store_in_new ?_ ?_
    | with_reducible refine wpAny_loadPart_at lx ?_
    | with_reducible refine ld.at ?_
    | wp_step)
  · exact ⟨_, #[], _, (Heap.get?_update_ne _ _ _ _ xs.symm).trans (Heap.get?_push_at rfl rfl), rfl, fun e he => absurd he (by simp), fun _ => rfl⟩
  · intro h' tk' n1 sb1
    have lx' : (hp.push { cls := .type "dict", data := .dict #[] }).get? x = some { cls := .ref C, data := .fields fv } := Heap.get?_push_of_some _ lx
    refine z h' tk' hp.objs.size (fun b o hb e => ?_) (Nat.le_refl _) xs.symm ?_ n1
    · exact (sb1.2 b (Nat.ne_of_lt (Heap.lt_size e))).trans ((Heap.get?_update_ne _ _ _ _ hb).trans (Heap.get?_push_of_some _ e))
    · exact (sb1.2 x xs).trans (Heap.get?_update_self _ lx' rfl)
end
end PySem.W
namespace Eb
open PySem.Spec PyProof.Rows
/-- what the written part says of an own error class x with the field f, over a built-in one -/
structure ErrB (K : PySem.W.Frag) (mg : Str → Option Value) (x f : Str) (C : Addr) : Prop where
  cls : ∃ nm q N bs bm sn sub ab col dd k0 k1 k2 k3 k5 newId B' initId bmB, K.lookup C = some (excClassObj nm q C N bs bm true sn sub ab col dd k0 k1 k2 k3 k5 newId) ∧ ExcBaseFacts B' newId initId bmB ∧ PySem.W.AboveOk B' bm
  sa : PySem.W.findIn K (.ref C) "__setattr__" = some (some (.builtin "object.__setattr__"))
  kC : PySem.W.keepIn K (.ref C) = true
  xf : XfC K C
  ic : ExcC K C
  no : PySem.W.findIn K (.ref C) f = some none
  g : mg x = some (.ref C)
/-- self.f = e, in the __init__ of such a class -/
def tSet (C : Addr) (f : Str) (to te : TE) : TS := fun D σ H => te σ H fun y H1 => to σ H1 fun x H2 => ∃ a : Addr, x = .ref a ∧ H2 a = some (exo a C none) ∧ ∀ dx, H2 dx = none → dx ≠ a → D.nx σ (upd (upd H2 dx (exd dx [(f, y)])) a (exo a C (some dx)))
section
variable {X : Cx} {pins : List (Addr × Obj)} {σ : L2.St} {H : Hp} {s : Shared} {a C dx : Addr} {f x : Str} {y : V} {u : Value} {B : String} {E : Value → Shared → Prop} {A : Around}
theorem set_new {QU : Unit → Shared → Prop} {mg : Str → Option Value} (T : ErrB X.K mg x f C) (I : Inv X pins σ H s) (e : H a = some (exo a C none)) (ry : RelV y u)
    (z : ∀ dx s', H dx = none → dx ≠ a → Inv X pins σ (upd (upd H dx (exd dx [(f, y)])) a (exo a C (some dx))) s' → QU () s') : wpAny (model X.prog X.w) A (setAttr (.ref a) f u) QU E s := by
  obtain ⟨nm, q, N, bs, bm, sn, sub, ab, col, dd, k0, k1, k2, k3, k5, newId, B', initId, bmB, lC, -, ao⟩ := T.cls
  have lc : PySem.W.clsIn X.K C = some { name := nm, bases := bs, mro := .ref C :: bm, ns := N, qualname := q, hasDict := true, slotNames := sn, subclasses := sub, abstract := ab, collection := col, hasDel := false } := by
    unfold PySem.W.clsIn
    rw [lC] <;> rfl
  obtain ⟨t1, lo⟩ := exo_at I.hok e
  obtain ⟨hp, g, d, t, os⟩ := s
  refine PySem.W.set_plain I.kIn (ox := { cls := .ref C, dict := none, data := .fields #[.ref t1, .none, .none, .none, .bool false, .none] }) (od := none) ⟨lo, rfl, rfl, trivial⟩ T.sa ?_
  refine PySem.W.eb_osa (B := B') I.kIn lo lc ao.up rfl T.no fun h' tk' dx kp dn dne lx ns => ?_
  have nd : H dx = none := I.hok.fresh dn
  have od : ∀ {b : Addr} {o : Obj}, hp.get? b = some o → b ≠ dx := fun {b o} r => Nat.ne_of_lt (Nat.lt_of_lt_of_le (Heap.lt_size r) dn)
  have oa : ∀ {b : Addr}, H b = none → b ≠ a := fun {b} n r => by
    rw [r, e] at n
    cases n
  have un : Un X.fs [] H (upd (upd H dx (exd dx [(f, y)])) a (exo a C (some dx))) hp h' := {
    keep := fun b o r n _ _ => kp b o (oa n) r
    slot := fun b o r n _ _ => ⟨o.slots, kp b o (oa n) r⟩
    free := fun b o r n _ => by rw [upd_ne (oa n), upd_ne (od r)]; exact n
    there := fun b o r _ => by
      by_cases hb : b = a
      · exact ⟨_, by rw [hb]; exact lx⟩
      · exact ⟨o, kp b o hb r⟩
    tups := fun b xs r => by rw [upd_ne (at_ne e r exo_tup), upd_ne (ne_of_none r nd)]; exact r
    frzs := fun b o v r => by rw [upd_ne (at_ne e r exo_frz), upd_ne (ne_of_none r nd)]; exact r
    tbls := fun b ps r => ⟨#[], by rw [upd_ne (at_ne e r exo_tbl), upd_ne (ne_of_none r nd), r]; simp⟩ }
  refine z dx _ nd dne (I.un (t' := tk') un fun b o r => ?_)
  by_cases hb : b = a
  · subst hb
    rw [upd_same] at r
    cases r
    exact exo_ok lx
  · rw [upd_ne hb] at r
    by_cases h2 : b = dx
    · subst h2
      rw [upd_same] at r
      cases r
      exact exd_ok ns (relO_put (fs := []) ry fun g => True.intro)
    · rw [upd_ne h2] at r
      exact (I.hok b o r).stay (fun c v hc z => kp c v (by
          rcases hc with hc | hc
          · rw [hc]
            exact hb
          · exact at_ne e hc exo_own) z)
        (fun c hc => by rw [upd_ne (at_ne e hc exo_own), upd_ne (ne_of_none hc nd)]; exact hc) (fun c xs hc => by rw [upd_ne (at_ne e hc exo_tup), upd_ne (ne_of_none hc nd)]; exact hc)
theorem ps_set {mg : Str → Option Value} {o e : Expr} {to te : TE} {p' pos : Pos} (T : ErrB X.K mg x f C) (ho : PE X o to) (he : PE X e te) (hs : swapsWith e (some (.Attribute o f p')) pos.line X.env = pure false := by rfl) :
    PS X (.Assign [.Attribute o f p'] e pos) (tSet C f to te) := by
  refine ⟨fun pins s σ H D I h => ?_⟩
  refine plainObj_wpAny_Assign_Attribute (thn (he.run pins s σ H _ I h) fun v s1 ⟨y, H1, I1, r1, q1⟩ => thn (ho.run pins s1 σ H1 _ I1 q1) fun u s2 ⟨x, H2, I2, r2, a, ex, ea, q⟩ => ?_) hs
  subst ex
  obtain rfl : u = Value.ref a := r2
  exact set_new T I2 ea r1 fun dx s' n ne J => ⟨σ, _, J, q dx n ne⟩
end
/-- the class's own __init__, by place and by name -/
def InitB (P : Program) (w : World) (K : PySem.W.Frag) (mg : Str → Option Value) (base : Heap) (f : Str) (C : Addr) : Prop :=
  ∃ (fI : Addr) (fd : FuncData), PySem.W.findIn K (.ref C) "__init__" = some (some (.ref fI)) ∧ PySem.W.typeIn K (.ref fI) = some (.type "function") ∧ FnOk P w K mg base CX0 1 fI fd ["self", f] (Ex.spInit C f) ∧
    (∀ (s : Shared) (o u : Value), K.In s.heap → BindsTo s fd ⟨[o, u], []⟩ ((["self", f] : List Str).zip [o, u])) ∧ ∀ (s : Shared) (o u : Value), K.In s.heap → BindsTo s fd ⟨[o], [(f, u)]⟩ ((["self", f] : List Str).zip [o, u])
/-- behind C(v): a new exception object at a, its dict at d -/
abbrev made (H : Hp) (C a d : Addr) (f : Str) (v : V) : Hp := upd (upd H d (.xd [(f, v)])) a (exo a C (some d))
section
variable {X : Cx} {pins : List (Addr × Obj)} {σ : L2.St} {H : Hp} {s : Shared} {C : Addr} {f x : Str} {v : V} {u : Value} {B : String} {Q : VK}
theorem run_err {mg : Str → Option Value} {fI : Addr} {fd : FuncData} {rest : List Value} {kw : List (Str × Value)} (T : ErrB X.K mg x f C) (iC : PySem.W.findIn X.K (.ref C) "__init__" = some (some (.ref fI))) (tI : PySem.W.typeIn X.K (.ref fI) = some (.type "function"))
    (F1 : FnOk X.prog X.w X.K X.mg X.base CX0 1 fI fd ["self", f] (Ex.spInit C f)) (hb : ∀ (s : Shared) (o : Value), X.K.In s.heap → BindsTo s fd ⟨o :: rest, kw⟩ ((["self", f] : List Str).zip [o, u])) (hr : Room 2 X.A) (lr : rest.length ≤ sizeLine) (I : Inv X pins σ H s) (rv : RelV v u)
    (h : ∀ a d, H a = none → H d = none → d ≠ a → Q (.ref a) (made H C a d f v)) : wpAny (model X.prog X.w) X.A (call (.ref C) rest kw) (EP X pins σ Q) X.xe s := by
  obtain ⟨nm, q, N, bs, bm, sn, sub, ab, col, dd, k0, k1, k2, k3, k5, newId, B', initId, bmB, lC, BF, ao⟩ := T.cls
  obtain ⟨hp, g, dr, tk, os⟩ := s
  have lt : hp.objs.size ≤ hp.objs.size + 1 := Nat.le_succ _
  have hn : H (hp.objs.size + 1) = none := I.hok.fresh lt
  have kk : ∀ b o, hp.get? b = some o → ((hp.push (PySem.W.kdv_tup rest)).push (PySem.HandSPX.excO C hp.objs.size)).get? b = some o := fun b o e => Heap.get?_push_of_some _ (Heap.get?_push_of_some _ e)
  have lo : ((hp.push (PySem.W.kdv_tup rest)).push (PySem.HandSPX.excO C hp.objs.size)).get? (hp.objs.size + 1) = some (PySem.HandSPX.excO C hp.objs.size) := by heap_get
  have I2 : Inv X pins σ (upd H (hp.objs.size + 1) (exo (hp.objs.size + 1) C none)) ⟨(hp.push (PySem.W.kdv_tup rest)).push (PySem.HandSPX.excO C hp.objs.size), g, dr, tk, os⟩ :=
    I.laid (t' := tk) (a := hp.objs.size + 1) (o := exo (hp.objs.size + 1) C none) (h' := (hp.push (PySem.W.kdv_tup rest)).push (PySem.HandSPX.excO C hp.objs.size)) kk lt (exo_ok lo)
  have r2 : Vals [V.ref (hp.objs.size + 1), v] [Value.ref (hp.objs.size + 1), u] := .cons rfl (.cons rv .nil)
  have hsp : Ex.spInit C f [V.ref (hp.objs.size + 1), v] (upd H (hp.objs.size + 1) (exo (hp.objs.size + 1) C none))
      (fun y H2 => y = .non ∧ ∃ d, H2 = upd (upd (upd H (hp.objs.size + 1) (exo (hp.objs.size + 1) C none)) d (exd d [(f, v)])) (hp.objs.size + 1) (exo (hp.objs.size + 1) C (some d)) ∧ H d = none ∧ d ≠ hp.objs.size + 1) (fun _ _ _ => False) :=
    ⟨_, v, rfl, upd_same, fun d hd hda => ⟨rfl, d, rfl, by rw [upd_ne hda] at hd; exact hd, hda⟩⟩
  refine wpAny_call (PySem.W.eb_call BF ao (I.kIn _ _ lC) (PySem.W.looks_findIn I.kIn iC) (fun self => PySem.W.bind_fn I.kIn self tI) lr
    (codeAny_mono (F1.run _ X.stack _ _ ⟨Value.ref (hp.objs.size + 1) :: rest, kw⟩ _ _ _ (fun _ _ _ => False) (hr.make C rest kw) (I2.env0.make C rest kw) (hb _ (Value.ref (hp.objs.size + 1)) I2.kIn) r2 hsp) fun r s' hq => ?_))
  cases r with
  | error er =>
    obtain ⟨_, _, _, _, _, _, _, _, _, _, _, _, z⟩ := hq
  | ok fl =>
    cases fl with
    | ret u' =>
      obtain ⟨y, H2, os2, bare2, un2, hok2, ry, ey, d, eH, hd, hda⟩ := hq
      subst ey
      obtain ⟨h2, g2, d2, t2, os'⟩ := s'
      have ea : H2 (hp.objs.size + 1) = some (exo (hp.objs.size + 1) C (some d)) := by rw [eH, upd_same]
      have ed : H2 d = some (exd d [(f, v)]) := by rw [eH, upd_ne hda, upd_same]
      obtain ⟨t0, G, J, kG, ge, hoe, na⟩ := mk_end0 (d2 := d2) (t2 := t2) I lt kk un2 hok2 os2 bare2 ea ed hd
      have eM : upd (L2.del H2 (hp.objs.size + 1)) d (.xd [(f, v)]) = upd H d (.xd [(f, v)]) := by rw [eH]; exact Ex.made_heap hn hda
      rw [eM] at J na
      exact ⟨ry, .ref (hp.objs.size + 1), _, J.laidN kG ge na (exo_ok hoe), rfl, h _ _ hn hd hda⟩
    | next => exact False.elim hq
    | brk => exact False.elim hq
    | cont => exact False.elim hq
end
/-- C(v), C(f=v): a new exception object -/
def tMkV (C : Addr) (f : Str) (ta : TA) : TE := fun σ H Q => ta σ H fun vs H1 => ∃ v, vs = [v] ∧ ∀ a d, H1 a = none → H1 d = none → d ≠ a → Q (.ref a) (made H1 C a d f v)
section
variable {X : Cx} {C : Addr} {f x : Str} {B : String} {k : Nat} {e : Expr} {p pos : Pos} {ta : TA}
theorem pe_err (T : ErrB X.K X.mg x f C) (M : InitB X.prog X.w X.K X.mg X.base f C) (hr : Room k X.A) (hk : 2 ≤ k) (ha : PA X [e] ta) (hg : Gl X x := by rfl) (hdb : (x == ("__debug__" : Str)) = false := by decide)
    (he : starEach [e] X.env = (false, eval e X.env) :: starEach [] X.env := by rfl) (hpl : (backTo pos (starEach [] X.env)).any (·.1) = false := by rfl) : PE X (.Call (.Name x p) [e] [] pos) (tMkV C f ta) := by
  obtain ⟨fI, fd, iC, tI, F1, b1, _⟩ := M
  refine ⟨fun pins s σ H Q I h => wpAny_Call_Name_kw (ld_glob I hg T.g ?_ hdb)⟩
  refine PySem.W.callWith_K (h₀ := X.base) I.ok.mod.kin T.kC (thn (ha.run pos pins s σ H _ I h) fun us s1 ⟨vs, H1, I1, r1, v, ev, q1⟩ => ⟨I1.kIn, ?_⟩) he hpl
  subst ev
  obtain ⟨u, rfl, ru⟩ := vals1 r1
  exact run_err T iC tI F1 (fun s o z => b1 s o u z) (hr.mono hk) (by show 1 ≤ sizeLine; decide) I1 ru q1
/-- a call with one keyword, as the parts see it -/
theorem kw_one {e : Expr} {kp pos : Pos} {f : Str} {env : Env} : backToKw pos (keywordEach [⟨some f, e, kp⟩] env) = [(some f, do let v ← eval e env; standAt pos; pure v)] := rfl
theorem pe_errK {te : TE} {kp : Pos} (T : ErrB X.K X.mg x f C) (M : InitB X.prog X.w X.K X.mg X.base f C) (hr : Room k X.A) (hk : 2 ≤ k) (he : PE X e te) (hg : Gl X x := by rfl) (hdb : (x == ("__debug__" : Str)) = false := by decide) :
    PE X (.Call (.Name x p) [] [⟨some f, e, kp⟩] pos) (tMkV C f (tCons te tNil)) := by
  obtain ⟨fI, fd, iC, tI, F1, _, b2⟩ := M
  have hkw := pk_cons (nm := some f) (kpos := kp) he pk_nil
  refine ⟨fun pins s σ H Q I h => wpAny_Call_Name_kw (ld_glob I hg T.g ?_ hdb)⟩
  refine PySem.W.callWith_KW0 (h₀ := X.base) I.ok.mod.kin T.kC (by rw [kw_one]; rfl) (thn (hkw.run pos pins s σ H _ I h) fun us s1 ⟨vs, H1, I1, r1, v, ev, q1⟩ => ⟨I1.kIn, ?_⟩) (by rw [kw_one]; rfl)
  subst ev
  obtain ⟨u, rfl, ru⟩ := vals1 r1
  have hks : (backToKw pos (keywordEach [⟨some f, e, kp⟩] X.env)).filterMap (·.1) = [f] := by rw [kw_one]; rfl
  rw [hks]
  exact run_err (rest := []) (kw := [(f, u)]) T iC tI F1 (fun s o z => b2 s o u z) (hr.mono hk) (by decide) I1 ru q1
end
/-! ### fields of such a value, and what it is -/
def tEf (K : PySem.W.Frag) (n : Str) (te : TE) : TE := fun σ H Q => te σ H fun x H1 => ∃ (a C d : Addr) (fs : List (Str × V)) (v : V), x = .ref a ∧ H1 a = some (exo a C (some d)) ∧ H1 d = some (.xd fs) ∧ fs.lookup n = some v ∧ XfC K C ∧ PySem.W.findIn K (.ref C) n = some none ∧ Q v H1
def rIsV (K : PySem.W.Frag) : List V → Hp → VK → Prop := fun xs H Q => ∃ (a C d : Addr) (fs : List (Str × V)) (c : V) (cv : Value) (b : Bool), xs = [.ref a, c] ∧ H a = some (exo a C (some d)) ∧ H d = some (.xd fs) ∧ ExcC K C ∧ ClsV c cv ∧ PySem.W.kitOne K (.ref C) cv = some b ∧ Q (.bl b) H
section
variable {X : Cx} {e : Expr} {te : TE} {pos : Pos} {n : Str} {K : PySem.W.Frag}
theorem pe_ef (hK : X.K = K) (he : PE X e te) (hb : attributeBase e n X.env (eval e X.env) = eval e X.env := by rfl) : PE X (.Attribute e n pos) (tEf K n te) := by
  subst hK
  refine ⟨fun pins s σ H Q I h => attr_of hb (thn (he.run pins s σ H _ I h) fun u s1 hh => ?_)⟩
  obtain ⟨x, H1, I1, rx, a, C, d, fs, v, ex, ea, ed, l, T, no, q⟩ := hh
  subst ex
  obtain rfl : u = Value.ref a := rx
  obtain ⟨t1, lo⟩ := exo_at I1.hok ea
  have hx : ObjOk X.prog X.w H1 s1.heap d (.xd fs) := I1.hok d _ ed
  obtain ⟨mA, ns, rel⟩ := hx
  obtain ⟨od, ho, hl⟩ := lookIn_ns ns
  obtain ⟨u, hu, ru⟩ := RelO.some_of (v := v) (o := mA n) (by rw [← l]; exact rel n)
  have J : PySem.W.InstAt s1.heap a { cls := .ref C, dict := some d, data := .fields #[.ref t1, .none, .none, .none, .bool false, .none] } C (some od) := ⟨lo, rfl, rfl, ho⟩
  exact HandSPX.exc_get I1.kIn J T.ga T.gg T.exC (PySem.W.findObj_own T.hdC no rfl (by rw [hl, hu])) (handed_of ru) ⟨v, H1, I1.tok _, ru, q⟩
theorem call_isV : CallR X (.builtin "isinstance") (rIsV X.K) := by
  intro pins s σ H xs us Q I r h
  obtain ⟨a, C, d, fs, c, cv, b, rfl, ea, ed, T, kc, e, q⟩ := h
  obtain ⟨u, t, rfl, ru, rt⟩ := vals2 r
  obtain rfl : u = Value.ref a := ru
  obtain rfl := kc.eq rt
  obtain ⟨t1, lo⟩ := exo_at I.hok ea
  have hx : ObjOk X.prog X.w H s.heap d (.xd fs) := I.hok d _ ed
  obtain ⟨mA, ns, rel⟩ := hx
  obtain ⟨od, ho, hl⟩ := lookIn_ns ns
  have J : PySem.W.InstAt s.heap a { cls := .ref C, dict := some d, data := .fields #[.ref t1, .none, .none, .none, .bool false, .none] } C (some od) := ⟨lo, rfl, rfl, ho⟩
  exact PySem.W.kia_one (PySem.W.kitxD T) I.kIn J e (fun z => nomatch z) fun tk => ⟨.bl b, H, I.kept (t' := tk) fun _ _ z => z, rfl, q⟩
end
/-! ### readings -/
/-- y is an error of the class c.1 whose field c.2 holds v -/
def ErAt (v : V) (c : Addr × Str) (y : V) (H : Hp) : Prop := ∃ a d, y = .ref a ∧ H a = some (exo a c.1 (some d)) ∧ H d = some (.xd [(c.2, v)])
section
variable {σ : L2.St} {H H' : Hp} {Q : VK} {v y : V} {c : Addr × Str} {as : TA} {cs : List (Addr × Str)} {K : PySem.W.Frag} {xs ys zs : List V} {p q : Addr}
theorem erStay (s : Same H H') (h : ErAt v c y H) : ErAt v c y H' := by
  obtain ⟨a, d, e, ha, hd⟩ := h
  exact ⟨a, d, e, s _ _ ha, s _ _ hd⟩
theorem erPut (hp : H p = some (.lst xs)) (h : ErAt v c y H) : ErAt v c y (upd H p (.lst zs)) := by
  obtain ⟨a, d, e, ha, hd⟩ := h
  have ne : ∀ {b : Addr} {o : HO}, H b = some o → o ≠ .lst xs → b ≠ p := fun hb n z => by
    rw [z, hp] at hb
    exact n (Option.some.inj hb).symm
  exact ⟨a, d, e, by rw [upd_ne (ne ha fun z => by have z' : HO.ext _ = HO.lst xs := z; cases z')]; exact ha, by rw [upd_ne (ne hd fun z => nomatch z)]; exact hd⟩
/-- a list of such makings -/
def Mks (v : V) (σ : L2.St) (cs : List (Addr × Str)) (as : TA) : Prop := ∀ (H : Hp) (QA : List V → Hp → Prop), (∀ ys H1, Same H H1 → Paired (fun c y => ErAt v c y H1) cs ys → QA ys H1) → as σ H QA
theorem mks_nil : Mks v σ [] tNil := fun H QA k => k [] H (fun _ _ z => z) .nil
theorem mks_cons {C : Addr} {f : Str} {n : Nat} (hv : σ[n]? = some (some v)) (t : Mks v σ cs as) : Mks v σ ((C, f) :: cs) (tCons (tMkV C f (tCons (tVar n) tNil)) as) := by
  intro H QA k
  refine Rd.cons ?_
  show tCons (tVar n) tNil σ H _
  refine Rd.cons (Rd.var hv (Rd.nil ⟨v, rfl, fun a d ha hd hda => ?_⟩))
  have s1 : Same H (made H C a d f v) := fun b u e => by
    show upd (upd H d _) a _ b = _
    rw [upd_ne (ne_of_none e ha), upd_ne (ne_of_none e hd)]
    exact e
  refine t _ _ fun ys H1 s pr => k (.ref a :: ys) H1 (s1.trans s) (.cons ⟨a, d, rfl, s _ _ upd_same, s _ _ ?_⟩ pr)
  show upd (upd H d _) a _ d = _
  rw [upd_ne hda, upd_same]
/-- isinstance of the same value, again and again -/
def Iss (y : V) (σ : L2.St) (bs : List Bool) (H : Hp) (as : TA) : Prop := ∀ QA : List V → Hp → Prop, QA (bs.map V.bl) H → as σ H QA
theorem iss_nil : Iss y σ [] H tNil := fun QA k => k
theorem iss_cons {a C d : Addr} {fs : List (Str × V)} {b : Bool} {bs : List Bool} {n : Nat} {c : V} {cv : Value} (hv : σ[n]? = some (some (.ref a))) (ea : H a = some (exo a C (some d))) (ed : H d = some (.xd fs)) (T : ExcC K C) (kc : ClsV c cv) (e : PySem.W.kitOne K (.ref C) cv = some b) (t : Iss (.ref a) σ bs H as) :
    Iss (.ref a) σ (b :: bs) H (tCons (tCB (rIsV K) (tCons (tVar n) (tCons (tC c) tNil))) as) := fun QA k =>
  Rd.cons (Rd.cb (Rd.cons (Rd.var hv (Rd.cons (Rd.cst (Rd.nil ⟨a, C, d, fs, c, cv, b, rfl, ea, ed, T, kc, e, t _ k⟩))))))
/-- fields of values of a list -/
def Efs (v : V) (σ : L2.St) (m : Nat) (H : Hp) (as : TA) : Prop := ∀ QA : List V → Hp → Prop, QA (List.replicate m v) H → as σ H QA
theorem efs_nil : Efs v σ 0 H tNil := fun QA k => k
theorem efs_cons {n m : Nat} {i : Int} (hv : σ[n]? = some (some (.ref p))) (hp : SqL K H p ys) (hi : atI ys i = some y) (h : ErAt v c y H) (T : XfC K c.1) (no : PySem.W.findIn K (.ref c.1) c.2 = some none) (t : Efs v σ m H as) :
    Efs v σ (m + 1) H (tCons (tEf K c.2 (tOp (rIxL K) (tVar n) (tC (.int i)))) as) := fun QA k => by
  obtain ⟨a, d, e, ha, hd⟩ := h
  exact Rd.cons (Rd.op (Rd.var hv (Rd.cst (Rd.ixL hp hi ⟨a, c.1, d, _, v, e, ha, hd, by simp [List.lookup], T, no, t _ k⟩))))
/-- a new list, a list put together: the heap grows -/
theorem catS (h : H p = some (.lst xs)) (h' : H q = some (.lst ys)) (l : xs.length + ys.length ≤ 10000) (k : ∀ r H2, H r = none → Same H H2 → H2 r = some (.lst (xs ++ ys)) → Q (.ref r) H2) : rCat (.ref p) (.ref q) H Q :=
  Rd.cat h h' (Nat.le_trans l (by decide)) fun r hr => k r _ hr (Rd.sNew hr) upd_same
end
/-! ### a list put together anew is not the table of modules -/
def rCatM : R2 := fun x y H Q => ∃ a b xs ys, x = .ref a ∧ y = .ref b ∧ H a = some (.lst xs) ∧ H b = some (.lst ys) ∧ xs.length + ys.length ≤ sizeLine ∧ ∀ p, H p = none → p ≠ sysModules → Q (.ref p) (upd H p (.lst (xs ++ ys)))
def rRepM : R2 := fun x y H Q => ∃ a k xs, x = .ref a ∧ y = .int k ∧ H a = some (.lst xs) ∧ 0 ≤ k ∧ k < 1000 ∧ xs.length * k.toNat ≤ sizeLine ∧ ∀ p, H p = none → p ≠ sysModules → Q (.ref p) (upd H p (.lst (List.replicate k.toNat xs).flatten))
section
variable {X : Cx}
theorem op_catM : OpR X (binaryOp .Add) rCatM := by
  intro pins s σ H x y v u Q I rx ry h
  obtain ⟨a, b, xs, ys, rfl, rfl, ha, hb, hz, q⟩ := h
  obtain rfl : v = Value.ref a := rx
  obtain rfl : u = Value.ref b := ry
  obtain ⟨_, t1, n1, v1, l1, e1⟩ := I.lstM ha
  obtain ⟨_, t2, n2, v2, l2, e2⟩ := I.lstM hb
  refine PySem.P.add_list e1 e2 ?_ (by simp only [List.size_toArray]; omega)
  rw [show t1.toArray ++ t2.toArray = (t1 ++ t2).toArray by simp]
  exact ⟨V.ref _, _, I.lnew (t' := s.toks) (v1.append v2) (by rw [List.length_append]; exact hz), rfl, q _ I.fresh (Nat.ne_of_gt I.big)⟩
theorem op_repM : OpR X (binaryOp .Mult) rRepM := by
  intro pins s σ H x y v u Q I rx ry h
  obtain ⟨a, k, xs, rfl, rfl, ha, k0, k1, hz, q⟩ := h
  obtain rfl : v = Value.ref a := rx
  obtain ⟨t, rfl⟩ := ry
  obtain ⟨_, ts, n, vs, l, e⟩ := I.lstM ha
  have z1 : ts.toArray.size * k.toNat ≤ sizeLine := by
    rw [List.size_toArray, ← l]
    exact hz
  have z2 : ¬ ts.toArray.size * k.toNat > (2 ^ 63 - 1) / 8 := by
    have z3 : (sizeLine : Nat) ≤ (2 ^ 63 - 1) / 8 := by decide
    omega
  have z4 : ¬ (!Builtin.List.listFitsIndex k) = true := by
    rw [fitsIndex_both (by omega) (by omega)]
    decide
  have z5 : ¬ Builtin.List.listTooLong (ts.toArray.size * k.toNat) = true := by
    rw [notLongL z1]
    decide
  have f0 : ∀ m : Nat, List.foldl (fun b c => b ++ c) #[] (List.replicate m ts.toArray) = (List.replicate m ts).flatten.toArray := fun m => by
    have w := foldl_rep ts m []
    rw [List.nil_append] at w
    exact w
  have f1 : List.foldl (fun b c => b ++ c) #[] (List.replicate (if ts.toArray.isEmpty = true then 0 else k.toNat) ts.toArray) = (List.replicate k.toNat ts).flatten.toArray := by
    rw [f0]
    cases ts with
    | nil => simp
    | cons c r => rw [if_neg (by simp)]
  refine wpAny_binaryOp_repeat_ref (T := "list") (U := "int") (by decide) ⟨_, e, rfl⟩ (fun s' => typeIs_int s' k t) noFill_list_mul F.fills_int_mul F.slot_int_rmul repeat_list F.slot_int_index.lookup ?_
  refine call_meets F.slot_int_rmul (typeIs_int s k t) F.entry_int_rmul (F.args_int_rmul_2 _ _) (int___rmul___int_list k t a ts.toArray n) ⟨e, rfl, ⟨_, e, rfl⟩, ?_⟩
  refine call_meets F.slot_list_mul ⟨_, e, rfl⟩ F.entry_list_mul (F.args_list_mul_2 _ _) (AutoListH.list___mul___list_int_3 a ts.toArray n k t z4 z2 z5) ⟨e, ?_⟩
  rw [f1]
  exact ⟨V.ref _, _, I.lnew (t' := s.toks) (vs.rep k.toNat) (by rw [PyProof.Rows.lm_len_rep_flat, Nat.mul_comm]; exact hz), rfl, q _ I.fresh (Nat.ne_of_gt I.big)⟩
end
end Eb
namespace Ab
open PySem.Spec PyProof.Rows
def top (i : Nat) : Stmt := PySem.Challenge.pw_answersby_k34_refusals_apart.main.body.getD i (.Pass ⟨0, 0, 0, 0⟩)
def clsBody : Stmt → List Stmt
  | .ClassDef _ _ _ b _ _ _ _ _ _ _ => b
  | _ => []
def meth (i j : Nat) : Stmt := (clsBody (top i)).getD j (.Pass ⟨0, 0, 0, 0⟩)
theorem one_ {n : Nat} (h : n + 64 < cLine) : n + 1 < cLine := by omega
/-- the thirty classes, at C 0 to C 29 -/
structure YS (P : Program) (w : World) (K : PySem.W.Frag) (mg : Str → Option Value) (base : Heap) (C : Nat → Addr) : Prop where
  NoName : Eb.ErrB K mg "NoName" "value" (C 0) ∧ Eb.InitB P w K mg base "value" (C 0)
  NoWays : Eb.ErrB K mg "NoWays" "operation" (C 1) ∧ Eb.InitB P w K mg base "operation" (C 1)
  NoFlag : Eb.ErrB K mg "NoFlag" "value" (C 2) ∧ Eb.InitB P w K mg base "value" (C 2)
  NoBook : Eb.ErrB K mg "NoBook" "value" (C 3) ∧ Eb.InitB P w K mg base "value" (C 3)
  NoBody : Eb.ErrB K mg "NoBody" "place" (C 4) ∧ Eb.InitB P w K mg base "place" (C 4)
  NoEntry : Eb.ErrB K mg "NoEntry" "method" (C 5) ∧ Eb.InitB P w K mg base "method" (C 5)
  NoTable : Eb.ErrB K mg "NoTable" "value" (C 6) ∧ Eb.InitB P w K mg base "value" (C 6)
  NoOperand : Eb.ErrB K mg "NoOperand" "value" (C 7) ∧ Eb.InitB P w K mg base "value" (C 7)
  NoScene : Eb.ErrB K mg "NoScene" "value" (C 8) ∧ Eb.InitB P w K mg base "value" (C 8)
  NoScript : Eb.ErrB K mg "NoScript" "index" (C 9) ∧ Eb.InitB P w K mg base "index" (C 9)
  NoNumber : Eb.ErrB K mg "NoNumber" "value" (C 10) ∧ Eb.InitB P w K mg base "value" (C 10)
  NoMachine : Eb.ErrB K mg "NoMachine" "row" (C 11) ∧ Eb.InitB P w K mg base "row" (C 11)
  NoPair : Eb.ErrB K mg "NoPair" "value" (C 12) ∧ Eb.InitB P w K mg base "value" (C 12)
  NoPaper : Eb.ErrB K mg "NoPaper" "index" (C 13) ∧ Eb.InitB P w K mg base "index" (C 13)
  NotNamed : Eb.ErrB K mg "NotNamed" "method" (C 14) ∧ Eb.InitB P w K mg base "method" (C 14)
  NoRelation : Eb.ErrB K mg "NoRelation" "value" (C 15) ∧ Eb.InitB P w K mg base "value" (C 15)
  NoAgreement : Eb.ErrB K mg "NoAgreement" "value" (C 16) ∧ Eb.InitB P w K mg base "value" (C 16)
  NoStock : Eb.ErrB K mg "NoStock" "index" (C 17) ∧ Eb.InitB P w K mg base "index" (C 17)
  NoWish : Eb.ErrB K mg "NoWish" "index" (C 18) ∧ Eb.InitB P w K mg base "index" (C 18)
  NoChoice : Eb.ErrB K mg "NoChoice" "value" (C 19) ∧ Eb.InitB P w K mg base "value" (C 19)
  NoEdit : Eb.ErrB K mg "NoEdit" "index" (C 20) ∧ Eb.InitB P w K mg base "index" (C 20)
  NoNote : Eb.ErrB K mg "NoNote" "line" (C 21) ∧ Eb.InitB P w K mg base "line" (C 21)
  NoClass : Eb.ErrB K mg "NoClass" "name" (C 22) ∧ Eb.InitB P w K mg base "name" (C 22)
  Unanswered : Eb.ErrB K mg "Unanswered" "asked" (C 23) ∧ Eb.InitB P w K mg base "asked" (C 23)
  NoOrder : Eb.ErrB K mg "NoOrder" "name" (C 24) ∧ Eb.InitB P w K mg base "name" (C 24)
  Parted : Eb.ErrB K mg "Parted" "script" (C 25) ∧ Eb.InitB P w K mg base "script" (C 25)
  Used : Eb.ErrB K mg "Used" "name" (C 26) ∧ Eb.InitB P w K mg base "name" (C 26)
  OutOfStep : Eb.ErrB K mg "OutOfStep" "asked" (C 27) ∧ Eb.InitB P w K mg base "asked" (C 27)
  EditFailed : Eb.ErrB K mg "EditFailed" "index" (C 28) ∧ Eb.InitB P w K mg base "index" (C 28)
  TooMany : Eb.ErrB K mg "TooMany" "limit" (C 29) ∧ Eb.InitB P w K mg base "limit" (C 29)
def clsF (C : Nat → Addr) : List (Addr × Str) := [(C 0, "value"), (C 1, "operation"), (C 2, "value"), (C 3, "value"), (C 4, "place"), (C 5, "method"), (C 6, "value"), (C 7, "value"), (C 8, "value"), (C 9, "index"), (C 10, "value"), (C 11, "row"), (C 12, "value"), (C 13, "index"), (C 14, "method"), (C 15, "value"), (C 16, "value"), (C 17, "index"), (C 18, "index"), (C 19, "value"), (C 20, "index"), (C 21, "line"), (C 22, "name"), (C 23, "asked"), (C 24, "name"), (C 25, "script"), (C 26, "name"), (C 27, "asked"), (C 28, "index"), (C 29, "limit")]
/-- which built-in classes stand above -/
def aboveB : List (String × (Nat → Bool)) := [("ValueError", fun i => decide (i < 22)), ("KeyError", fun i => decide (i = 22 ∨ i = 23)), ("LookupError", fun i => decide (22 ≤ i ∧ i < 26)), ("RuntimeError", fun i => decide (26 ≤ i ∧ i < 29)), ("OverflowError", fun i => decide (i = 29)), ("ArithmeticError", fun i => decide (i = 29)), ("IndexError", fun _ => false)]
structure Kits (K : PySem.W.Frag) (CA : Addr) (C : Nat → Addr) : Prop where
  own : ∀ i j, i < 30 → j < 30 → PySem.W.kitOne K (.ref (C i)) (.ref (C j)) = some (decide (i = j))
  ans : ∀ i, i < 30 → PySem.W.kitOne K (.ref (C i)) (.ref CA) = some (decide (i < 22))
  blt : ∀ i, i < 30 → ∀ t f, (t, f) ∈ aboveB → PySem.W.kitOne K (.ref (C i)) (.type t) = some (f i)
structure Txt (K : PySem.W.Frag) (mg : Str → Option Value) : Prop where
  int : mg "int" = none
  len : mg "len" = none
  max : mg "max" = none
  min : mg "min" = none
  isinstance : mg "isinstance" = none
  range : mg "range" = none
  list : mg "list" = none
  dict : mg "dict" = none
  tuple : mg "tuple" = none
  str : mg "str" = none
  repr : mg "repr" = none
  enumerate : mg "enumerate" = none
  ValueError : mg "ValueError" = none
  KeyError : mg "KeyError" = none
  LookupError : mg "LookupError" = none
  RuntimeError : mg "RuntimeError" = none
  OverflowError : mg "OverflowError" = none
  ArithmeticError : mg "ArithmeticError" = none
  IndexError : mg "IndexError" = none

structure PoolOk (x y : Int) : Prop where
  x0 : 0 ≤ x
  y0 : 0 ≤ y
  y1 : y < 2147483647
def spTake : Sp := fun vs H Q _ => ∃ (p : Addr) (x y m : Int), vs = [.ref p, .int m] ∧ H p = some (.lst [.int x, .int y]) ∧ PoolOk x y ∧ 0 < m ∧ m < 1000 ∧
  ∀ r x' y' : Int, PoolOk x' y' → 0 ≤ r → r < m → Q (.int r) (upd H p (.lst [.int x', .int y']))
section
variable {P : Program} {w : World} {K : PySem.W.Frag} {mg : Str → Option Value} {base : Heap}
abbrev sL_take : Stmt := top 34
abbrev nL_take : List Str := ["_law_pool_here", "_law_many", "_law_found"]
theorem scL_take : FnScope nL_take ["_law_pool_here", "_law_many"] (defScope sL_take) := ⟨rfl, rfl, rfl, by decide +kernel, rfl, by decide +kernel, by decide +kernel⟩
theorem ok_take (T : Txt K mg) (D : DefAt K mg "_law_take" sL_take ["_law_pool_here", "_law_many"]) : CalG P w K mg base 1 "_law_take" spTake := by
  refine D.by scL_take (fun vs H Q E h => ?_) (fun f cd A hg outer s H vs Q E hr h => ?_)
  · obtain ⟨p, x, y, m, rfl, _⟩ := h
    rfl
  · obtain ⟨p, x, y, m, rfl, hp, ok, m0, m1, k⟩ := h
    refine ⟨_, (pss_cons (ps_if (pt_cmpR op_gt (pe_ix (r := rIxL K) ix_list (pv 0) pe_int (fun _ _ => rfl)) pe_int (nomark _))
  (pss_cons (ps_set (i := 2) scL_take.nd rfl (Or.inl rfl) (pe_op op_modN (pe_callTy call_int1 (by rfl) T.int (by decide +kernel) (pa_cons (pe_ix (r := rIxL K) ix_list (pv 0) pe_int (fun _ _ => rfl)) pa_nil)) (pv 1)))
  (pss_cons (ps_asg (pe_op op_fdivN (pe_ix (r := rIxL K) ix_list (pv 0) pe_int (fun _ _ => rfl)) (pv 1)) (pg_sub (pv 0) pe_int set_list))
  (pss_one (ps_ret (pv 2)))))
  pss_nil)
  (pss_cons (ps_asg (pe_op op_modN (pe_callTy call_int1 (by rfl) T.int (by decide +kernel) (pa_cons (pe_op op_add (pe_op op_mul (pe_ix (r := rIxL K) ix_list (pv 0) pe_int (fun _ _ => rfl)) pe_int) pe_int) pa_nil)) pe_int) (pg_sub (pv 0) pe_int set_list))
  (pss_one (ps_ret (pe_op op_modN (pe_op op_fdivN (pe_op op_modN (pe_callTy call_int1 (by rfl) T.int (by decide +kernel) (pa_cons (pe_op op_mul (pe_ix (r := rIxL K) ix_list (pv 0) pe_int (fun _ _ => rfl)) (pe_ix (r := rIxL K) ix_list (pv 0) pe_int (fun _ _ => rfl))) pa_nil)) pe_int) pe_int) (pv 1)))))), ?_⟩
    repeat walk_at "rd"
    refine Rd.dec (fun c => ?_) (fun c => ?_)
    · repeat walk_at "rd"
      have e := Int.fdiv_eq_ediv_of_nonneg x (Int.le_of_lt m0)
      have e' := Int.fmod_eq_emod_of_nonneg x (Int.le_of_lt m0)
      have a := Int.emod_nonneg x (show m ≠ 0 by omega)
      have b := Int.emod_lt_of_pos x m0
      have d := Int.ediv_nonneg (a := x) (b := m) (by omega) (by omega)
      exact k _ _ _ ⟨by omega, ok.y0, ok.y1⟩ (by omega) (by omega)
    · have y0 := ok.y0
      have y1 := ok.y1
      obtain ⟨z0, z1⟩ := Rd.fm (i := y * 48271 + 11) (m := 2147483647) (by decide)
      repeat walk_at "rd"
      obtain ⟨r0, r1⟩ := Rd.fm (i := ((((y * 48271 + 11).fmod 2147483647) * ((y * 48271 + 11).fmod 2147483647)).fmod 2147483629).fdiv 64) m0
      exact k _ _ _ ⟨ok.x0, z0, z1⟩ r0 r1
def spPool (K : PySem.W.Frag) : Sp := fun vs H Q _ => ∃ (a : Addr) (ns : List Int) (k : Int), vs = [.ref a, .int k] ∧ SqL K H a (ns.map V.int) ∧ 0 ≤ k ∧ k < 1000 ∧
  ∀ (p : Addr) (x y : Int), H p = none → PoolOk x y → Q (.ref p) (upd H p (.lst [.int x, .int y]))
abbrev sL_pool : Stmt := top 33
abbrev nL_pool : List Str := ["_law_script", "_law_k", "_law_cell", "_law_size", "_law_seed"]
theorem scL_pool : FnScope nL_pool ["_law_script", "_law_k"] (defScope sL_pool) := ⟨rfl, rfl, rfl, by decide +kernel, rfl, by decide +kernel, by decide +kernel⟩
theorem ok_pool (T : Txt K mg) (D : DefAt K mg "_law_pool" sL_pool ["_law_script", "_law_k"]) : CalG P w K mg base 1 "_law_pool" (spPool K) := by
  refine D.by scL_pool (fun vs H Q E h => ?_) (fun f cd A hg outer s H vs Q E hr h => ?_)
  · obtain ⟨a, ns, k, rfl, _⟩ := h
    rfl
  · obtain ⟨a, ns, k, rfl, hS, k0, k1, q⟩ := h
    refine ⟨_, (pss_cons (ps_set (i := 2) scL_pool.nd rfl (Or.inl rfl) pe_int)
  (pss_cons (ps_if (pt_cmpR op_lt (pv 1) (pe_callB (r := Rd.rLenK K) Rd.callLen (by rfl) T.len PySem.boot_len (pa_cons (pv 0) pa_nil)) (nomark _))
  (pss_one (ps_set (i := 2) scL_pool.nd rfl (Or.inl rfl) (pe_ix (r := rIxL K) ix_list (pv 0) (pv 1) (fun _ _ => rfl))))
  pss_nil)
  (pss_cons (ps_set (i := 3) scL_pool.nd rfl (Or.inl rfl) (pe_callB (call_max2 rfl) (by rfl) T.max (by decide +kernel) (pa_cons (pv 2) (pa_cons (pe_op op_sub (pe_un un_neg pe_int) (pv 2)) pa_nil))))
  (pss_cons (ps_set (i := 4) scL_pool.nd rfl (Or.inl rfl) (pe_callTy call_int1 (by rfl) T.int (by decide +kernel) (pa_cons (pe_op op_add (pe_op op_add (pe_op op_modN (pe_callTy call_int1 (by rfl) T.int (by decide +kernel) (pa_cons (pv 3) pa_nil)) pe_int) (pe_op op_mul pe_int (pv 1))) pe_int) pa_nil)))
  (pss_one (ps_ret (pe_lst (pa_cons (pe_op op_mul (pv 3) (pe_callTy call_int1 (by rfl) T.int (by decide +kernel) (pa_cons (pe_cmpR op_ge (pv 3) (pe_op op_pow pe_int pe_int) (nomark _)) pa_nil))) (pa_cons (pe_op op_modN (pe_op op_mul (pv 4) pe_int) pe_int) pa_nil))))))))), ?_⟩
    repeat walk_at "rd"
    have fin : ∀ (sz : Int) (k1 : Int), 0 ≤ sz → 0 ≤ k1 → k1 < 1000 → PoolOk (sz * (if decide ((10 : Int) ^ (Int.toNat 18) ≤ sz) = true then 1 else 0)) (((sz.fmod 2147483629 + 7919 * k1 + 104729) * 48271).fmod 2147483647) := by
      intro sz k1 h0 h1 h2
      obtain ⟨y0, y1⟩ := Rd.fm (i := (sz.fmod 2147483629 + 7919 * k1 + 104729) * 48271) (m := 2147483647) (by decide)
      refine ⟨?_, y0, y1⟩
      split
      · omega
      · omega
    refine Rd.dec (fun c => ?_) (fun c => ?_)
    · repeat walk_at "rd"
      obtain ⟨cell, ix⟩ := Rd.at_int k0 c
      refine Rd.ixL hS ix ?_
      have sz0 : 0 ≤ (if (-1 : Int) - cell > cell then -1 - cell else cell) := by split <;> omega
      have fmz := Rd.fm (i := (if (-1 : Int) - cell > cell then -1 - cell else cell)) (m := 2147483629) (by decide)
      repeat walk_at "rd"
      refine ⟨Rd.sz (by simp), fun p hp => ?_⟩
      exact q p _ _ hp (fin _ _ sz0 k0 k1)
    · have sz0 : 0 ≤ (if (-1 : Int) - 0 > 0 then -1 - 0 else (0 : Int)) := by split <;> omega
      have fmz := Rd.fm (i := (if (-1 : Int) - 0 > 0 then -1 - 0 else (0 : Int))) (m := 2147483629) (by decide)
      repeat walk_at "rd"
      refine ⟨Rd.sz (by simp), fun p hp => ?_⟩
      exact q p _ _ hp (fin _ _ sz0 k0 k1)
/-- one of a list's items, by the pool -/
def spOne (K : PySem.W.Frag) : Sp := fun vs H Q _ => ∃ (p l : Addr) (x y : Int) (xs : List V), vs = [.ref p, .ref l] ∧ H p = some (.lst [.int x, .int y]) ∧ SqL K H l xs ∧ (∀ o, SqL K (upd H p o) l xs) ∧ PoolOk x y ∧ 0 < xs.length ∧ xs.length < 1000 ∧
  ∀ (v : V) (x' y' : Int), v ∈ xs → PoolOk x' y' → Q v (upd H p (.lst [.int x', .int y']))
abbrev sL_one : Stmt := top 35
abbrev nL_one : List Str := ["_law_pool_here", "_law_some"]
theorem scL_one : FnScope nL_one ["_law_pool_here", "_law_some"] (defScope sL_one) := ⟨rfl, rfl, rfl, by decide +kernel, rfl, by decide +kernel, by decide +kernel⟩
theorem ok_one (T : Txt K mg) (D : DefAt K mg "_law_one" sL_one ["_law_pool_here", "_law_some"]) (CL_take : CalG P w K mg base 1 "_law_take" spTake) : CalG P w K mg base 2 "_law_one" (spOne K) := by
  refine D.by scL_one (fun vs H Q E h => ?_) (fun f cd A hg outer s H vs Q E hr h => ?_)
  · obtain ⟨a, ns, k, _, _, rfl, _⟩ := h
    rfl
  · obtain ⟨p, l, x, y, xs, rfl, hp, hl, hl2, ok, l0, l1, q⟩ := h
    refine ⟨_, (pss_one (ps_ret (pe_ix (r := rIxL K) ix_list (pv 1) (pe_cG CL_take hg hr (by decide) (pa_cons (pv 0) (pa_cons (pe_callB (r := Rd.rLenK K) Rd.callLen (by rfl) T.len PySem.boot_len (pa_cons (pv 1) pa_nil)) pa_nil))) (fun _ _ => rfl)))), ?_⟩
    repeat walk_at "rd"
    refine ⟨p, x, y, _, rfl, hp, ok, by omega, by omega, fun r x' y' ok' r0 r1 => ?_⟩
    have hr : r.toNat < xs.length := by omega
    exact Rd.ixL (hl2 _) (Rd.atN r0 (List.getElem?_eq_getElem hr)) (q _ _ _ (List.getElem_mem hr) ok')
end
end Ab
namespace Ab
open PySem.Spec PyProof.Rows
/-- a list of errors in the making: H the heap ahead -/
def StE (v : V) (H : Hp) (p : Addr) (cs : List (Addr × Str)) (H1 : Hp) : Prop := H p = none ∧ Same H H1 ∧ ∃ ys, H1 p = some (.lst ys) ∧ Paired (fun c y => Eb.ErAt v c y H1) cs ys
theorem none_back {H H1 : Hp} {r : Addr} (s : Same H H1) (h : H1 r = none) : H r = none := by
  cases e : H r with
  | none => rfl
  | some u => rw [s _ _ e] at h; cases h
theorem pair_app {α β : Type} {F : α → β → Prop} : ∀ {as as' : List α} {bs bs' : List β}, Paired F as bs → Paired F as' bs' → Paired F (as ++ as') (bs ++ bs')
  | _, _, _, _, .nil, h => h
  | _, _, _, _, .cons a t, h => .cons a (pair_app t h)
theorem lstE {v : V} {H H1 : Hp} {p : Addr} {cs : List (Addr × Str)} {ys : List V} (s : Same H H1) (pr : Paired (fun c y => Eb.ErAt v c y H1) cs ys) (hp : H1 p = none) : StE v H p cs (upd H1 p (.lst ys)) :=
  ⟨none_back s hp, s.trans (Rd.sNew hp), ys, upd_same, Rd.pair_imp (fun _ _ => Eb.erStay (Rd.sNew hp)) pr⟩
theorem catE {v : V} {H H1 H2 : Hp} {p q : Addr} {cs ds : List (Addr × Str)} {ys : List V} {Q : VK} (st : StE v H p cs H1) (s : Same H1 H2) (pr : Paired (fun c y => Eb.ErAt v c y H2) ds ys) (hq : H2 q = none) (lc : cs.length + ds.length ≤ 1000)
    (k : ∀ r H3, StE v H r (cs ++ ds) H3 → Q (.ref r) H3) : rCat (.ref p) (.ref q) (upd H2 q (.lst ys)) Q := by
  obtain ⟨hp, s0, xs, ex, px⟩ := st
  have l1 := Rd.pair_len px
  have l2 := Rd.pair_len pr
  have ep : (upd H2 q (.lst ys)) p = some (.lst xs) := Rd.sNew hq _ _ (s _ _ ex)
  refine Eb.catS ep upd_same (by omega) fun r H3 hr s3 e3 => k r H3 ⟨none_back ((s0.trans s).trans (Rd.sNew hq)) hr, ((s0.trans s).trans (Rd.sNew hq)).trans s3, _, e3, ?_⟩
  exact pair_app (Rd.pair_imp (fun _ _ => Eb.erStay ((s.trans (Rd.sNew hq)).trans s3)) px) (Rd.pair_imp (fun _ _ => Eb.erStay ((Rd.sNew hq).trans s3)) pr)
/-- p.append of one more -/
theorem appE {v y : V} {H H1 H2 : Hp} {p : Addr} {cs : List (Addr × Str)} {c : Addr × Str} {Q : VK} (st : StE v H p cs H1) (s : Same H1 H2) (hy : Eb.ErAt v c y H2) (lc : cs.length ≤ 1000)
    (k : ∀ H3, StE v H p (cs ++ [c]) H3 → Q .non H3) : rAppend (.ref p) [y] H2 Q := by
  obtain ⟨hp, s0, xs, ex, px⟩ := st
  have l1 := Rd.pair_len px
  have ep : H2 p = some (.lst xs) := s _ _ ex
  refine Rd.app ep (Rd.szl (by omega)) (k _ ⟨hp, Rd.sMut (s0.trans s) hp, _, upd_same, ?_⟩)
  exact pair_app (Rd.pair_imp (fun _ _ h => Eb.erPut ep (Eb.erStay s h)) px) (.cons (Eb.erPut ep hy) .nil)
theorem mks_go {v : V} {σ : L2.St} {cs : List (Addr × Str)} {as : TA} {H : Hp} {QA : List V → Hp → Prop} (h : Eb.Mks v σ cs as) (k : ∀ ys H1, Same H H1 → Paired (fun c y => Eb.ErAt v c y H1) cs ys → QA ys H1) : as σ H QA := h H QA k
/-- what _law_placed and _law_called keep -/
def spMade (C : Nat → Addr) : Sp := fun vs H Q _ => ∃ v, vs = [v] ∧ ∀ p H1, StE v H p (clsF C) H1 → Q (.ref p) H1
section
variable {P : Program} {w : World} {K : PySem.W.Frag} {mg : Str → Option Value} {base : Heap}
abbrev sL_placed : Stmt := top 36
abbrev nL_placed : List Str := ["_law_thing", "_law_found"]
theorem scL_placed : FnScope nL_placed ["_law_thing"] (defScope sL_placed) := ⟨rfl, rfl, rfl, by decide +kernel, rfl, by decide +kernel, by decide +kernel⟩
theorem ok_placed {C : Nat → Addr} (T : Txt K mg) (Y : YS P w K mg base C) (D : DefAt K mg "_law_placed" sL_placed ["_law_thing"]) : CalG P w K mg base 3 "_law_placed" (spMade C) := by
  refine D.by scL_placed (fun vs H Q E h => ?_) (fun f cd A hg outer s H vs Q E hr h => ?_)
  · obtain ⟨v, rfl, _⟩ := h
    rfl
  · obtain ⟨v, rfl, k⟩ := h
    refine ⟨_, (pss_cons (ps_set (i := 1) scL_placed.nd rfl (Or.inl rfl) (pe_lst (pa_cons (Eb.pe_err Y.NoName.1 Y.NoName.2 hr (by decide) (pa_cons (pv 0) pa_nil)) (pa_cons (Eb.pe_err Y.NoWays.1 Y.NoWays.2 hr (by decide) (pa_cons (pv 0) pa_nil)) (pa_cons (Eb.pe_err Y.NoFlag.1 Y.NoFlag.2 hr (by decide) (pa_cons (pv 0) pa_nil)) (pa_cons (Eb.pe_err Y.NoBook.1 Y.NoBook.2 hr (by decide) (pa_cons (pv 0) pa_nil)) (pa_cons (Eb.pe_err Y.NoBody.1 Y.NoBody.2 hr (by decide) (pa_cons (pv 0) pa_nil)) (pa_cons (Eb.pe_err Y.NoEntry.1 Y.NoEntry.2 hr (by decide) (pa_cons (pv 0) pa_nil)) (pa_cons (Eb.pe_err Y.NoTable.1 Y.NoTable.2 hr (by decide) (pa_cons (pv 0) pa_nil)) pa_nil)))))))))
  (pss_cons (ps_set (i := 1) scL_placed.nd rfl (Or.inl rfl) (pe_op op_cat (pv 1) (pe_lst (pa_cons (Eb.pe_err Y.NoOperand.1 Y.NoOperand.2 hr (by decide) (pa_cons (pv 0) pa_nil)) (pa_cons (Eb.pe_err Y.NoScene.1 Y.NoScene.2 hr (by decide) (pa_cons (pv 0) pa_nil)) (pa_cons (Eb.pe_err Y.NoScript.1 Y.NoScript.2 hr (by decide) (pa_cons (pv 0) pa_nil)) (pa_cons (Eb.pe_err Y.NoNumber.1 Y.NoNumber.2 hr (by decide) (pa_cons (pv 0) pa_nil)) (pa_cons (Eb.pe_err Y.NoMachine.1 Y.NoMachine.2 hr (by decide) (pa_cons (pv 0) pa_nil)) pa_nil))))))))
  (pss_cons (ps_set (i := 1) scL_placed.nd rfl (Or.inl rfl) (pe_op op_cat (pv 1) (pe_lst (pa_cons (Eb.pe_err Y.NoPair.1 Y.NoPair.2 hr (by decide) (pa_cons (pv 0) pa_nil)) (pa_cons (Eb.pe_err Y.NoPaper.1 Y.NoPaper.2 hr (by decide) (pa_cons (pv 0) pa_nil)) (pa_cons (Eb.pe_err Y.NotNamed.1 Y.NotNamed.2 hr (by decide) (pa_cons (pv 0) pa_nil)) (pa_cons (Eb.pe_err Y.NoRelation.1 Y.NoRelation.2 hr (by decide) (pa_cons (pv 0) pa_nil)) (pa_cons (Eb.pe_err Y.NoAgreement.1 Y.NoAgreement.2 hr (by decide) (pa_cons (pv 0) pa_nil)) pa_nil))))))))
  (pss_cons (ps_expr (pe_bm PySem.F.plainAttrs_list PySem.F.slot_list_append PySem.F.type_list_append mt_append (pv 1) (pa_cons (Eb.pe_err Y.NoStock.1 Y.NoStock.2 hr (by decide) (pa_cons (pv 0) pa_nil)) pa_nil)))
  (pss_cons (ps_set (i := 1) scL_placed.nd rfl (Or.inl rfl) (pe_op op_cat (pv 1) (pe_lst (pa_cons (Eb.pe_err Y.NoWish.1 Y.NoWish.2 hr (by decide) (pa_cons (pv 0) pa_nil)) (pa_cons (Eb.pe_err Y.NoChoice.1 Y.NoChoice.2 hr (by decide) (pa_cons (pv 0) pa_nil)) (pa_cons (Eb.pe_err Y.NoEdit.1 Y.NoEdit.2 hr (by decide) (pa_cons (pv 0) pa_nil)) (pa_cons (Eb.pe_err Y.NoNote.1 Y.NoNote.2 hr (by decide) (pa_cons (pv 0) pa_nil)) (pa_cons (Eb.pe_err Y.NoClass.1 Y.NoClass.2 hr (by decide) (pa_cons (pv 0) pa_nil)) (pa_cons (Eb.pe_err Y.Unanswered.1 Y.Unanswered.2 hr (by decide) (pa_cons (pv 0) pa_nil)) pa_nil)))))))))
  (pss_one (ps_ret (pe_op op_cat (pv 1) (pe_lst (pa_cons (Eb.pe_err Y.NoOrder.1 Y.NoOrder.2 hr (by decide) (pa_cons (pv 0) pa_nil)) (pa_cons (Eb.pe_err Y.Parted.1 Y.Parted.2 hr (by decide) (pa_cons (pv 0) pa_nil)) (pa_cons (Eb.pe_err Y.Used.1 Y.Used.2 hr (by decide) (pa_cons (pv 0) pa_nil)) (pa_cons (Eb.pe_err Y.OutOfStep.1 Y.OutOfStep.2 hr (by decide) (pa_cons (pv 0) pa_nil)) (pa_cons (Eb.pe_err Y.EditFailed.1 Y.EditFailed.2 hr (by decide) (pa_cons (pv 0) pa_nil)) (pa_cons (Eb.pe_err Y.TooMany.1 Y.TooMany.2 hr (by decide) (pa_cons (pv 0) pa_nil)) pa_nil))))))))))))))), ?_⟩
    with_reducible refine Rd.seq ?_
    with_reducible refine Rd.asg ?_
    with_reducible refine Rd.lst ?_
    refine mks_go (v := v) (cs := [(C 0, "value"), (C 1, "operation"), (C 2, "value"), (C 3, "value"), (C 4, "place"), (C 5, "method"), (C 6, "value")]) ?h1 ?k1
    case h1 => repeat (first | exact Eb.mks_nil | refine Eb.mks_cons rfl ?_)
    case k1 =>
    intro ys H1 s1 pr
    refine ⟨by rw [← Rd.pair_len pr]; exact Rd.sz (by simp), fun p hp => ?_⟩
    have st := lstE s1 pr hp
    clear pr s1 hp
    revert st
    generalize upd H1 p (.lst ys) = H2
    intro st
    clear H1 ys
    with_reducible refine Rd.gname ?_
    with_reducible refine Rd.seq ?_
    with_reducible refine Rd.asg ?_
    with_reducible refine Rd.op ?_
    with_reducible refine Rd.var rfl ?_
    with_reducible refine Rd.lst ?_
    refine mks_go (v := v) (cs := [(C 7, "value"), (C 8, "value"), (C 9, "index"), (C 10, "value"), (C 11, "row")]) ?h1 ?k1
    case h1 => repeat (first | exact Eb.mks_nil | refine Eb.mks_cons rfl ?_)
    case k1 =>
    intro ys H1 s1 pr
    refine ⟨by rw [← Rd.pair_len pr]; exact Rd.sz (by simp), fun q hq => ?_⟩
    refine catE st s1 pr hq (by simp) fun r H3 st3 => ?_
    clear st s1 pr hq
    revert st3
    generalize H3 = H2
    intro st
    clear H1 H3 q ys
    with_reducible refine Rd.gname ?_
    with_reducible refine Rd.seq ?_
    with_reducible refine Rd.asg ?_
    with_reducible refine Rd.op ?_
    with_reducible refine Rd.var rfl ?_
    with_reducible refine Rd.lst ?_
    refine mks_go (v := v) (cs := [(C 12, "value"), (C 13, "index"), (C 14, "method"), (C 15, "value"), (C 16, "value")]) ?h1 ?k1
    case h1 => repeat (first | exact Eb.mks_nil | refine Eb.mks_cons rfl ?_)
    case k1 =>
    intro ys H1 s1 pr
    refine ⟨by rw [← Rd.pair_len pr]; exact Rd.sz (by simp), fun q hq => ?_⟩
    refine catE st s1 pr hq (by simp) fun r H3 st3 => ?_
    clear st s1 pr hq
    revert st3
    generalize H3 = H2
    intro st
    clear H1 H3 q ys
    with_reducible refine Rd.gname ?_
    obtain ⟨hp0, s0, xs0, ex0, px0⟩ := st
    with_reducible refine Rd.seq ?_
    with_reducible refine Rd.drop ?_
    with_reducible refine Rd.bm ?_
    with_reducible refine Rd.var rfl ?_
    refine ⟨Rd.ty_list ex0, ?_⟩
    refine mks_go (v := v) (cs := [(C 17, "index")]) ?h1 ?k1
    case h1 => repeat (first | exact Eb.mks_nil | refine Eb.mks_cons rfl ?_)
    case k1 =>
    intro ys H1 s1 pr
    cases pr with
    | cons h1 pr =>
    cases pr
    refine appE ⟨hp0, s0, xs0, ex0, px0⟩ s1 h1 (by simp) fun H3 st3 => ?_
    clear hp0 s0 ex0 px0 s1 h1
    revert st3
    generalize H3 = H2
    intro st
    with_reducible refine Rd.seq ?_
    with_reducible refine Rd.asg ?_
    with_reducible refine Rd.op ?_
    with_reducible refine Rd.var rfl ?_
    with_reducible refine Rd.lst ?_
    refine mks_go (v := v) (cs := [(C 18, "index"), (C 19, "value"), (C 20, "index"), (C 21, "line"), (C 22, "name"), (C 23, "asked")]) ?h1 ?k1
    case h1 => repeat (first | exact Eb.mks_nil | refine Eb.mks_cons rfl ?_)
    case k1 =>
    intro ys H1 s1 pr
    refine ⟨by rw [← Rd.pair_len pr]; exact Rd.sz (by simp), fun q hq => ?_⟩
    refine catE st s1 pr hq (by simp) fun r H3 st3 => ?_
    clear st s1 pr hq
    revert st3
    generalize H3 = H2
    intro st
    clear H1 H3 q ys
    with_reducible refine Rd.gname ?_
    with_reducible refine Rd.ret ?_
    with_reducible refine Rd.op ?_
    with_reducible refine Rd.var rfl ?_
    with_reducible refine Rd.lst ?_
    refine mks_go (v := v) (cs := [(C 24, "name"), (C 25, "script"), (C 26, "name"), (C 27, "asked"), (C 28, "index"), (C 29, "limit")]) ?h1 ?k1
    case h1 => repeat (first | exact Eb.mks_nil | refine Eb.mks_cons rfl ?_)
    case k1 =>
    intro ys H1 s1 pr
    refine ⟨by rw [← Rd.pair_len pr]; exact Rd.sz (by simp), fun q hq => ?_⟩
    refine catE st s1 pr hq (by simp) fun r H3 st3 => ?_
    clear st s1 pr hq
    revert st3
    generalize H3 = H2
    intro st
    clear H1 H3 q ys
    exact k _ _ st
abbrev sL_called : Stmt := top 37
abbrev nL_called : List Str := ["_law_it", "_law_found"]
theorem scL_called : FnScope nL_called ["_law_it"] (defScope sL_called) := ⟨rfl, rfl, rfl, by decide +kernel, rfl, by decide +kernel, by decide +kernel⟩
theorem ok_called {C : Nat → Addr} (T : Txt K mg) (Y : YS P w K mg base C) (D : DefAt K mg "_law_called" sL_called ["_law_it"]) : CalG P w K mg base 3 "_law_called" (spMade C) := by
  refine D.by scL_called (fun vs H Q E h => ?_) (fun f cd A hg outer s H vs Q E hr h => ?_)
  · obtain ⟨v, rfl, _⟩ := h
    rfl
  · obtain ⟨v, rfl, k⟩ := h
    refine ⟨_, (pss_cons (ps_set (i := 1) scL_called.nd rfl (Or.inl rfl) (pe_lst (pa_cons (Eb.pe_errK Y.NoName.1 Y.NoName.2 hr (by decide) (pv 0)) (pa_cons (Eb.pe_errK Y.NoWays.1 Y.NoWays.2 hr (by decide) (pv 0)) (pa_cons (Eb.pe_errK Y.NoFlag.1 Y.NoFlag.2 hr (by decide) (pv 0)) (pa_cons (Eb.pe_errK Y.NoBook.1 Y.NoBook.2 hr (by decide) (pv 0)) (pa_cons (Eb.pe_errK Y.NoBody.1 Y.NoBody.2 hr (by decide) (pv 0)) pa_nil)))))))
  (pss_cons (ps_set (i := 1) scL_called.nd rfl (Or.inl rfl) (pe_op op_cat (pv 1) (pe_lst (pa_cons (Eb.pe_errK Y.NoEntry.1 Y.NoEntry.2 hr (by decide) (pv 0)) (pa_cons (Eb.pe_errK Y.NoTable.1 Y.NoTable.2 hr (by decide) (pv 0)) (pa_cons (Eb.pe_errK Y.NoOperand.1 Y.NoOperand.2 hr (by decide) (pv 0)) (pa_cons (Eb.pe_errK Y.NoScene.1 Y.NoScene.2 hr (by decide) (pv 0)) (pa_cons (Eb.pe_errK Y.NoScript.1 Y.NoScript.2 hr (by decide) (pv 0)) pa_nil))))))))
  (pss_cons (ps_set (i := 1) scL_called.nd rfl (Or.inl rfl) (pe_op op_cat (pv 1) (pe_lst (pa_cons (Eb.pe_errK Y.NoNumber.1 Y.NoNumber.2 hr (by decide) (pv 0)) (pa_cons (Eb.pe_errK Y.NoMachine.1 Y.NoMachine.2 hr (by decide) (pv 0)) (pa_cons (Eb.pe_errK Y.NoPair.1 Y.NoPair.2 hr (by decide) (pv 0)) (pa_cons (Eb.pe_errK Y.NoPaper.1 Y.NoPaper.2 hr (by decide) (pv 0)) (pa_cons (Eb.pe_errK Y.NotNamed.1 Y.NotNamed.2 hr (by decide) (pv 0)) pa_nil))))))))
  (pss_cons (ps_set (i := 1) scL_called.nd rfl (Or.inl rfl) (pe_op op_cat (pv 1) (pe_lst (pa_cons (Eb.pe_errK Y.NoRelation.1 Y.NoRelation.2 hr (by decide) (pv 0)) (pa_cons (Eb.pe_errK Y.NoAgreement.1 Y.NoAgreement.2 hr (by decide) (pv 0)) (pa_cons (Eb.pe_errK Y.NoStock.1 Y.NoStock.2 hr (by decide) (pv 0)) (pa_cons (Eb.pe_errK Y.NoWish.1 Y.NoWish.2 hr (by decide) (pv 0)) pa_nil)))))))
  (pss_cons (ps_set (i := 1) scL_called.nd rfl (Or.inl rfl) (pe_op op_cat (pv 1) (pe_lst (pa_cons (Eb.pe_errK Y.NoChoice.1 Y.NoChoice.2 hr (by decide) (pv 0)) (pa_cons (Eb.pe_errK Y.NoEdit.1 Y.NoEdit.2 hr (by decide) (pv 0)) (pa_cons (Eb.pe_errK Y.NoNote.1 Y.NoNote.2 hr (by decide) (pv 0)) (pa_cons (Eb.pe_errK Y.NoClass.1 Y.NoClass.2 hr (by decide) (pv 0)) (pa_cons (Eb.pe_errK Y.Unanswered.1 Y.Unanswered.2 hr (by decide) (pv 0)) pa_nil))))))))
  (pss_cons (ps_set (i := 1) scL_called.nd rfl (Or.inl rfl) (pe_op op_cat (pv 1) (pe_lst (pa_cons (Eb.pe_errK Y.NoOrder.1 Y.NoOrder.2 hr (by decide) (pv 0)) (pa_cons (Eb.pe_err Y.Parted.1 Y.Parted.2 hr (by decide) (pa_cons (pv 0) pa_nil)) pa_nil)))))
  (pss_one (ps_ret (pe_op op_cat (pv 1) (pe_lst (pa_cons (Eb.pe_errK Y.Used.1 Y.Used.2 hr (by decide) (pv 0)) (pa_cons (Eb.pe_errK Y.OutOfStep.1 Y.OutOfStep.2 hr (by decide) (pv 0)) (pa_cons (Eb.pe_errK Y.EditFailed.1 Y.EditFailed.2 hr (by decide) (pv 0)) (pa_cons (Eb.pe_errK Y.TooMany.1 Y.TooMany.2 hr (by decide) (pv 0)) pa_nil)))))))))))))), ?_⟩
    with_reducible refine Rd.seq ?_
    with_reducible refine Rd.asg ?_
    with_reducible refine Rd.lst ?_
    refine mks_go (v := v) (cs := [(C 0, "value"), (C 1, "operation"), (C 2, "value"), (C 3, "value"), (C 4, "place")]) ?h1 ?k1
    case h1 => repeat (first | exact Eb.mks_nil | refine Eb.mks_cons rfl ?_)
    case k1 =>
    intro ys H1 s1 pr
    refine ⟨by rw [← Rd.pair_len pr]; exact Rd.sz (by simp), fun p hp => ?_⟩
    have st := lstE s1 pr hp
    clear pr s1 hp
    revert st
    generalize upd H1 p (.lst ys) = H2
    intro st
    clear H1 ys
    with_reducible refine Rd.gname ?_
    with_reducible refine Rd.seq ?_
    with_reducible refine Rd.asg ?_
    with_reducible refine Rd.op ?_
    with_reducible refine Rd.var rfl ?_
    with_reducible refine Rd.lst ?_
    refine mks_go (v := v) (cs := [(C 5, "method"), (C 6, "value"), (C 7, "value"), (C 8, "value"), (C 9, "index")]) ?h1 ?k1
    case h1 => repeat (first | exact Eb.mks_nil | refine Eb.mks_cons rfl ?_)
    case k1 =>
    intro ys H1 s1 pr
    refine ⟨by rw [← Rd.pair_len pr]; exact Rd.sz (by simp), fun q hq => ?_⟩
    refine catE st s1 pr hq (by simp) fun r H3 st3 => ?_
    clear st s1 pr hq
    revert st3
    generalize H3 = H2
    intro st
    clear H1 H3 q ys
    with_reducible refine Rd.gname ?_
    with_reducible refine Rd.seq ?_
    with_reducible refine Rd.asg ?_
    with_reducible refine Rd.op ?_
    with_reducible refine Rd.var rfl ?_
    with_reducible refine Rd.lst ?_
    refine mks_go (v := v) (cs := [(C 10, "value"), (C 11, "row"), (C 12, "value"), (C 13, "index"), (C 14, "method")]) ?h1 ?k1
    case h1 => repeat (first | exact Eb.mks_nil | refine Eb.mks_cons rfl ?_)
    case k1 =>
    intro ys H1 s1 pr
    refine ⟨by rw [← Rd.pair_len pr]; exact Rd.sz (by simp), fun q hq => ?_⟩
    refine catE st s1 pr hq (by simp) fun r H3 st3 => ?_
    clear st s1 pr hq
    revert st3
    generalize H3 = H2
    intro st
    clear H1 H3 q ys
    with_reducible refine Rd.gname ?_
    with_reducible refine Rd.seq ?_
    with_reducible refine Rd.asg ?_
    with_reducible refine Rd.op ?_
    with_reducible refine Rd.var rfl ?_
    with_reducible refine Rd.lst ?_
    refine mks_go (v := v) (cs := [(C 15, "value"), (C 16, "value"), (C 17, "index"), (C 18, "index")]) ?h1 ?k1
    case h1 => repeat (first | exact Eb.mks_nil | refine Eb.mks_cons rfl ?_)
    case k1 =>
    intro ys H1 s1 pr
    refine ⟨by rw [← Rd.pair_len pr]; exact Rd.sz (by simp), fun q hq => ?_⟩
    refine catE st s1 pr hq (by simp) fun r H3 st3 => ?_
    clear st s1 pr hq
    revert st3
    generalize H3 = H2
    intro st
    clear H1 H3 q ys
    with_reducible refine Rd.gname ?_
    with_reducible refine Rd.seq ?_
    with_reducible refine Rd.asg ?_
    with_reducible refine Rd.op ?_
    with_reducible refine Rd.var rfl ?_
    with_reducible refine Rd.lst ?_
    refine mks_go (v := v) (cs := [(C 19, "value"), (C 20, "index"), (C 21, "line"), (C 22, "name"), (C 23, "asked")]) ?h1 ?k1
    case h1 => repeat (first | exact Eb.mks_nil | refine Eb.mks_cons rfl ?_)
    case k1 =>
    intro ys H1 s1 pr
    refine ⟨by rw [← Rd.pair_len pr]; exact Rd.sz (by simp), fun q hq => ?_⟩
    refine catE st s1 pr hq (by simp) fun r H3 st3 => ?_
    clear st s1 pr hq
    revert st3
    generalize H3 = H2
    intro st
    clear H1 H3 q ys
    with_reducible refine Rd.gname ?_
    with_reducible refine Rd.seq ?_
    with_reducible refine Rd.asg ?_
    with_reducible refine Rd.op ?_
    with_reducible refine Rd.var rfl ?_
    with_reducible refine Rd.lst ?_
    refine mks_go (v := v) (cs := [(C 24, "name"), (C 25, "script")]) ?h1 ?k1
    case h1 => repeat (first | exact Eb.mks_nil | refine Eb.mks_cons rfl ?_)
    case k1 =>
    intro ys H1 s1 pr
    refine ⟨by rw [← Rd.pair_len pr]; exact Rd.sz (by simp), fun q hq => ?_⟩
    refine catE st s1 pr hq (by simp) fun r H3 st3 => ?_
    clear st s1 pr hq
    revert st3
    generalize H3 = H2
    intro st
    clear H1 H3 q ys
    with_reducible refine Rd.gname ?_
    with_reducible refine Rd.ret ?_
    with_reducible refine Rd.op ?_
    with_reducible refine Rd.var rfl ?_
    with_reducible refine Rd.lst ?_
    refine mks_go (v := v) (cs := [(C 26, "name"), (C 27, "asked"), (C 28, "index"), (C 29, "limit")]) ?h1 ?k1
    case h1 => repeat (first | exact Eb.mks_nil | refine Eb.mks_cons rfl ?_)
    case k1 =>
    intro ys H1 s1 pr
    refine ⟨by rw [← Rd.pair_len pr]; exact Rd.sz (by simp), fun q hq => ?_⟩
    refine catE st s1 pr hq (by simp) fun r H3 st3 => ?_
    clear st s1 pr hq
    revert st3
    generalize H3 = H2
    intro st
    clear H1 H3 q ys
    exact k _ _ st
end
end Ab
namespace Ab
open PySem.Spec PyProof.Rows
/-- a new list, the heap grown -/
def NewL (H : Hp) (p : Addr) (xs : List V) (H1 : Hp) : Prop := H p = none ∧ Same H H1 ∧ H1 p = some (.lst xs)
theorem newL {H : Hp} {p : Addr} {xs : List V} (hp : H p = none) : NewL H p xs (upd H p (.lst xs)) := ⟨hp, Rd.sNew hp, upd_same⟩
theorem newLm {H H1 : Hp} {p : Addr} {xs : List V} (s : Same H H1) (hp : H1 p = none) : NewL H p xs (upd H1 p (.lst xs)) := ⟨none_back s hp, s.trans (Rd.sNew hp), upd_same⟩
theorem catL {H H1 : Hp} {p q : Addr} {xs ys : List V} {Q : VK} (st : NewL H p xs H1) (hq : H1 q = none) (l : xs.length + ys.length ≤ 1000) (k : ∀ r H3, NewL H r (xs ++ ys) H3 → Q (.ref r) H3) : rCat (.ref p) (.ref q) (upd H1 q (.lst ys)) Q := by
  obtain ⟨hp, s, e⟩ := st
  exact Eb.catS (Rd.sNew hq _ _ e) upd_same (by omega) fun r H3 hr s3 e3 => k r H3 ⟨none_back (s.trans (Rd.sNew hq)) hr, (s.trans (Rd.sNew hq)).trans s3, e3⟩
theorem catLM {H H1 : Hp} {p q : Addr} {xs ys : List V} {Q : VK} (st : NewL H p xs H1) (hq : H1 q = none) (l : xs.length + ys.length ≤ 1000) (k : ∀ r H3, NewL H r (xs ++ ys) H3 → r ≠ sysModules → Q (.ref r) H3) : Eb.rCatM (.ref p) (.ref q) (upd H1 q (.lst ys)) Q := by
  obtain ⟨hp, s, e⟩ := st
  have s2 := s.trans (Rd.sNew (o := .lst ys) hq)
  exact ⟨p, q, xs, ys, rfl, rfl, Rd.sNew hq _ _ e, upd_same, Nat.le_trans l (by decide), fun r hr ne => k r _ ⟨none_back s2 hr, s2.trans (Rd.sNew hr), upd_same⟩ ne⟩
theorem efs_go {v : V} {σ : L2.St} {m : Nat} {as : TA} {H : Hp} {QA : List V → Hp → Prop} (h : Eb.Efs v σ m H as) (k : QA (List.replicate m v) H) : as σ H QA := h QA k
theorem iss_go {y : V} {σ : L2.St} {bs : List Bool} {as : TA} {H : Hp} {QA : List V → Hp → Prop} (h : Eb.Iss y σ bs H as) (k : QA (bs.map V.bl) H) : as σ H QA := h QA k
theorem efs_pr {K : PySem.W.Frag} {σ : L2.St} {H H0 : Hp} {v : V} {p : Addr} {ys : List V} {cs : List (Addr × Str)} {C : Addr} {f : Str} {as : TA} {n m j : Nat} {i : Int} (hv : σ[n]? = some (some (.ref p))) (hp : SqL K H0 p ys) (s : Same H0 H) (pr : Paired (fun c y => Eb.ErAt v c y H0) cs ys)
    (ij : i = (j : Int)) (hc : cs[j]? = some (C, f)) (T : XfC K C) (no : PySem.W.findIn K (.ref C) f = some none) (t : Eb.Efs v σ m H as) : Eb.Efs v σ (m + 1) H (tCons (Eb.tEf K f (tOp (rIxL K) (tVar n) (tC (.int i)))) as) := by
  obtain ⟨y, hy, e⟩ : ∃ y, ys[j]? = some y ∧ Eb.ErAt v (C, f) y H0 := by
    have hj : j < cs.length := (List.getElem?_eq_some_iff.mp hc).1
    have hl := Rd.pair_len pr
    have hy : ys[j]? = some ys[j] := List.getElem?_eq_getElem (by omega)
    obtain ⟨c, hc', e⟩ := Rd.pair_get pr hy
    rw [hc] at hc'
    cases hc'
    exact ⟨_, hy, e⟩
  exact Eb.efs_cons (c := (C, f)) hv (s.seq hp) (by rw [ij]; exact Rd.atN (Int.natCast_nonneg j) (by simpa using hy)) (Eb.erStay s e) T no t
/-- what _law_fields keeps -/
def spFields (K : PySem.W.Frag) (C : Nat → Addr) : Sp := fun vs H Q _ => ∃ p ys v, vs = [.ref p] ∧ SqL K H p ys ∧ Paired (fun c y => Eb.ErAt v c y H) (clsF C) ys ∧ ∀ r H1, NewL H r (List.replicate 30 v) H1 → r ≠ sysModules → Q (.ref r) H1
/-- an error of the i-th class -/
def ErI (C : Nat → Addr) (i : Nat) (y : V) (H : Hp) : Prop := i < 30 ∧ ∃ a d fs, y = .ref a ∧ H a = some (exo a (C i) (some d)) ∧ H d = some (.xd fs)
def spKinds (C : Nat → Addr) : Sp := fun vs H Q _ => ∃ y i, vs = [y] ∧ ErI C i y H ∧ ∀ r H1, NewL H r (((List.range 30).map fun j => decide (i = j)).map V.bl) H1 → Q (.ref r) H1
def aboveL (i : Nat) : List Bool := decide (i < 22) :: aboveB.map fun p => p.2 i
def spAbove (C : Nat → Addr) : Sp := fun vs H Q _ => ∃ y i, vs = [y] ∧ ErI C i y H ∧ ∀ r H1, NewL H r ((aboveL i).map V.bl) H1 → Q (.ref r) H1
def spDue : Sp := fun vs H Q _ => ∃ i : Nat, vs = [.int i] ∧ i < 30 ∧ ∀ r H1, NewL H r ((aboveL i).map V.bl) H1 → Q (.ref r) H1
section
variable {P : Program} {w : World} {K : PySem.W.Frag} {mg : Str → Option Value} {base : Heap}
abbrev sL_fields : Stmt := top 38
abbrev nL_fields : List Str := ["_law_made", "_law_found"]
theorem scL_fields : FnScope nL_fields ["_law_made"] (defScope sL_fields) := ⟨rfl, rfl, rfl, by decide +kernel, rfl, by decide +kernel, by decide +kernel⟩
theorem ok_fields {C : Nat → Addr} (T : Txt K mg) (Y : YS P w K mg base C) (D : DefAt K mg "_law_fields" sL_fields ["_law_made"]) : CalG P w K mg base 1 "_law_fields" (spFields K C) := by
  refine D.by scL_fields (fun vs H Q E h => ?_) (fun f cd A hg outer s H vs Q E hr h => ?_)
  · obtain ⟨p, ys, v, rfl, _⟩ := h
    rfl
  · obtain ⟨p, ys, v, rfl, hp, pr, k⟩ := h
    refine ⟨_, (pss_cons (ps_set (i := 1) scL_fields.nd rfl (Or.inl rfl) (pe_lst (pa_cons (Eb.pe_ef (K := K) rfl (pe_ix (r := rIxL K) ix_list (pv 0) pe_int (fun _ _ => rfl))) (pa_cons (Eb.pe_ef (K := K) rfl (pe_ix (r := rIxL K) ix_list (pv 0) pe_int (fun _ _ => rfl))) (pa_cons (Eb.pe_ef (K := K) rfl (pe_ix (r := rIxL K) ix_list (pv 0) pe_int (fun _ _ => rfl))) (pa_cons (Eb.pe_ef (K := K) rfl (pe_ix (r := rIxL K) ix_list (pv 0) pe_int (fun _ _ => rfl))) (pa_cons (Eb.pe_ef (K := K) rfl (pe_ix (r := rIxL K) ix_list (pv 0) pe_int (fun _ _ => rfl))) (pa_cons (Eb.pe_ef (K := K) rfl (pe_ix (r := rIxL K) ix_list (pv 0) pe_int (fun _ _ => rfl))) pa_nil))))))))
  (pss_cons (ps_set (i := 1) scL_fields.nd rfl (Or.inl rfl) (pe_op Eb.op_catM (pv 1) (pe_lst (pa_cons (Eb.pe_ef (K := K) rfl (pe_ix (r := rIxL K) ix_list (pv 0) pe_int (fun _ _ => rfl))) (pa_cons (Eb.pe_ef (K := K) rfl (pe_ix (r := rIxL K) ix_list (pv 0) pe_int (fun _ _ => rfl))) (pa_cons (Eb.pe_ef (K := K) rfl (pe_ix (r := rIxL K) ix_list (pv 0) pe_int (fun _ _ => rfl))) (pa_cons (Eb.pe_ef (K := K) rfl (pe_ix (r := rIxL K) ix_list (pv 0) pe_int (fun _ _ => rfl))) (pa_cons (Eb.pe_ef (K := K) rfl (pe_ix (r := rIxL K) ix_list (pv 0) pe_int (fun _ _ => rfl))) (pa_cons (Eb.pe_ef (K := K) rfl (pe_ix (r := rIxL K) ix_list (pv 0) pe_int (fun _ _ => rfl))) pa_nil)))))))))
  (pss_cons (ps_set (i := 1) scL_fields.nd rfl (Or.inl rfl) (pe_op Eb.op_catM (pv 1) (pe_lst (pa_cons (Eb.pe_ef (K := K) rfl (pe_ix (r := rIxL K) ix_list (pv 0) pe_int (fun _ _ => rfl))) (pa_cons (Eb.pe_ef (K := K) rfl (pe_ix (r := rIxL K) ix_list (pv 0) pe_int (fun _ _ => rfl))) (pa_cons (Eb.pe_ef (K := K) rfl (pe_ix (r := rIxL K) ix_list (pv 0) pe_int (fun _ _ => rfl))) (pa_cons (Eb.pe_ef (K := K) rfl (pe_ix (r := rIxL K) ix_list (pv 0) pe_int (fun _ _ => rfl))) (pa_cons (Eb.pe_ef (K := K) rfl (pe_ix (r := rIxL K) ix_list (pv 0) pe_int (fun _ _ => rfl))) (pa_cons (Eb.pe_ef (K := K) rfl (pe_ix (r := rIxL K) ix_list (pv 0) pe_int (fun _ _ => rfl))) pa_nil)))))))))
  (pss_cons (ps_set (i := 1) scL_fields.nd rfl (Or.inl rfl) (pe_op Eb.op_catM (pv 1) (pe_lst (pa_cons (Eb.pe_ef (K := K) rfl (pe_ix (r := rIxL K) ix_list (pv 0) pe_int (fun _ _ => rfl))) (pa_cons (Eb.pe_ef (K := K) rfl (pe_ix (r := rIxL K) ix_list (pv 0) pe_int (fun _ _ => rfl))) (pa_cons (Eb.pe_ef (K := K) rfl (pe_ix (r := rIxL K) ix_list (pv 0) pe_int (fun _ _ => rfl))) (pa_cons (Eb.pe_ef (K := K) rfl (pe_ix (r := rIxL K) ix_list (pv 0) pe_int (fun _ _ => rfl))) (pa_cons (Eb.pe_ef (K := K) rfl (pe_ix (r := rIxL K) ix_list (pv 0) pe_int (fun _ _ => rfl))) (pa_cons (Eb.pe_ef (K := K) rfl (pe_ix (r := rIxL K) ix_list (pv 0) pe_int (fun _ _ => rfl))) pa_nil)))))))))
  (pss_cons (ps_set (i := 1) scL_fields.nd rfl (Or.inl rfl) (pe_op Eb.op_catM (pv 1) (pe_lst (pa_cons (Eb.pe_ef (K := K) rfl (pe_ix (r := rIxL K) ix_list (pv 0) pe_int (fun _ _ => rfl))) (pa_cons (Eb.pe_ef (K := K) rfl (pe_ix (r := rIxL K) ix_list (pv 0) pe_int (fun _ _ => rfl))) (pa_cons (Eb.pe_ef (K := K) rfl (pe_ix (r := rIxL K) ix_list (pv 0) pe_int (fun _ _ => rfl))) (pa_cons (Eb.pe_ef (K := K) rfl (pe_ix (r := rIxL K) ix_list (pv 0) pe_int (fun _ _ => rfl))) (pa_cons (Eb.pe_ef (K := K) rfl (pe_ix (r := rIxL K) ix_list (pv 0) pe_int (fun _ _ => rfl))) (pa_cons (Eb.pe_ef (K := K) rfl (pe_ix (r := rIxL K) ix_list (pv 0) pe_int (fun _ _ => rfl))) pa_nil)))))))))
  (pss_one (ps_ret (pv 1)))))))), ?_⟩
    with_reducible refine Rd.seq ?_
    with_reducible refine Rd.asg ?_
    with_reducible refine Rd.lst ?_
    refine efs_go (efs_pr (j := 0) rfl hp (fun _ _ z => z) pr rfl rfl Y.NoName.1.xf Y.NoName.1.no (efs_pr (j := 1) rfl hp (fun _ _ z => z) pr rfl rfl Y.NoWays.1.xf Y.NoWays.1.no (efs_pr (j := 2) rfl hp (fun _ _ z => z) pr rfl rfl Y.NoFlag.1.xf Y.NoFlag.1.no (efs_pr (j := 3) rfl hp (fun _ _ z => z) pr rfl rfl Y.NoBook.1.xf Y.NoBook.1.no (efs_pr (j := 4) rfl hp (fun _ _ z => z) pr rfl rfl Y.NoBody.1.xf Y.NoBody.1.no (efs_pr (j := 5) rfl hp (fun _ _ z => z) pr rfl rfl Y.NoEntry.1.xf Y.NoEntry.1.no Eb.efs_nil)))))) ?_
    refine ⟨Rd.sz (by simp), fun q hq => ?_⟩
    have st := newL (xs := List.replicate 6 v) hq
    revert st
    generalize upd H q (.lst (List.replicate 6 v)) = H1
    intro st
    clear hq
    with_reducible refine Rd.gname ?_
    with_reducible refine Rd.seq ?_
    with_reducible refine Rd.asg ?_
    with_reducible refine Rd.op ?_
    with_reducible refine Rd.var rfl ?_
    with_reducible refine Rd.lst ?_
    refine efs_go (efs_pr (j := 6) rfl hp st.2.1 pr rfl rfl Y.NoTable.1.xf Y.NoTable.1.no (efs_pr (j := 7) rfl hp st.2.1 pr rfl rfl Y.NoOperand.1.xf Y.NoOperand.1.no (efs_pr (j := 8) rfl hp st.2.1 pr rfl rfl Y.NoScene.1.xf Y.NoScene.1.no (efs_pr (j := 9) rfl hp st.2.1 pr rfl rfl Y.NoScript.1.xf Y.NoScript.1.no (efs_pr (j := 10) rfl hp st.2.1 pr rfl rfl Y.NoNumber.1.xf Y.NoNumber.1.no (efs_pr (j := 11) rfl hp st.2.1 pr rfl rfl Y.NoMachine.1.xf Y.NoMachine.1.no Eb.efs_nil)))))) ?_
    refine ⟨Rd.sz (by simp), fun q hq => ?_⟩
    refine catLM st hq (by simp) fun r H2 st2 ne => ?_
    rw [List.replicate_append_replicate] at st2
    clear st hq
    revert st2
    generalize H2 = H1
    intro st
    clear H2
    with_reducible refine Rd.gname ?_
    with_reducible refine Rd.seq ?_
    with_reducible refine Rd.asg ?_
    with_reducible refine Rd.op ?_
    with_reducible refine Rd.var rfl ?_
    with_reducible refine Rd.lst ?_
    refine efs_go (efs_pr (j := 12) rfl hp st.2.1 pr rfl rfl Y.NoPair.1.xf Y.NoPair.1.no (efs_pr (j := 13) rfl hp st.2.1 pr rfl rfl Y.NoPaper.1.xf Y.NoPaper.1.no (efs_pr (j := 14) rfl hp st.2.1 pr rfl rfl Y.NotNamed.1.xf Y.NotNamed.1.no (efs_pr (j := 15) rfl hp st.2.1 pr rfl rfl Y.NoRelation.1.xf Y.NoRelation.1.no (efs_pr (j := 16) rfl hp st.2.1 pr rfl rfl Y.NoAgreement.1.xf Y.NoAgreement.1.no (efs_pr (j := 17) rfl hp st.2.1 pr rfl rfl Y.NoStock.1.xf Y.NoStock.1.no Eb.efs_nil)))))) ?_
    refine ⟨Rd.sz (by simp), fun q hq => ?_⟩
    refine catLM st hq (by simp) fun r H2 st2 ne => ?_
    rw [List.replicate_append_replicate] at st2
    clear st hq
    revert st2
    generalize H2 = H1
    intro st
    clear H2
    with_reducible refine Rd.gname ?_
    with_reducible refine Rd.seq ?_
    with_reducible refine Rd.asg ?_
    with_reducible refine Rd.op ?_
    with_reducible refine Rd.var rfl ?_
    with_reducible refine Rd.lst ?_
    refine efs_go (efs_pr (j := 18) rfl hp st.2.1 pr rfl rfl Y.NoWish.1.xf Y.NoWish.1.no (efs_pr (j := 19) rfl hp st.2.1 pr rfl rfl Y.NoChoice.1.xf Y.NoChoice.1.no (efs_pr (j := 20) rfl hp st.2.1 pr rfl rfl Y.NoEdit.1.xf Y.NoEdit.1.no (efs_pr (j := 21) rfl hp st.2.1 pr rfl rfl Y.NoNote.1.xf Y.NoNote.1.no (efs_pr (j := 22) rfl hp st.2.1 pr rfl rfl Y.NoClass.1.xf Y.NoClass.1.no (efs_pr (j := 23) rfl hp st.2.1 pr rfl rfl Y.Unanswered.1.xf Y.Unanswered.1.no Eb.efs_nil)))))) ?_
    refine ⟨Rd.sz (by simp), fun q hq => ?_⟩
    refine catLM st hq (by simp) fun r H2 st2 ne => ?_
    rw [List.replicate_append_replicate] at st2
    clear st hq
    revert st2
    generalize H2 = H1
    intro st
    clear H2
    with_reducible refine Rd.gname ?_
    with_reducible refine Rd.seq ?_
    with_reducible refine Rd.asg ?_
    with_reducible refine Rd.op ?_
    with_reducible refine Rd.var rfl ?_
    with_reducible refine Rd.lst ?_
    refine efs_go (efs_pr (j := 24) rfl hp st.2.1 pr rfl rfl Y.NoOrder.1.xf Y.NoOrder.1.no (efs_pr (j := 25) rfl hp st.2.1 pr rfl rfl Y.Parted.1.xf Y.Parted.1.no (efs_pr (j := 26) rfl hp st.2.1 pr rfl rfl Y.Used.1.xf Y.Used.1.no (efs_pr (j := 27) rfl hp st.2.1 pr rfl rfl Y.OutOfStep.1.xf Y.OutOfStep.1.no (efs_pr (j := 28) rfl hp st.2.1 pr rfl rfl Y.EditFailed.1.xf Y.EditFailed.1.no (efs_pr (j := 29) rfl hp st.2.1 pr rfl rfl Y.TooMany.1.xf Y.TooMany.1.no Eb.efs_nil)))))) ?_
    refine ⟨Rd.sz (by simp), fun q hq => ?_⟩
    refine catLM st hq (by simp) fun r H2 st2 ne => ?_
    rw [List.replicate_append_replicate] at st2
    clear st hq
    revert st2
    generalize H2 = H1
    intro st
    clear H2
    with_reducible refine Rd.gname ?_
    with_reducible refine Rd.ret ?_
    with_reducible refine Rd.var rfl ?_
    exact k _ _ st ne
abbrev sL_kinds : Stmt := top 39
abbrev nL_kinds : List Str := ["_law_e", "_law_found"]
theorem scL_kinds : FnScope nL_kinds ["_law_e"] (defScope sL_kinds) := ⟨rfl, rfl, rfl, by decide +kernel, rfl, by decide +kernel, by decide +kernel⟩
theorem ok_kinds {CA : Addr} {C : Nat → Addr} (T : Txt K mg) (gA : mg "AnswerError" = some (.ref CA)) (Y : YS P w K mg base C) (ic : ∀ i, i < 30 → ExcC K (C i)) (kk : Kits K CA C) (D : DefAt K mg "_law_kinds" sL_kinds ["_law_e"]) : CalG P w K mg base 1 "_law_kinds" (spKinds C) := by
  refine D.by scL_kinds (fun vs H Q E h => ?_) (fun f cd A hg outer s H vs Q E hr h => ?_)
  · obtain ⟨y, i, rfl, _⟩ := h
    rfl
  · obtain ⟨y, i, rfl, ⟨hi, a, d, fs, rfl, ea, ed⟩, k⟩ := h
    refine ⟨_, (pss_cons (ps_set (i := 1) scL_kinds.nd rfl (Or.inl rfl) (pe_lst (pa_cons (pe_callB (r := Eb.rIsV K) Eb.call_isV (by rfl) T.isinstance (by decide +kernel) (pa_cons (pv 0) (pa_cons (pe_glob (v := .ref (C 0)) (by rfl) Y.NoName.1.g rfl) pa_nil))) (pa_cons (pe_callB (r := Eb.rIsV K) Eb.call_isV (by rfl) T.isinstance (by decide +kernel) (pa_cons (pv 0) (pa_cons (pe_glob (v := .ref (C 1)) (by rfl) Y.NoWays.1.g rfl) pa_nil))) (pa_cons (pe_callB (r := Eb.rIsV K) Eb.call_isV (by rfl) T.isinstance (by decide +kernel) (pa_cons (pv 0) (pa_cons (pe_glob (v := .ref (C 2)) (by rfl) Y.NoFlag.1.g rfl) pa_nil))) (pa_cons (pe_callB (r := Eb.rIsV K) Eb.call_isV (by rfl) T.isinstance (by decide +kernel) (pa_cons (pv 0) (pa_cons (pe_glob (v := .ref (C 3)) (by rfl) Y.NoBook.1.g rfl) pa_nil))) pa_nil))))))
  (pss_cons (ps_set (i := 1) scL_kinds.nd rfl (Or.inl rfl) (pe_op op_cat (pv 1) (pe_lst (pa_cons (pe_callB (r := Eb.rIsV K) Eb.call_isV (by rfl) T.isinstance (by decide +kernel) (pa_cons (pv 0) (pa_cons (pe_glob (v := .ref (C 4)) (by rfl) Y.NoBody.1.g rfl) pa_nil))) (pa_cons (pe_callB (r := Eb.rIsV K) Eb.call_isV (by rfl) T.isinstance (by decide +kernel) (pa_cons (pv 0) (pa_cons (pe_glob (v := .ref (C 5)) (by rfl) Y.NoEntry.1.g rfl) pa_nil))) (pa_cons (pe_callB (r := Eb.rIsV K) Eb.call_isV (by rfl) T.isinstance (by decide +kernel) (pa_cons (pv 0) (pa_cons (pe_glob (v := .ref (C 6)) (by rfl) Y.NoTable.1.g rfl) pa_nil))) (pa_cons (pe_callB (r := Eb.rIsV K) Eb.call_isV (by rfl) T.isinstance (by decide +kernel) (pa_cons (pv 0) (pa_cons (pe_glob (v := .ref (C 7)) (by rfl) Y.NoOperand.1.g rfl) pa_nil))) pa_nil)))))))
  (pss_cons (ps_set (i := 1) scL_kinds.nd rfl (Or.inl rfl) (pe_op op_cat (pv 1) (pe_lst (pa_cons (pe_callB (r := Eb.rIsV K) Eb.call_isV (by rfl) T.isinstance (by decide +kernel) (pa_cons (pv 0) (pa_cons (pe_glob (v := .ref (C 8)) (by rfl) Y.NoScene.1.g rfl) pa_nil))) (pa_cons (pe_callB (r := Eb.rIsV K) Eb.call_isV (by rfl) T.isinstance (by decide +kernel) (pa_cons (pv 0) (pa_cons (pe_glob (v := .ref (C 9)) (by rfl) Y.NoScript.1.g rfl) pa_nil))) (pa_cons (pe_callB (r := Eb.rIsV K) Eb.call_isV (by rfl) T.isinstance (by decide +kernel) (pa_cons (pv 0) (pa_cons (pe_glob (v := .ref (C 10)) (by rfl) Y.NoNumber.1.g rfl) pa_nil))) (pa_cons (pe_callB (r := Eb.rIsV K) Eb.call_isV (by rfl) T.isinstance (by decide +kernel) (pa_cons (pv 0) (pa_cons (pe_glob (v := .ref (C 11)) (by rfl) Y.NoMachine.1.g rfl) pa_nil))) pa_nil)))))))
  (pss_cons (ps_set (i := 1) scL_kinds.nd rfl (Or.inl rfl) (pe_op op_cat (pv 1) (pe_lst (pa_cons (pe_callB (r := Eb.rIsV K) Eb.call_isV (by rfl) T.isinstance (by decide +kernel) (pa_cons (pv 0) (pa_cons (pe_glob (v := .ref (C 12)) (by rfl) Y.NoPair.1.g rfl) pa_nil))) (pa_cons (pe_callB (r := Eb.rIsV K) Eb.call_isV (by rfl) T.isinstance (by decide +kernel) (pa_cons (pv 0) (pa_cons (pe_glob (v := .ref (C 13)) (by rfl) Y.NoPaper.1.g rfl) pa_nil))) (pa_cons (pe_callB (r := Eb.rIsV K) Eb.call_isV (by rfl) T.isinstance (by decide +kernel) (pa_cons (pv 0) (pa_cons (pe_glob (v := .ref (C 14)) (by rfl) Y.NotNamed.1.g rfl) pa_nil))) (pa_cons (pe_callB (r := Eb.rIsV K) Eb.call_isV (by rfl) T.isinstance (by decide +kernel) (pa_cons (pv 0) (pa_cons (pe_glob (v := .ref (C 15)) (by rfl) Y.NoRelation.1.g rfl) pa_nil))) pa_nil)))))))
  (pss_cons (ps_set (i := 1) scL_kinds.nd rfl (Or.inl rfl) (pe_op op_cat (pv 1) (pe_lst (pa_cons (pe_callB (r := Eb.rIsV K) Eb.call_isV (by rfl) T.isinstance (by decide +kernel) (pa_cons (pv 0) (pa_cons (pe_glob (v := .ref (C 16)) (by rfl) Y.NoAgreement.1.g rfl) pa_nil))) (pa_cons (pe_callB (r := Eb.rIsV K) Eb.call_isV (by rfl) T.isinstance (by decide +kernel) (pa_cons (pv 0) (pa_cons (pe_glob (v := .ref (C 17)) (by rfl) Y.NoStock.1.g rfl) pa_nil))) (pa_cons (pe_callB (r := Eb.rIsV K) Eb.call_isV (by rfl) T.isinstance (by decide +kernel) (pa_cons (pv 0) (pa_cons (pe_glob (v := .ref (C 18)) (by rfl) Y.NoWish.1.g rfl) pa_nil))) (pa_cons (pe_callB (r := Eb.rIsV K) Eb.call_isV (by rfl) T.isinstance (by decide +kernel) (pa_cons (pv 0) (pa_cons (pe_glob (v := .ref (C 19)) (by rfl) Y.NoChoice.1.g rfl) pa_nil))) pa_nil)))))))
  (pss_cons (ps_set (i := 1) scL_kinds.nd rfl (Or.inl rfl) (pe_op op_cat (pv 1) (pe_lst (pa_cons (pe_callB (r := Eb.rIsV K) Eb.call_isV (by rfl) T.isinstance (by decide +kernel) (pa_cons (pv 0) (pa_cons (pe_glob (v := .ref (C 20)) (by rfl) Y.NoEdit.1.g rfl) pa_nil))) (pa_cons (pe_callB (r := Eb.rIsV K) Eb.call_isV (by rfl) T.isinstance (by decide +kernel) (pa_cons (pv 0) (pa_cons (pe_glob (v := .ref (C 21)) (by rfl) Y.NoNote.1.g rfl) pa_nil))) (pa_cons (pe_callB (r := Eb.rIsV K) Eb.call_isV (by rfl) T.isinstance (by decide +kernel) (pa_cons (pv 0) (pa_cons (pe_glob (v := .ref (C 22)) (by rfl) Y.NoClass.1.g rfl) pa_nil))) (pa_cons (pe_callB (r := Eb.rIsV K) Eb.call_isV (by rfl) T.isinstance (by decide +kernel) (pa_cons (pv 0) (pa_cons (pe_glob (v := .ref (C 23)) (by rfl) Y.Unanswered.1.g rfl) pa_nil))) pa_nil)))))))
  (pss_cons (ps_set (i := 1) scL_kinds.nd rfl (Or.inl rfl) (pe_op op_cat (pv 1) (pe_lst (pa_cons (pe_callB (r := Eb.rIsV K) Eb.call_isV (by rfl) T.isinstance (by decide +kernel) (pa_cons (pv 0) (pa_cons (pe_glob (v := .ref (C 24)) (by rfl) Y.NoOrder.1.g rfl) pa_nil))) (pa_cons (pe_callB (r := Eb.rIsV K) Eb.call_isV (by rfl) T.isinstance (by decide +kernel) (pa_cons (pv 0) (pa_cons (pe_glob (v := .ref (C 25)) (by rfl) Y.Parted.1.g rfl) pa_nil))) (pa_cons (pe_callB (r := Eb.rIsV K) Eb.call_isV (by rfl) T.isinstance (by decide +kernel) (pa_cons (pv 0) (pa_cons (pe_glob (v := .ref (C 26)) (by rfl) Y.Used.1.g rfl) pa_nil))) (pa_cons (pe_callB (r := Eb.rIsV K) Eb.call_isV (by rfl) T.isinstance (by decide +kernel) (pa_cons (pv 0) (pa_cons (pe_glob (v := .ref (C 27)) (by rfl) Y.OutOfStep.1.g rfl) pa_nil))) pa_nil)))))))
  (pss_one (ps_ret (pe_op op_cat (pv 1) (pe_lst (pa_cons (pe_callB (r := Eb.rIsV K) Eb.call_isV (by rfl) T.isinstance (by decide +kernel) (pa_cons (pv 0) (pa_cons (pe_glob (v := .ref (C 28)) (by rfl) Y.EditFailed.1.g rfl) pa_nil))) (pa_cons (pe_callB (r := Eb.rIsV K) Eb.call_isV (by rfl) T.isinstance (by decide +kernel) (pa_cons (pv 0) (pa_cons (pe_glob (v := .ref (C 29)) (by rfl) Y.TooMany.1.g rfl) pa_nil))) pa_nil))))))))))))), ?_⟩
    with_reducible refine Rd.seq ?_
    with_reducible refine Rd.asg ?_
    with_reducible refine Rd.lst ?_
    refine iss_go (Eb.iss_cons rfl ea ed (ic i hi) (.own _) (kk.own i 0 hi (by decide)) (Eb.iss_cons rfl ea ed (ic i hi) (.own _) (kk.own i 1 hi (by decide)) (Eb.iss_cons rfl ea ed (ic i hi) (.own _) (kk.own i 2 hi (by decide)) (Eb.iss_cons rfl ea ed (ic i hi) (.own _) (kk.own i 3 hi (by decide)) Eb.iss_nil)))) ?_
    refine ⟨Rd.sz (by simp), fun q hq => ?_⟩
    have st := newL (xs := (List.map V.bl [decide (i = 0), decide (i = 1), decide (i = 2), decide (i = 3)])) hq
    revert st
    generalize upd H q (.lst (List.map V.bl [decide (i = 0), decide (i = 1), decide (i = 2), decide (i = 3)])) = H1
    intro st
    clear hq
    with_reducible refine Rd.gname ?_
    with_reducible refine Rd.seq ?_
    with_reducible refine Rd.asg ?_
    with_reducible refine Rd.op ?_
    with_reducible refine Rd.var rfl ?_
    with_reducible refine Rd.lst ?_
    refine iss_go (Eb.iss_cons rfl (st.2.1 _ _ ea) (st.2.1 _ _ ed) (ic i hi) (.own _) (kk.own i 4 hi (by decide)) (Eb.iss_cons rfl (st.2.1 _ _ ea) (st.2.1 _ _ ed) (ic i hi) (.own _) (kk.own i 5 hi (by decide)) (Eb.iss_cons rfl (st.2.1 _ _ ea) (st.2.1 _ _ ed) (ic i hi) (.own _) (kk.own i 6 hi (by decide)) (Eb.iss_cons rfl (st.2.1 _ _ ea) (st.2.1 _ _ ed) (ic i hi) (.own _) (kk.own i 7 hi (by decide)) Eb.iss_nil)))) ?_
    refine ⟨Rd.sz (by simp), fun q hq => ?_⟩
    refine catL st hq (by simp) fun r H2 st2 => ?_
    rw [← List.map_append] at st2
    clear st hq
    revert st2
    generalize H2 = H1
    intro st
    clear H2
    with_reducible refine Rd.gname ?_
    with_reducible refine Rd.seq ?_
    with_reducible refine Rd.asg ?_
    with_reducible refine Rd.op ?_
    with_reducible refine Rd.var rfl ?_
    with_reducible refine Rd.lst ?_
    refine iss_go (Eb.iss_cons rfl (st.2.1 _ _ ea) (st.2.1 _ _ ed) (ic i hi) (.own _) (kk.own i 8 hi (by decide)) (Eb.iss_cons rfl (st.2.1 _ _ ea) (st.2.1 _ _ ed) (ic i hi) (.own _) (kk.own i 9 hi (by decide)) (Eb.iss_cons rfl (st.2.1 _ _ ea) (st.2.1 _ _ ed) (ic i hi) (.own _) (kk.own i 10 hi (by decide)) (Eb.iss_cons rfl (st.2.1 _ _ ea) (st.2.1 _ _ ed) (ic i hi) (.own _) (kk.own i 11 hi (by decide)) Eb.iss_nil)))) ?_
    refine ⟨Rd.sz (by simp), fun q hq => ?_⟩
    refine catL st hq (by simp) fun r H2 st2 => ?_
    rw [← List.map_append] at st2
    clear st hq
    revert st2
    generalize H2 = H1
    intro st
    clear H2
    with_reducible refine Rd.gname ?_
    with_reducible refine Rd.seq ?_
    with_reducible refine Rd.asg ?_
    with_reducible refine Rd.op ?_
    with_reducible refine Rd.var rfl ?_
    with_reducible refine Rd.lst ?_
    refine iss_go (Eb.iss_cons rfl (st.2.1 _ _ ea) (st.2.1 _ _ ed) (ic i hi) (.own _) (kk.own i 12 hi (by decide)) (Eb.iss_cons rfl (st.2.1 _ _ ea) (st.2.1 _ _ ed) (ic i hi) (.own _) (kk.own i 13 hi (by decide)) (Eb.iss_cons rfl (st.2.1 _ _ ea) (st.2.1 _ _ ed) (ic i hi) (.own _) (kk.own i 14 hi (by decide)) (Eb.iss_cons rfl (st.2.1 _ _ ea) (st.2.1 _ _ ed) (ic i hi) (.own _) (kk.own i 15 hi (by decide)) Eb.iss_nil)))) ?_
    refine ⟨Rd.sz (by simp), fun q hq => ?_⟩
    refine catL st hq (by simp) fun r H2 st2 => ?_
    rw [← List.map_append] at st2
    clear st hq
    revert st2
    generalize H2 = H1
    intro st
    clear H2
    with_reducible refine Rd.gname ?_
    with_reducible refine Rd.seq ?_
    with_reducible refine Rd.asg ?_
    with_reducible refine Rd.op ?_
    with_reducible refine Rd.var rfl ?_
    with_reducible refine Rd.lst ?_
    refine iss_go (Eb.iss_cons rfl (st.2.1 _ _ ea) (st.2.1 _ _ ed) (ic i hi) (.own _) (kk.own i 16 hi (by decide)) (Eb.iss_cons rfl (st.2.1 _ _ ea) (st.2.1 _ _ ed) (ic i hi) (.own _) (kk.own i 17 hi (by decide)) (Eb.iss_cons rfl (st.2.1 _ _ ea) (st.2.1 _ _ ed) (ic i hi) (.own _) (kk.own i 18 hi (by decide)) (Eb.iss_cons rfl (st.2.1 _ _ ea) (st.2.1 _ _ ed) (ic i hi) (.own _) (kk.own i 19 hi (by decide)) Eb.iss_nil)))) ?_
    refine ⟨Rd.sz (by simp), fun q hq => ?_⟩
    refine catL st hq (by simp) fun r H2 st2 => ?_
    rw [← List.map_append] at st2
    clear st hq
    revert st2
    generalize H2 = H1
    intro st
    clear H2
    with_reducible refine Rd.gname ?_
    with_reducible refine Rd.seq ?_
    with_reducible refine Rd.asg ?_
    with_reducible refine Rd.op ?_
    with_reducible refine Rd.var rfl ?_
    with_reducible refine Rd.lst ?_
    refine iss_go (Eb.iss_cons rfl (st.2.1 _ _ ea) (st.2.1 _ _ ed) (ic i hi) (.own _) (kk.own i 20 hi (by decide)) (Eb.iss_cons rfl (st.2.1 _ _ ea) (st.2.1 _ _ ed) (ic i hi) (.own _) (kk.own i 21 hi (by decide)) (Eb.iss_cons rfl (st.2.1 _ _ ea) (st.2.1 _ _ ed) (ic i hi) (.own _) (kk.own i 22 hi (by decide)) (Eb.iss_cons rfl (st.2.1 _ _ ea) (st.2.1 _ _ ed) (ic i hi) (.own _) (kk.own i 23 hi (by decide)) Eb.iss_nil)))) ?_
    refine ⟨Rd.sz (by simp), fun q hq => ?_⟩
    refine catL st hq (by simp) fun r H2 st2 => ?_
    rw [← List.map_append] at st2
    clear st hq
    revert st2
    generalize H2 = H1
    intro st
    clear H2
    with_reducible refine Rd.gname ?_
    with_reducible refine Rd.seq ?_
    with_reducible refine Rd.asg ?_
    with_reducible refine Rd.op ?_
    with_reducible refine Rd.var rfl ?_
    with_reducible refine Rd.lst ?_
    refine iss_go (Eb.iss_cons rfl (st.2.1 _ _ ea) (st.2.1 _ _ ed) (ic i hi) (.own _) (kk.own i 24 hi (by decide)) (Eb.iss_cons rfl (st.2.1 _ _ ea) (st.2.1 _ _ ed) (ic i hi) (.own _) (kk.own i 25 hi (by decide)) (Eb.iss_cons rfl (st.2.1 _ _ ea) (st.2.1 _ _ ed) (ic i hi) (.own _) (kk.own i 26 hi (by decide)) (Eb.iss_cons rfl (st.2.1 _ _ ea) (st.2.1 _ _ ed) (ic i hi) (.own _) (kk.own i 27 hi (by decide)) Eb.iss_nil)))) ?_
    refine ⟨Rd.sz (by simp), fun q hq => ?_⟩
    refine catL st hq (by simp) fun r H2 st2 => ?_
    rw [← List.map_append] at st2
    clear st hq
    revert st2
    generalize H2 = H1
    intro st
    clear H2
    with_reducible refine Rd.gname ?_
    with_reducible refine Rd.ret ?_
    with_reducible refine Rd.op ?_
    with_reducible refine Rd.var rfl ?_
    with_reducible refine Rd.lst ?_
    refine iss_go (Eb.iss_cons rfl (st.2.1 _ _ ea) (st.2.1 _ _ ed) (ic i hi) (.own _) (kk.own i 28 hi (by decide)) (Eb.iss_cons rfl (st.2.1 _ _ ea) (st.2.1 _ _ ed) (ic i hi) (.own _) (kk.own i 29 hi (by decide)) Eb.iss_nil)) ?_
    refine ⟨Rd.sz (by simp), fun q hq => ?_⟩
    refine catL st hq (by simp) fun r H2 st2 => ?_
    rw [← List.map_append] at st2
    clear st hq
    revert st2
    generalize H2 = H1
    intro st
    clear H2

    exact k _ _ st
abbrev sL_above : Stmt := top 40
abbrev nL_above : List Str := ["_law_e", "_law_found"]
theorem scL_above : FnScope nL_above ["_law_e"] (defScope sL_above) := ⟨rfl, rfl, rfl, by decide +kernel, rfl, by decide +kernel, by decide +kernel⟩
theorem ok_above {CA : Addr} {C : Nat → Addr} (T : Txt K mg) (gA : mg "AnswerError" = some (.ref CA)) (Y : YS P w K mg base C) (ic : ∀ i, i < 30 → ExcC K (C i)) (kk : Kits K CA C) (D : DefAt K mg "_law_above" sL_above ["_law_e"]) : CalG P w K mg base 1 "_law_above" (spAbove C) := by
  refine D.by scL_above (fun vs H Q E h => ?_) (fun f cd A hg outer s H vs Q E hr h => ?_)
  · obtain ⟨y, i, rfl, _⟩ := h
    rfl
  · obtain ⟨y, i, rfl, ⟨hi, a, d, fs, rfl, ea, ed⟩, k⟩ := h
    refine ⟨_, (pss_cons (ps_set (i := 1) scL_above.nd rfl (Or.inl rfl) (pe_lst (pa_cons (pe_callB (r := Eb.rIsV K) Eb.call_isV (by rfl) T.isinstance (by decide +kernel) (pa_cons (pv 0) (pa_cons (pe_glob (v := .ref CA) (by rfl) gA rfl) pa_nil))) (pa_cons (pe_callB (r := Eb.rIsV K) Eb.call_isV (by rfl) T.isinstance (by decide +kernel) (pa_cons (pv 0) (pa_cons (pe_bltn (v := .ty "ValueError") (by rfl) T.ValueError (by decide +kernel) rfl) pa_nil))) (pa_cons (pe_callB (r := Eb.rIsV K) Eb.call_isV (by rfl) T.isinstance (by decide +kernel) (pa_cons (pv 0) (pa_cons (pe_bltn (v := .ty "KeyError") (by rfl) T.KeyError (by decide +kernel) rfl) pa_nil))) (pa_cons (pe_callB (r := Eb.rIsV K) Eb.call_isV (by rfl) T.isinstance (by decide +kernel) (pa_cons (pv 0) (pa_cons (pe_bltn (v := .ty "LookupError") (by rfl) T.LookupError (by decide +kernel) rfl) pa_nil))) pa_nil))))))
  (pss_cons (ps_set (i := 1) scL_above.nd rfl (Or.inl rfl) (pe_op op_cat (pv 1) (pe_lst (pa_cons (pe_callB (r := Eb.rIsV K) Eb.call_isV (by rfl) T.isinstance (by decide +kernel) (pa_cons (pv 0) (pa_cons (pe_bltn (v := .ty "RuntimeError") (by rfl) T.RuntimeError (by decide +kernel) rfl) pa_nil))) (pa_cons (pe_callB (r := Eb.rIsV K) Eb.call_isV (by rfl) T.isinstance (by decide +kernel) (pa_cons (pv 0) (pa_cons (pe_bltn (v := .ty "OverflowError") (by rfl) T.OverflowError (by decide +kernel) rfl) pa_nil))) (pa_cons (pe_callB (r := Eb.rIsV K) Eb.call_isV (by rfl) T.isinstance (by decide +kernel) (pa_cons (pv 0) (pa_cons (pe_bltn (v := .ty "ArithmeticError") (by rfl) T.ArithmeticError (by decide +kernel) rfl) pa_nil))) pa_nil))))))
  (pss_one (ps_ret (pe_op op_cat (pv 1) (pe_lst (pa_cons (pe_callB (r := Eb.rIsV K) Eb.call_isV (by rfl) T.isinstance (by decide +kernel) (pa_cons (pv 0) (pa_cons (pe_bltn (v := .ty "IndexError") (by rfl) T.IndexError (by decide +kernel) rfl) pa_nil))) pa_nil))))))), ?_⟩
    with_reducible refine Rd.seq ?_
    with_reducible refine Rd.asg ?_
    with_reducible refine Rd.lst ?_
    refine iss_go (Eb.iss_cons rfl ea ed (ic i hi) (.own _) (kk.ans i hi) (Eb.iss_cons rfl ea ed (ic i hi) (.ty _) (kk.blt i hi "ValueError" (fun i => decide (i < 22)) (by simp [aboveB])) (Eb.iss_cons rfl ea ed (ic i hi) (.ty _) (kk.blt i hi "KeyError" (fun i => decide (i = 22 ∨ i = 23)) (by simp [aboveB])) (Eb.iss_cons rfl ea ed (ic i hi) (.ty _) (kk.blt i hi "LookupError" (fun i => decide (22 ≤ i ∧ i < 26)) (by simp [aboveB])) Eb.iss_nil)))) ?_
    refine ⟨Rd.sz (by simp), fun q hq => ?_⟩
    have st := newL (xs := (List.map V.bl [decide (i < 22), (fun i => decide (i < 22)) i, (fun i => decide (i = 22 ∨ i = 23)) i, (fun i => decide (22 ≤ i ∧ i < 26)) i])) hq
    revert st
    generalize upd H q (.lst (List.map V.bl [decide (i < 22), (fun i => decide (i < 22)) i, (fun i => decide (i = 22 ∨ i = 23)) i, (fun i => decide (22 ≤ i ∧ i < 26)) i])) = H1
    intro st
    clear hq
    with_reducible refine Rd.gname ?_
    with_reducible refine Rd.seq ?_
    with_reducible refine Rd.asg ?_
    with_reducible refine Rd.op ?_
    with_reducible refine Rd.var rfl ?_
    with_reducible refine Rd.lst ?_
    refine iss_go (Eb.iss_cons rfl (st.2.1 _ _ ea) (st.2.1 _ _ ed) (ic i hi) (.ty _) (kk.blt i hi "RuntimeError" (fun i => decide (26 ≤ i ∧ i < 29)) (by simp [aboveB])) (Eb.iss_cons rfl (st.2.1 _ _ ea) (st.2.1 _ _ ed) (ic i hi) (.ty _) (kk.blt i hi "OverflowError" (fun i => decide (i = 29)) (by simp [aboveB])) (Eb.iss_cons rfl (st.2.1 _ _ ea) (st.2.1 _ _ ed) (ic i hi) (.ty _) (kk.blt i hi "ArithmeticError" (fun i => decide (i = 29)) (by simp [aboveB])) Eb.iss_nil))) ?_
    refine ⟨Rd.sz (by simp), fun q hq => ?_⟩
    refine catL st hq (by simp) fun r H2 st2 => ?_
    rw [← List.map_append] at st2
    clear st hq
    revert st2
    generalize H2 = H1
    intro st
    clear H2
    with_reducible refine Rd.gname ?_
    with_reducible refine Rd.ret ?_
    with_reducible refine Rd.op ?_
    with_reducible refine Rd.var rfl ?_
    with_reducible refine Rd.lst ?_
    refine iss_go (Eb.iss_cons rfl (st.2.1 _ _ ea) (st.2.1 _ _ ed) (ic i hi) (.ty _) (kk.blt i hi "IndexError" (fun _ => false) (by simp [aboveB])) Eb.iss_nil) ?_
    refine ⟨Rd.sz (by simp), fun q hq => ?_⟩
    refine catL st hq (by simp) fun r H2 st2 => ?_
    rw [← List.map_append] at st2
    clear st hq
    revert st2
    generalize H2 = H1
    intro st
    clear H2

    exact k _ _ st
end
end Ab
namespace Ab
open PySem.Spec PyProof.Rows
/-! ### repr of a list of one thing again and again -/
/-- a thing as data: anything but a dict, or {'a': 1} -/
def ThD (K : PySem.W.Frag) (H : Hp) (v : V) (d : PyData) : Prop := (Dp K H v d ∧ d.hasDict = false) ∨ ∃ q, v = .ref q ∧ H q = some (.dK [(.inr "a", .int 1)]) ∧ d = .dict [(.str "a", .int 1)]
def rReprT (K : PySem.W.Frag) : List V → Hp → VK → Prop := fun xs H Q => ∃ p n v d, xs = [.ref p] ∧ p ≠ sysModules ∧ SqL K H p (List.replicate n v) ∧ ThD K H v d ∧ (PyData.list (List.replicate n d)).showable = true ∧ (PyData.list (List.replicate n d)).depth ≤ 60 ∧ (PyData.list (List.replicate n d)).shown.length ≤ sizeLine ∧
  Q (.str (PyData.list (List.replicate n d)).shown) H
section
variable {X : Cx} {pins : List (Addr × Obj)} {σ : L2.St} {H : Hp} {s : Shared}
theorem ThD.reads {v : V} {d : PyData} {u : Value} (I : Inv X pins σ H s) (h : ThD X.K H v d) (r : RelV v u) : ∃ as, Reads s.heap u d as ∧ (d.hasDict = true → sysModules ∉ as) := by
  rcases h with ⟨h, hd⟩ | ⟨q, rfl, hq, rfl⟩
  · obtain ⟨as, rd⟩ := Dp.reads I d v u h r
    exact ⟨as, rd, fun z => by rw [hd] at z; cases z⟩
  · obtain rfl : u = Value.ref q := r
    obtain ⟨_, ns, vs, kv, o, es, ep, h1, h2, h3, _, h4, _⟩ := dk_of I.hok hq
    cases kv with
    | @cons _ b _ l rb rl =>
    cases rl
    obtain ⟨bk, bv⟩ := b
    obtain ⟨ek, rv⟩ := rb
    dsimp only at ek rv
    subst ek
    obtain ⟨t, rfl⟩ := rv
    obtain ⟨l⟩ := es
    dsimp only at h4
    cases h4 with
    | @cons e _ l _ ik ev r4 =>
    cases r4
    obtain ⟨eh, ek, evv⟩ := e
    dsimp only at ik ev
    subst ev
    have ik : keyIs (.inr "a") ek = true := ik
    rcases keyIs_shape ik with ⟨i, t', e1, _⟩ | ⟨x, t', e1, e2⟩
    · cases e1
    · cases e1
      subst e2
      refine ⟨_, .dict h1 h2.1 h3 (.cons (.str _ _) .nil) (.cons (.int _ _) .nil), fun _ m => ?_⟩
      have : sysModules = q := by simpa using m
      rw [← this] at ns
      simp at ns
theorem reads_rep {v : V} {d : PyData} (I : Inv X pins σ H s) (h : ThD X.K H v d) : ∀ (n : Nat) (us : List Value), Vals (List.replicate n v) us → ∃ bs, ReadsAll s.heap us (List.replicate n d) bs ∧ (d.hasDict = true → sysModules ∉ bs)
  | 0, _, r => by cases r; exact ⟨[], .nil, fun _ => by simp⟩
  | n + 1, _, r => by
    rw [List.replicate_succ] at r
    cases r with
    | cons r1 r2 =>
    obtain ⟨as, q1, e1⟩ := ThD.reads I h r1
    obtain ⟨bs, q2, e2⟩ := reads_rep I h n _ r2
    exact ⟨as ++ bs, .cons q1 q2, fun z => by simp [e1 z, e2 z]⟩
theorem hasD_rep {d : PyData} : ∀ n, PyData.hasDict (.list (List.replicate n d)) = true → d.hasDict = true
  | 0, h => by cases h
  | n + 1, h => by
    rw [List.replicate_succ] at h
    simp only [PyData.hasDict, PyData.hasDictAll, Bool.or_eq_true] at h
    rcases h with h | h
    · exact h
    · exact hasD_rep n (by simpa only [PyData.hasDict] using h)
theorem call_reprT (hg : X.A.guards = some []) (hu : X.A.units + 64 < cLine) : CallR X (.builtin "repr") (rReprT X.K) := by
  intro pins s σ H xs us Q I r h
  obtain ⟨p, n, v, d, rfl, pne, hp, ht, h1, h2, h3, q⟩ := h
  obtain ⟨u, rfl, ru⟩ := vals1 r
  obtain rfl : u = Value.ref p := ru
  obtain ⟨its, rv, ⟨o, m, ho, hc, _, hd⟩, _⟩ := I.list hp
  obtain ⟨bs, q2, e2⟩ := reads_rep I ht n _ rv
  have nd : sysModules ≠ p → PyData.hasDict (.list (List.replicate n d)) = true → sysModules ∉ p :: bs := fun ne z m => by
    rcases List.mem_cons.mp m with e | e
    · exact ne e
    · exact e2 (hasD_rep n z) e
  exact repr_of_reads' (.list ho hc hd q2) h1 (nd (Ne.symm pne)) hg (by omega) (fun _ _ z => z) (fun h' u' tk hk => ⟨.str _, H, I.kept hk, ⟨u', rfl⟩, q⟩) h3
end
section
variable {K : PySem.W.Frag} {H H' : Hp} {Q : VK} {p q : Addr}
def kD (i : Nat) : PyData := .list (((List.range 30).map fun j => decide (i = j)).map .bool)
def aD (i : Nat) : PyData := .list ((aboveL i).map .bool)
theorem dpa_bl : ∀ bs : List Bool, DpAll K H (bs.map V.bl) (bs.map PyData.bool)
  | [] => .nil
  | b :: bs => .cons (.bl b) (dpa_bl bs)
theorem kD_ok : ∀ i, i < 30 → SeqAt.shaped (kD i) = true ∧ PyData.eqv (kD i) (kD i) = true := by decide +kernel
theorem aD_ok : ∀ i, i < 30 → SeqAt.shaped (aD i) = true ∧ PyData.eqv (aD i) (aD i) = true := by decide +kernel
theorem neK {i : Nat} (hi : i < 30) (h : SqL K H p (((List.range 30).map fun j => decide (i = j)).map V.bl)) (h' : SqL K H q (((List.range 30).map fun j => decide (i = j)).map V.bl)) (k : Q (.bl false) H) : rNeD K (.ref p) (.ref q) H Q := by
  obtain ⟨s, e⟩ := kD_ok i hi
  exact Rd.neD (d := kD i) (e := kD i) (.lst h (dpa_bl _)) (.lst h' (dpa_bl _)) s s (by rw [e]; exact k)
theorem neA {i : Nat} (hi : i < 30) (h : SqL K H p ((aboveL i).map V.bl)) (h' : SqL K H q ((aboveL i).map V.bl)) (k : Q (.bl false) H) : rNeD K (.ref p) (.ref q) H Q := by
  obtain ⟨s, e⟩ := aD_ok i hi
  exact Rd.neD (d := aD i) (e := aD i) (.lst h (dpa_bl _)) (.lst h' (dpa_bl _)) s s (by rw [e]; exact k)
end
end Ab
namespace Ab
open PySem.Spec PyProof.Rows
section
variable {P : Program} {w : World} {K : PySem.W.Frag} {mg : Str → Option Value} {base : Heap}
theorem chain2 {σ : L2.St} {H : Hp} {Q : VK} {a b x : Int} {n : Nat} (hv : σ[n]? = some (some (.int x))) (k : Q (.bl (decide (a ≤ x ∧ x < b))) H) :
    tChain (rI0 fun i j => V.bl (decide (i ≤ j))) (rI0 fun i j => V.bl (decide (i < j))) (tC (.int a)) (tVar n) (tC (.int b)) σ H Q := by
  refine Rd.cst (Rd.var hv (Rd.i0 ⟨_, rfl, ?_⟩))
  by_cases c : a ≤ x
  · rw [decide_eq_true c, if_pos rfl]
    refine Rd.cst (Rd.i0 ?_)
    by_cases d : x < b
    · rw [decide_eq_true d]
      rw [decide_eq_true (show a ≤ x ∧ x < b from ⟨c, d⟩)] at k
      exact k
    · rw [decide_eq_false d]
      rw [decide_eq_false (show ¬ (a ≤ x ∧ x < b) from fun z => d z.2)] at k
      exact k
  · rw [decide_eq_false c, if_neg Bool.false_ne_true]
    rw [decide_eq_false (show ¬ (a ≤ x ∧ x < b) from fun z => c z.1)] at k
    exact k
abbrev dueV (i : Nat) : List V := [.bl (decide ((i : Int) < 22)), .bl (decide ((i : Int) < 22)), .bl (inV (.int i) [.int 22, .int 23]), .bl (decide (22 ≤ (i : Int) ∧ (i : Int) < 26)), .bl (decide (26 ≤ (i : Int) ∧ (i : Int) < 29)), .bl (decide (V.int i = V.int 29)), .bl (decide (V.int i = V.int 29)), .bl false]
theorem due_all : ∀ i, i < 30 → dueV i = (aboveL i).map V.bl := by decide +kernel
abbrev sL_due : Stmt := top 41
abbrev nL_due : List Str := ["_law_at", "_law_found"]
theorem scL_due : FnScope nL_due ["_law_at"] (defScope sL_due) := ⟨rfl, rfl, rfl, by decide +kernel, rfl, by decide +kernel, by decide +kernel⟩
theorem ok_due (T : Txt K mg) (D : DefAt K mg "_law_due" sL_due ["_law_at"]) : CalG P w K mg base 1 "_law_due" spDue := by
  refine D.by scL_due (fun vs H Q E h => ?_) (fun f cd A hg outer s H vs Q E hr h => ?_)
  · obtain ⟨i, rfl, _⟩ := h
    rfl
  · obtain ⟨i, rfl, hi, k⟩ := h
    refine ⟨_, (pss_cons (ps_set (i := 1) scL_due.nd rfl (Or.inl rfl) (pe_lst (pa_cons (pe_cmpR op_lt (pv 0) pe_int (nomark _)) (pa_cons (pe_cmpR op_lt (pv 0) pe_int (nomark _)) (pa_cons (pe_cmpR (r := rIn K false) op_in_seq (pv 0) (pe_lst (pa_cons pe_int (pa_cons pe_int pa_nil))) (by rfl)) (pa_cons (pe_chain op_le op_lt pe_int (pv 0) pe_int) (pa_cons (pe_chain op_le op_lt pe_int (pv 0) pe_int) (pa_cons (pe_cmpR op_eq (pv 0) pe_int (nomark _)) (pa_cons (pe_cmpR op_eq (pv 0) pe_int (nomark _)) (pa_cons pe_bl pa_nil))))))))))
  (pss_one (ps_ret (pv 1)))), ?_⟩
    repeat walk_at "rd"
    refine ⟨Rd.sz (by simp), fun q hq => ?_⟩
    repeat walk_at "rd"
    refine Rd.inL (SqL.of upd_same) rfl rfl ?_
    have s1 := Rd.sNew (o := .lst [V.int 22, V.int 23]) hq
    generalize upd H q (.lst [V.int 22, V.int 23]) = H1 at s1 ⊢
    repeat walk_at "rd"
    refine chain2 rfl ?_
    repeat walk_at "rd"
    refine chain2 rfl ?_
    repeat walk_at "rd"
    refine ⟨Rd.sz (by simp), fun r hr => ?_⟩
    show gName _ _ _ (upd H1 r (.lst (dueV i))) _
    rw [due_all i hi]
    repeat walk_at "rd"
    exact k _ _ (newLm s1 hr)
end
/-- thirty of it are shown -/
def OkT (d : PyData) : Prop := (PyData.list (List.replicate 30 d)).showable = true ∧ (PyData.list (List.replicate 30 d)).depth ≤ 60 ∧ (PyData.list (List.replicate 30 d)).shown.length ≤ sizeLine
section
variable {P : Program} {w : World} {K : PySem.W.Frag} {mg : Str → Option Value} {base : Heap}
abbrev someV (t l d : Addr) : List V := [.non, .bl true, .int 0, .int (-1), .str "a", .ref t, .ref l, .ref d, .int (10 ^ 20), .str ""]
theorem okT_all : ∀ d ∈ [PyData.none, .bool true, .int 0, .int (-1), .str "a", .tuple [.int 1, .int 2], .list [.int 3], .dict [(.str "a", .int 1)], .int (10 ^ 20), .str ""], (PyData.list (List.replicate 30 d)).showable = true ∧ (PyData.list (List.replicate 30 d)).depth ≤ 60 ∧ (PyData.list (List.replicate 30 d)).shown.length ≤ 5000 := by decide +kernel
theorem things {H1 : Hp} {t l q : Addr} (ht : H1 t = some (.tup [.int 1, .int 2])) (hl : H1 l = some (.lst [.int 3])) (hq : H1 q = some (.dK [(.inr "a", .int 1)])) (v : V) (hv : v ∈ someV t l q) : ∃ d, OkT d ∧ ∀ H', Same H1 H' → ThD K H' v d := by
  have ok : ∀ d ∈ [PyData.none, .bool true, .int 0, .int (-1), .str "a", .tuple [.int 1, .int 2], .list [.int 3], .dict [(.str "a", .int 1)], .int (10 ^ 20), .str ""], OkT d := fun d hd => by
    obtain ⟨a, b, c⟩ := okT_all d hd
    exact ⟨a, b, Nat.le_trans c (by decide)⟩
  simp only [someV, List.mem_cons, List.not_mem_nil, or_false] at hv
  rcases hv with rfl | rfl | rfl | rfl | rfl | rfl | rfl | rfl | rfl | rfl
  · exact ⟨_, ok .none (by simp), fun _ _ => .inl ⟨.non, rfl⟩⟩
  · exact ⟨_, ok (.bool true) (by simp), fun _ _ => .inl ⟨.bl _, rfl⟩⟩
  · exact ⟨_, ok (.int 0) (by simp), fun _ _ => .inl ⟨.int _, rfl⟩⟩
  · exact ⟨_, ok (.int (-1)) (by simp), fun _ _ => .inl ⟨.int _, rfl⟩⟩
  · exact ⟨_, ok (.str "a") (by simp), fun _ _ => .inl ⟨.str _, rfl⟩⟩
  · exact ⟨_, ok (.tuple [.int 1, .int 2]) (by simp), fun _ s => .inl ⟨.tup (.inl (.inl (s _ _ ht))) (.cons (.int _) (.cons (.int _) .nil)), rfl⟩⟩
  · exact ⟨_, ok (.list [.int 3]) (by simp), fun _ s => .inl ⟨.lst (SqL.of (s _ _ hl)) (.cons (.int _) .nil), rfl⟩⟩
  · exact ⟨_, ok (.dict [(.str "a", .int 1)]) (by simp), fun _ s => .inr ⟨_, rfl, s _ _ hq, rfl⟩⟩
  · exact ⟨_, ok (.int (10 ^ 20)) (by simp), fun _ _ => .inl ⟨.int _, rfl⟩⟩
  · exact ⟨_, ok (.str "") (by simp), fun _ _ => .inl ⟨.str _, rfl⟩⟩
end
end Ab
namespace Ab
open PySem.Spec PyProof.Rows
def spLaw (K : PySem.W.Frag) : Sp := fun vs H Q _ => ∃ (a : Addr) (ns : List Int), vs = [.ref a] ∧ SqL K H a (ns.map V.int) ∧ ns.length ≤ 63 ∧ ∀ H', Q (.bl true) H'
section
variable {P : Program} {w : World} {K : PySem.W.Frag} {mg : Str → Option Value} {base : Heap}
theorem forIL {K : PySem.W.Frag} {tl : TE} {g : TG} {tb : TS} {D : Ends} {σ : L2.St} {H : Hp} (k : tl σ H fun x H1 => tFor (iList K (tC x)) g tb D σ H1) : tFor (iList K tl) g tb D σ H := k
theorem dispR {trs : List (TE × TE)} {σ : L2.St} {H : Hp} {Q : VK} (k : ∀ p, H p = none → tPairs trs σ (upd H p (.dK [])) fun ps H2 => H2 p = some (.dK []) ∧ ∃ kvs : List (Key × V), ps = kvs.map (fun kv => (kV kv.1, kv.2)) ∧ kvs.length ≤ 15 ∧ Q (.ref p) (upd H2 p (.dK (mergeK [] kvs)))) : tDisp trs σ H Q := k
theorem enumR {g : TG} {tb : TS} {D : Ends} {σ : L2.St} {H : Hp} {ta : TA} (k : ta σ H fun vs H1 => ∃ a xs, vs = [.ref a] ∧ SqL K H1 a xs ∧ Rd.ForGo (Ite K a) g tb D σ H1) : tFor (iEnum K ta) g tb D σ H := k
theorem cls_at {C : Nat → Addr} {j : Nat} {c : Addr × Str} (h : (clsF C)[j]? = some c) : j < 30 ∧ c.1 = C j := by
  have hj : j < 30 := (List.getElem?_eq_some_iff.mp h).1
  have e : (clsF C).map (·.1) = (List.range 30).map C := rfl
  have h2 : ((clsF C).map (·.1))[j]? = some c.1 := by rw [List.getElem?_map, h]; rfl
  rw [e, List.getElem?_map, List.getElem?_range hj] at h2
  exact ⟨hj, (Option.some.inj h2).symm⟩
theorem erI_of {C : Nat → Addr} {v : V} {H : Hp} {ys : List V} {j : Nat} {y : V} (pr : Paired (fun c y => Eb.ErAt v c y H) (clsF C) ys) (h : ys[j]? = some y) : ErI C j y H := by
  obtain ⟨c, hc, a, d, e, ha, hd⟩ := Rd.pair_get pr h
  obtain ⟨hj, ec⟩ := cls_at hc
  rw [ec] at ha
  exact ⟨hj, a, d, _, e, ha, hd⟩
theorem ErI.stay {C : Nat → Addr} {H H' : Hp} {i : Nat} {y : V} (s : Same H H') (h : ErI C i y H) : ErI C i y H' := by
  obtain ⟨hi, a, d, fs, e, ha, hd⟩ := h
  exact ⟨hi, a, d, fs, e, s _ _ ha, s _ _ hd⟩
theorem beq_ij (n j : Nat) : decide (V.int (n : Int) = V.int (j : Int)) = decide (j = n) := by
  by_cases h : j = n
  · subst h
    rw [decide_eq_true rfl, decide_eq_true rfl]
  · rw [decide_eq_false h, decide_eq_false fun e => h (by injection e with e; omega)]
abbrev SLw (a ls : Addr) (σ : L2.St) : Prop := ∃ z2 z3 z4 z5 z6 z7 z8, σ = [some (.ref a), some (.ref ls), z2, z3, z4, z5, z6, z7, z8]
abbrev sLaw : Stmt := top 42
abbrev nLaw : List Str := ["_law_script", "_law_some", "_law_k", "_law_pool_here", "_law_thing", "_law_made", "_law_at", "_law_error", "_law_number"]
theorem scLaw : FnScope nLaw ["_law_script"] (defScope sLaw) := ⟨rfl, rfl, rfl, by decide +kernel, rfl, by decide +kernel, by decide +kernel⟩
theorem ok_law (T : Txt K mg) {CA : Addr} {C : Nat → Addr} (Y : YS P w K mg base C) (CL_pool : CalG P w K mg base 1 "_law_pool" (spPool K)) (CL_one : CalG P w K mg base 2 "_law_one" (spOne K)) (CL_placed : CalG P w K mg base 3 "_law_placed" (spMade C)) (CL_called : CalG P w K mg base 3 "_law_called" (spMade C))
    (CL_fields : CalG P w K mg base 1 "_law_fields" (spFields K C)) (CL_kinds : CalG P w K mg base 1 "_law_kinds" (spKinds C)) (CL_above : CalG P w K mg base 1 "_law_above" (spAbove C)) (CL_due : CalG P w K mg base 1 "_law_due" spDue)
    {f : Addr} {fd : FuncData} (F : Fun K "law" "law" sLaw f fd) : FnG P w K mg base CX0 4 f fd ["_law_script"] (spLaw K) := by
  refine defG0 F scLaw (fun vs H Q E h => ?_) (fun cd A hg outer s H vs Q E hr h => ?_)
  · obtain ⟨_, _, rfl, _⟩ := h
    rfl
  · obtain ⟨a, ns, rfl, hS, h63, q⟩ := h
    refine ⟨_, (pss_cons (ps_set (i := 1) scLaw.nd rfl (Or.inl rfl) (pe_lst (pa_cons pe_non (pa_cons pe_bl (pa_cons pe_int (pa_cons (pe_un un_neg pe_int) (pa_cons pe_str (pa_cons (pe_tup (pa_cons pe_int (pa_cons pe_int pa_nil))) (pa_cons (pe_lst (pa_cons pe_int pa_nil)) (pa_cons (pe_disp (pps_cons pe_str pe_int pps_nil) (by rfl) (by rfl) (by simp) (by decide)) (pa_cons (pe_op op_pow pe_int pe_int) (pa_cons pe_str pa_nil))))))))))))
  (pss_cons (ps_for PassesOwn.never rfl (pi_range1 (by rfl) T.range (pa_cons (pe_callB (call_max2 rfl) (by rfl) T.max (by decide +kernel) (pa_cons pe_int (pa_cons (pe_callB (call_min2 rfl) (by rfl) T.min (by decide +kernel) (pa_cons pe_int (pa_cons (pe_callB (r := Rd.rLenK K) Rd.callLen (by rfl) T.len PySem.boot_len (pa_cons (pv 0) pa_nil)) pa_nil))) pa_nil))) pa_nil)) (pg_name (i := 2) scLaw.nd rfl (Or.inl rfl))
  (pss_cons (ps_set (i := 3) scLaw.nd rfl (Or.inl rfl) (pe_cG CL_pool hg hr (by decide) (pa_cons (pv 0) (pa_cons (pv 2) pa_nil))))
  (pss_cons (ps_set (i := 4) scLaw.nd rfl (Or.inl rfl) (pe_cG CL_one hg hr (by decide) (pa_cons (pv 3) (pa_cons (pv 1) pa_nil))))
  (pss_one (ps_for (wi := iList K _) PassesOwn.never rfl (pi_list (pe_lst (pa_cons (pe_cG CL_placed hg hr (by decide) (pa_cons (pv 4) pa_nil)) (pa_cons (pe_cG CL_called hg hr (by decide) (pa_cons (pv 4) pa_nil)) pa_nil)))) (pg_name (i := 5) scLaw.nd rfl (Or.inl rfl))
  (pss_cons (ps_if (pt_cmpR op_ne (pe_callB (r := rReprT K) (call_reprT hg hr.units) (by rfl) T.repr (by decide +kernel) (pa_cons (pe_cG CL_fields hg hr (by decide) (pa_cons (pv 5) pa_nil)) pa_nil)) (pe_callB (r := rReprT K) (call_reprT hg hr.units) (by rfl) T.repr (by decide +kernel) (pa_cons (pe_op Eb.op_repM (pe_lst (pa_cons (pv 4) pa_nil)) pe_int) pa_nil)) (nomark _))
  (pss_one (ps_ret pe_bl))
  pss_nil)
  (pss_one (ps_for (wi := iEnum K _) PassesOwn.never rfl (pi_enum (by rfl) T.enumerate (pa_cons (pv 5) pa_nil)) (pg_tup (by rfl) (pgs_cons (pg_name (i := 6) scLaw.nd rfl (Or.inr rfl)) (pgs_cons (pg_name (i := 7) scLaw.nd rfl (Or.inl rfl)) pgs_nil)))
  (pss_one (ps_if (PW.pt (pw_or (pt_cmpR (r := rNeD K) (op_neD hr.units) (pe_cG CL_kinds hg hr (by decide) (pa_cons (pv 7) pa_nil)) (pe_lc (own := [("_law_number", 8)]) (g := gName 8) (by rfl) scLaw.nd (pi_range1 (by rfl) T.range (pa_cons pe_int pa_nil)) (blkOk_by (N := nLaw) (sc := defScope sLaw) (by decide +kernel)) (fun _ _ _ _ _ => pg_name (i := 8) scLaw.nd rfl (Or.inl rfl)) (fun _ _ _ _ _ => pts_nil) (fun _ _ _ _ _ => (pe_cmpR op_eq (pv 8) (pv 6) (nomark _)))) (nomark _)) (pw_or1 (pt_cmpR (r := rNeD K) (op_neD hr.units) (pe_cG CL_above hg hr (by decide) (pa_cons (pv 7) pa_nil)) (pe_cG CL_due hg hr (by decide) (pa_cons (pv 6) pa_nil)) (nomark _)))))
  (pss_one (ps_ret pe_bl))
  pss_nil))))))))))
  (pss_one (ps_ret pe_bl)))), ?_⟩
    repeat walk_at "rd"
    refine ⟨Rd.sz (by simp), fun t ht => ?_⟩
    repeat walk_at "rd"
    refine ⟨Rd.sz (by simp), fun l hl => ?_⟩
    repeat walk_at "rd"
    refine dispR fun d hd => ?_
    refine Rd.cst (Rd.cst ?_)
    refine ⟨upd_same, [(.inr "a", .int 1)], rfl, by decide, ?_⟩
    repeat walk_at "rd"
    refine ⟨Rd.sz (by simp), fun ls hls => ?_⟩
    have hd' := Rd.sNew (o := .dK []) hd
    rw [upd_upd] at hls ⊢
    have eM : mergeK ([] : List (Key × V)) [(.inr "a", .int 1)] = [(.inr "a", .int 1)] := rfl
    rw [eM] at hls ⊢
    have s1 := Rd.sNew (o := .tup [.int 1, .int 2]) ht
    have s2 := Rd.sNew (o := .lst [.int 3]) hl
    have s3 := Rd.sNew (o := .dK [(.inr "a", .int 1)]) hd
    have s4 := Rd.sNew (o := .lst (someV t l d)) hls
    have et := s4 _ _ (s3 _ _ (s2 _ _ (upd_same (H := H))))
    have el := s4 _ _ (s3 _ _ (upd_same (H := upd H t (.tup [.int 1, .int 2]))))
    have ed := s4 _ _ (upd_same (H := upd (upd H t (.tup [.int 1, .int 2])) l (.lst [.int 3])))
    have es : upd (upd (upd (upd H t (.tup [.int 1, .int 2])) l (.lst [.int 3])) d (.dK [(.inr "a", .int 1)])) ls (.lst (someV t l d)) ls = some (.lst (someV t l d)) := upd_same
    have s0 := ((s1.trans s2).trans s3).trans s4
    show gName _ _ _ (upd (upd (upd (upd H t (.tup [.int 1, .int 2])) l (.lst [.int 3])) d (.dK [(.inr "a", .int 1)])) ls (.lst (someV t l d))) _
    generalize upd (upd (upd (upd H t (.tup [.int 1, .int 2])) l (.lst [.int 3])) d (.dK [(.inr "a", .int 1)])) ls (.lst (someV t l d)) = H1 at et el ed es s0 ⊢
    have hS1 := s0.seq hS
    clear s1 s2 s3 s4 hd' eM hls hd hl ht
    repeat walk_at "rd"
    refine Rd.rng (by (repeat' split) <;> omega) (by (repeat' split) <;> omega) ?_
    refine Rd.forGo (fun i σ Hc => SLw a ls σ ∧ Same H1 Hc) ⟨⟨_, _, _, _, _, _, _, rfl⟩, Same.refl _⟩ ?_ ?_
    · rintro i σ Hc hi ⟨⟨z2, z3, z4, z5, z6, z7, z8, rfl⟩, s1⟩
      have i9 : i < 100 := by
        rw [List.length_map] at hi
        revert hi
        (repeat' split) <;> intro hi <;> omega
      repeat walk_at "rd"
      refine ⟨a, ns, (i : Int), rfl, s1.seq hS1, by omega, by omega, fun p x y hp ok => ?_⟩
      repeat walk_at "rd"
      have sn : ∀ o, Same H1 (upd Hc p o) := fun o => s1.trans (Rd.sNew hp)
      refine ⟨p, ls, x, y, someV t l d, rfl, upd_same, SqL.of (sn _ _ _ es), fun o => ?_, ok, by simp, by simp, fun v x' y' hv ok' => ?_⟩
      · rw [upd_upd]
        exact SqL.of (sn _ _ _ es)
      rw [upd_upd]
      obtain ⟨dv, ⟨k1, k2, k3⟩, tv⟩ := things (K := K) et el ed v hv
      have s2 := sn (.lst [.int x', .int y'])
      clear sn ok ok' hp
      generalize upd Hc p (.lst [.int x', .int y']) = H2 at s2 ⊢
      repeat walk_at "rd"
      with_reducible refine forIL ?_
      repeat walk_at "rd"
      refine ⟨v, rfl, fun p1 H3 st1 => ?_⟩
      repeat walk_at "rd"
      refine ⟨v, rfl, fun p2 H4 st2 => ?_⟩
      repeat walk_at "rd"
      refine ⟨Rd.sz (by simp), fun lp hlp => ?_⟩
      obtain ⟨n1, s3, ys1, e1, pr1⟩ := st1
      obtain ⟨n2, s4, ys2, e2, pr2⟩ := st2
      have s5 := Rd.sNew (o := .lst [V.ref p1, V.ref p2]) hlp
      have elp : upd H4 lp (.lst [V.ref p1, V.ref p2]) lp = some (.lst [V.ref p1, V.ref p2]) := upd_same
      have E1 := s5 _ _ (s4 _ _ e1)
      have E2 := s5 _ _ e2
      have P1 := Rd.pair_imp (fun _ _ => Eb.erStay (s4.trans s5)) pr1
      have P2 := Rd.pair_imp (fun _ _ => Eb.erStay s5) pr2
      have s6 := ((s2.trans s3).trans s4).trans s5
      show tFor _ _ _ _ _ (upd H4 lp (.lst [V.ref p1, V.ref p2]))
      generalize upd H4 lp (.lst [V.ref p1, V.ref p2]) = H5 at elp E1 E2 P1 P2 s6 ⊢
      clear pr1 pr2 e1 e2 n1 n2 s3 s4 s5 hlp s2
      refine ⟨lp, rfl, ⟨_, SqL.of elp⟩, ?_⟩
      refine for_list (K := K) (a := lp) (xs := [.ref p1, .ref p2]) (fun _ σ H' => (∃ z5 z6 z7 z8, σ = [some (.ref a), some (.ref ls), some (.int (i : Int)), some (.ref p), some v, z5, z6, z7, z8]) ∧ Same H5 H') ⟨⟨_, _, _, _, rfl⟩, Same.refl _⟩ (fun _ σ H' _ h => SqL.of (h.2 _ _ elp)) ?_ ?_
      · rintro j m σ H6 hj ⟨⟨z5, z6, z7, z8, rfl⟩, s7⟩
        obtain ⟨pm, ys, rfl, em, pm2⟩ : ∃ pm ys, m = .ref pm ∧ H6 pm = some (.lst ys) ∧ Paired (fun c y => Eb.ErAt v c y H6) (clsF C) ys := by
          have hm : m ∈ [V.ref p1, V.ref p2] := List.mem_of_getElem? hj
          rcases List.mem_cons.mp hm with rfl | hm
          · exact ⟨p1, ys1, rfl, s7 _ _ E1, Rd.pair_imp (fun _ _ => Eb.erStay s7) P1⟩
          · obtain rfl := List.mem_singleton.mp hm
            exact ⟨p2, ys2, rfl, s7 _ _ E2, Rd.pair_imp (fun _ _ => Eb.erStay s7) P2⟩
        repeat walk_at "rd"
        refine ⟨pm, ys, v, rfl, SqL.of em, pm2, fun r H7 nl ne => ?_⟩
        repeat walk_at "rd"
        have s8 : Same H1 H7 := (s6.trans s7).trans nl.2.1
        refine ⟨r, 30, v, dv, rfl, ne, SqL.of nl.2.2, tv H7 s8, k1, k2, k3, ?_⟩
        repeat walk_at "rd"
        refine ⟨Rd.sz (by simp), fun l1 hl1 => ?_⟩
        have s9 := Rd.sNew (o := .lst [v]) hl1
        have el1 : upd H7 l1 (.lst [v]) l1 = some (.lst [v]) := upd_same
        generalize upd H7 l1 (.lst [v]) = H8 at s9 el1 ⊢
        repeat walk_at "rd"
        refine ⟨l1, 30, [v], rfl, rfl, el1, by decide, by decide, by show 1 * 30 ≤ sizeLine; decide, fun l2 hl2 ne2 => ?_⟩
        have s10 := Rd.sNew (o := .lst (List.replicate 30 v)) hl2
        have el2 : upd H8 l2 (.lst (List.replicate 30 v)) l2 = some (.lst (List.replicate 30 v)) := upd_same
        show tNil _ (upd H8 l2 (.lst (List.replicate 30 v))) _
        generalize upd H8 l2 (.lst (List.replicate 30 v)) = H9 at s10 el2 ⊢
        repeat walk_at "rd"
        have s11 : Same H7 H9 := s9.trans s10
        refine ⟨l2, 30, v, dv, rfl, ne2, SqL.of el2, tv H9 (s8.trans s11), k1, k2, k3, ?_⟩
        repeat walk_at "rd"
        refine Rd.ndec (fun c => absurd rfl c) (fun _ => ?_)
        repeat walk_at "rd"
        have s12 : Same H6 H9 := nl.2.1.trans s11
        have em3 := s12 _ _ em
        have pm3 := Rd.pair_imp (fun _ _ => Eb.erStay s12) pm2
        have s13 : Same H5 H9 := s7.trans s12
        have ylen : ys.length = 30 := (Rd.pair_len pm2).symm
        clear s12 s10 s9 s11 s8 el1 hl1 hl2 nl em pm2 s7 el2
        with_reducible refine enumR ?_
        repeat walk_at "rd"
        refine ⟨pm, ys, rfl, SqL.of em3, ?_⟩
        refine for_it (walk_enum (K := K) (a := pm) (xs := ys)) (fun j σ H' => (∃ z6 z7 z8, σ = [some (.ref a), some (.ref ls), some (.int (i : Int)), some (.ref p), some v, some (.ref pm), z6, z7, z8]) ∧ Same H9 H') ⟨⟨_, _, _, rfl⟩, Same.refl _⟩ (fun j σ H' _ h => SqL.of (h.2 _ _ em3)) ?_ ?_
        · rintro j m σ H10 H11 hj ⟨⟨y6, y7, y8, rfl⟩, s14⟩ ⟨T', x1, y1, rfl, hT, rfl, ex, ey⟩
          cases ex
          have s15 : Same H9 (upd H10 T' (.tup [.int (j : Int), y1])) := s14.trans (Rd.sNew hT)
          refine Rd.gtup (.inl (.inl upd_same)) rfl ?_
          have e1 := (erI_of pm3 ey).stay s15
          generalize upd H10 T' (.tup [.int (j : Int), y1]) = H11 at s15 e1 ⊢
          repeat walk_at "rd"
          refine ⟨y1, j, rfl, e1, fun r2 H12 nl2 => ?_⟩
          repeat walk_at "rd"
          refine Rd.rng (by decide) (by decide) ?_
          show Rd.LcGo (Itr 0 30) _ _ _ _ _ _ _
          refine Rd.goR (fun D n acc Hx => acc = ((List.range n).map fun m => decide (j = m)).map V.bl ∧ Same H12 Hx) (fun D hD => ⟨rfl, Rd.sNew hD⟩) (fun _ => rfl) (by decide) (fun D n acc Hx hD hn ha hd ⟨ea, sx⟩ R k => ?_) (fun D acc Hx hD hl hd ⟨ea, sx⟩ => ?_)
          · repeat walk_at "rd"
            refine k _ Hx hd ⟨?_, Rd.sMut sx hD⟩
            rw [ea, beq_ij, List.range_succ, List.map_append, List.map_append]
            rfl
          · refine neK e1.1 (SqL.of (sx _ _ nl2.2.2)) (SqL.of (by rw [hd, ea])) ?_
            have s16 := s15.trans (nl2.2.1.trans sx)
            have e2 := e1.stay (nl2.2.1.trans sx)
            clear nl2 ea hd hl hD
            repeat walk_at "rd"
            refine Rd.ff_ ?_
            repeat walk_at "rd"
            refine ⟨y1, j, rfl, e2, fun r3 H13 nl3 => ?_⟩
            repeat walk_at "rd"
            refine ⟨j, rfl, e1.1, fun r4 H14 nl4 => ?_⟩
            repeat walk_at "rd"
            refine neA e1.1 (SqL.of (nl4.2.1 _ _ nl3.2.2)) (SqL.of nl4.2.2) ?_
            repeat walk_at "rd"
            refine Rd.ff_ ?_
            repeat walk_at "rd"
            exact ⟨⟨_, _, _, rfl⟩, (s16.trans nl3.2.1).trans nl4.2.1⟩
        · rintro σ H10 ⟨⟨y6, y7, y8, rfl⟩, s14⟩
          exact ⟨⟨_, _, _, _, rfl⟩, s13.trans s14⟩
      · rintro σ H6 ⟨⟨z5, z6, z7, z8, rfl⟩, s7⟩
        exact ⟨⟨_, _, _, _, _, _, _, rfl⟩, s6.trans s7⟩
    · rintro σ Hc _
      repeat walk_at "rd"
      exact q _
end
end Ab
namespace Ab
open PySem.Spec PyProof.Rows
abbrev sInit_NoName : Stmt := meth 2 0
theorem scInit_NoName : FnScope ["self", "value"] ["self", "value"] (defScope sInit_NoName) := ⟨rfl, rfl, rfl, by decide +kernel, rfl, by decide +kernel, by decide +kernel⟩
abbrev sInit_NoWays : Stmt := meth 3 0
theorem scInit_NoWays : FnScope ["self", "operation"] ["self", "operation"] (defScope sInit_NoWays) := ⟨rfl, rfl, rfl, by decide +kernel, rfl, by decide +kernel, by decide +kernel⟩
abbrev sInit_NoFlag : Stmt := meth 4 0
theorem scInit_NoFlag : FnScope ["self", "value"] ["self", "value"] (defScope sInit_NoFlag) := ⟨rfl, rfl, rfl, by decide +kernel, rfl, by decide +kernel, by decide +kernel⟩
abbrev sInit_NoBook : Stmt := meth 5 0
theorem scInit_NoBook : FnScope ["self", "value"] ["self", "value"] (defScope sInit_NoBook) := ⟨rfl, rfl, rfl, by decide +kernel, rfl, by decide +kernel, by decide +kernel⟩
abbrev sInit_NoBody : Stmt := meth 6 0
theorem scInit_NoBody : FnScope ["self", "place"] ["self", "place"] (defScope sInit_NoBody) := ⟨rfl, rfl, rfl, by decide +kernel, rfl, by decide +kernel, by decide +kernel⟩
abbrev sInit_NoEntry : Stmt := meth 7 0
theorem scInit_NoEntry : FnScope ["self", "method"] ["self", "method"] (defScope sInit_NoEntry) := ⟨rfl, rfl, rfl, by decide +kernel, rfl, by decide +kernel, by decide +kernel⟩
abbrev sInit_NoTable : Stmt := meth 8 0
theorem scInit_NoTable : FnScope ["self", "value"] ["self", "value"] (defScope sInit_NoTable) := ⟨rfl, rfl, rfl, by decide +kernel, rfl, by decide +kernel, by decide +kernel⟩
abbrev sInit_NoOperand : Stmt := meth 9 0
theorem scInit_NoOperand : FnScope ["self", "value"] ["self", "value"] (defScope sInit_NoOperand) := ⟨rfl, rfl, rfl, by decide +kernel, rfl, by decide +kernel, by decide +kernel⟩
abbrev sInit_NoScene : Stmt := meth 10 0
theorem scInit_NoScene : FnScope ["self", "value"] ["self", "value"] (defScope sInit_NoScene) := ⟨rfl, rfl, rfl, by decide +kernel, rfl, by decide +kernel, by decide +kernel⟩
abbrev sInit_NoScript : Stmt := meth 11 0
theorem scInit_NoScript : FnScope ["self", "index"] ["self", "index"] (defScope sInit_NoScript) := ⟨rfl, rfl, rfl, by decide +kernel, rfl, by decide +kernel, by decide +kernel⟩
abbrev sInit_NoNumber : Stmt := meth 12 0
theorem scInit_NoNumber : FnScope ["self", "value"] ["self", "value"] (defScope sInit_NoNumber) := ⟨rfl, rfl, rfl, by decide +kernel, rfl, by decide +kernel, by decide +kernel⟩
abbrev sInit_NoMachine : Stmt := meth 13 0
theorem scInit_NoMachine : FnScope ["self", "row"] ["self", "row"] (defScope sInit_NoMachine) := ⟨rfl, rfl, rfl, by decide +kernel, rfl, by decide +kernel, by decide +kernel⟩
abbrev sInit_NoPair : Stmt := meth 14 0
theorem scInit_NoPair : FnScope ["self", "value"] ["self", "value"] (defScope sInit_NoPair) := ⟨rfl, rfl, rfl, by decide +kernel, rfl, by decide +kernel, by decide +kernel⟩
abbrev sInit_NoPaper : Stmt := meth 15 0
theorem scInit_NoPaper : FnScope ["self", "index"] ["self", "index"] (defScope sInit_NoPaper) := ⟨rfl, rfl, rfl, by decide +kernel, rfl, by decide +kernel, by decide +kernel⟩
abbrev sInit_NotNamed : Stmt := meth 16 0
theorem scInit_NotNamed : FnScope ["self", "method"] ["self", "method"] (defScope sInit_NotNamed) := ⟨rfl, rfl, rfl, by decide +kernel, rfl, by decide +kernel, by decide +kernel⟩
abbrev sInit_NoRelation : Stmt := meth 17 0
theorem scInit_NoRelation : FnScope ["self", "value"] ["self", "value"] (defScope sInit_NoRelation) := ⟨rfl, rfl, rfl, by decide +kernel, rfl, by decide +kernel, by decide +kernel⟩
abbrev sInit_NoAgreement : Stmt := meth 18 0
theorem scInit_NoAgreement : FnScope ["self", "value"] ["self", "value"] (defScope sInit_NoAgreement) := ⟨rfl, rfl, rfl, by decide +kernel, rfl, by decide +kernel, by decide +kernel⟩
abbrev sInit_NoStock : Stmt := meth 19 0
theorem scInit_NoStock : FnScope ["self", "index"] ["self", "index"] (defScope sInit_NoStock) := ⟨rfl, rfl, rfl, by decide +kernel, rfl, by decide +kernel, by decide +kernel⟩
abbrev sInit_NoWish : Stmt := meth 20 0
theorem scInit_NoWish : FnScope ["self", "index"] ["self", "index"] (defScope sInit_NoWish) := ⟨rfl, rfl, rfl, by decide +kernel, rfl, by decide +kernel, by decide +kernel⟩
abbrev sInit_NoChoice : Stmt := meth 21 0
theorem scInit_NoChoice : FnScope ["self", "value"] ["self", "value"] (defScope sInit_NoChoice) := ⟨rfl, rfl, rfl, by decide +kernel, rfl, by decide +kernel, by decide +kernel⟩
abbrev sInit_NoEdit : Stmt := meth 22 0
theorem scInit_NoEdit : FnScope ["self", "index"] ["self", "index"] (defScope sInit_NoEdit) := ⟨rfl, rfl, rfl, by decide +kernel, rfl, by decide +kernel, by decide +kernel⟩
abbrev sInit_NoNote : Stmt := meth 23 0
theorem scInit_NoNote : FnScope ["self", "line"] ["self", "line"] (defScope sInit_NoNote) := ⟨rfl, rfl, rfl, by decide +kernel, rfl, by decide +kernel, by decide +kernel⟩
abbrev sInit_NoClass : Stmt := meth 24 0
theorem scInit_NoClass : FnScope ["self", "name"] ["self", "name"] (defScope sInit_NoClass) := ⟨rfl, rfl, rfl, by decide +kernel, rfl, by decide +kernel, by decide +kernel⟩
abbrev sInit_Unanswered : Stmt := meth 30 0
theorem scInit_Unanswered : FnScope ["self", "asked"] ["self", "asked"] (defScope sInit_Unanswered) := ⟨rfl, rfl, rfl, by decide +kernel, rfl, by decide +kernel, by decide +kernel⟩
abbrev sInit_NoOrder : Stmt := meth 25 0
theorem scInit_NoOrder : FnScope ["self", "name"] ["self", "name"] (defScope sInit_NoOrder) := ⟨rfl, rfl, rfl, by decide +kernel, rfl, by decide +kernel, by decide +kernel⟩
abbrev sInit_Parted : Stmt := meth 28 0
theorem scInit_Parted : FnScope ["self", "script"] ["self", "script"] (defScope sInit_Parted) := ⟨rfl, rfl, rfl, by decide +kernel, rfl, by decide +kernel, by decide +kernel⟩
abbrev sInit_Used : Stmt := meth 26 0
theorem scInit_Used : FnScope ["self", "name"] ["self", "name"] (defScope sInit_Used) := ⟨rfl, rfl, rfl, by decide +kernel, rfl, by decide +kernel, by decide +kernel⟩
abbrev sInit_OutOfStep : Stmt := meth 29 0
theorem scInit_OutOfStep : FnScope ["self", "asked"] ["self", "asked"] (defScope sInit_OutOfStep) := ⟨rfl, rfl, rfl, by decide +kernel, rfl, by decide +kernel, by decide +kernel⟩
abbrev sInit_EditFailed : Stmt := meth 31 0
theorem scInit_EditFailed : FnScope ["self", "index"] ["self", "index"] (defScope sInit_EditFailed) := ⟨rfl, rfl, rfl, by decide +kernel, rfl, by decide +kernel, by decide +kernel⟩
abbrev sInit_TooMany : Stmt := meth 27 0
theorem scInit_TooMany : FnScope ["self", "limit"] ["self", "limit"] (defScope sInit_TooMany) := ⟨rfl, rfl, rfl, by decide +kernel, rfl, by decide +kernel, by decide +kernel⟩
def tail0 : List Value := [.type "ValueError", .type "Exception", .type "BaseException", .type "object"]
theorem above0 : PySem.W.AboveOk "ValueError" tail0 := ⟨by decide +kernel, by decide +kernel, by decide +kernel, by decide +kernel, PySem.F.store_ValueError.passes⟩
def tail1 : List Value := [.type "KeyError", .type "LookupError", .type "Exception", .type "BaseException", .type "object"]
theorem above1 : PySem.W.AboveOk "LookupError" tail1 := ⟨by decide +kernel, by decide +kernel, by decide +kernel, by decide +kernel, fun _ => by kernel_rfl⟩
def tail2 : List Value := [.type "LookupError", .type "Exception", .type "BaseException", .type "object"]
theorem above2 : PySem.W.AboveOk "LookupError" tail2 := ⟨by decide +kernel, by decide +kernel, by decide +kernel, by decide +kernel, PySem.F.store_LookupError.passes⟩
def tail3 : List Value := [.type "RuntimeError", .type "Exception", .type "BaseException", .type "object"]
theorem above3 : PySem.W.AboveOk "RuntimeError" tail3 := ⟨by decide +kernel, by decide +kernel, by decide +kernel, by decide +kernel, PySem.F.store_RuntimeError.passes⟩
def tail4 : List Value := [.type "OverflowError", .type "ArithmeticError", .type "Exception", .type "BaseException", .type "object"]
theorem above4 : PySem.W.AboveOk "OverflowError" tail4 := ⟨by decide +kernel, by decide +kernel, by decide +kernel, by decide +kernel, PySem.F.store_OverflowError.passes⟩
def bmOf (CA : Addr) (i : Nat) : List Value := if i < 22 then .ref CA :: tail0 else if i < 24 then tail1 else if i < 26 then tail2 else if i < 29 then tail3 else tail4
def blOf (i : Nat) : List Value := if i < 22 then tail0 else if i < 24 then tail1 else if i < 26 then tail2 else if i < 29 then tail3 else tail4
theorem bl_all : ∀ p ∈ aboveB, PySem.W.kitMeta p.1 = true ∧ ∀ i, i < 30 → (blOf i).contains (.type p.1) = p.2 i := by
  intro p hp
  simp only [aboveB, List.mem_cons, List.not_mem_nil, or_false] at hp
  rcases hp with rfl | rfl | rfl | rfl | rfl | rfl | rfl <;> exact ⟨by decide +kernel, by decide +kernel⟩
theorem bex_all : ∀ i, i < 30 → (blOf i).contains (.type "BaseException") = true := by decide +kernel
theorem obj_all : ∀ i, i < 30 → (blOf i).contains (.type "object") = true := by decide +kernel
theorem bm_type {CA : Addr} {i : Nat} {t : String} : (bmOf CA i).contains (.type t) = (blOf i).contains (.type t) := by
  unfold bmOf blOf
  split
  · rw [List.contains_cons]
    rfl
  · rfl
theorem bl_ref : ∀ i, i < 30 → ∀ D : Addr, (blOf i).contains (.ref D) = false := by
  intro i hi D
  unfold blOf
  (repeat' split) <;> rfl
theorem bm_ref {CA D : Addr} {i : Nat} (hi : i < 30) : (bmOf CA i).contains (.ref D) = (decide (i < 22) && decide (CA = D)) := by
  have b := bl_ref i hi D
  unfold bmOf
  unfold blOf at b
  by_cases h : i < 22
  · rw [if_pos h] at b ⊢
    rw [List.contains_cons, b, decide_eq_true h]
    by_cases e : CA = D
    · subst e
      simp
    · have e' : (Value.ref D == Value.ref CA) = false := by
        rw [beq_eq_false_iff_ne]
        exact fun z => e (Value.ref.inj z).symm
      rw [e', decide_eq_false e]
      rfl
  · rw [if_neg h] at b ⊢
    rw [b, decide_eq_false h]
    rfl
/-- the class object of the i-th error -/
def ClsX (K : PySem.W.Frag) (CA : Addr) (i : Nat) (C : Addr) : Prop := ∃ nm q N bs sn sub ab col dd k0 k1 k2 k3 k5 newId, K.lookup C = some (excClassObj nm q C N bs (bmOf CA i) true sn sub ab col dd k0 k1 k2 k3 k5 newId)
section
variable {K : PySem.W.Frag} {CA C D : Addr} {i j : Nat}
theorem ClsX.sub (h : ClsX K CA i C) (u : Value) : PySem.W.subIn K (.ref C) u = some ((Value.ref C :: bmOf CA i).contains u) := by
  obtain ⟨nm, q, N, bs, sn, sub, ab, col, dd, k0, k1, k2, k3, k5, newId, l⟩ := h
  show PySem.W.mroIn K C u = _
  unfold PySem.W.mroIn PySem.W.clsIn
  rw [l]
  rfl
theorem ClsX.cls (h : ClsX K CA i C) : (PySem.W.clsIn K C).isSome = true := by
  obtain ⟨nm, q, N, bs, sn, sub, ab, col, dd, k0, k1, k2, k3, k5, newId, l⟩ := h
  unfold PySem.W.clsIn
  rw [l]
  rfl
theorem ClsX.dct (h : ClsX K CA i C) : PySem.W.hasDictIn K C = true := by
  obtain ⟨nm, q, N, bs, sn, sub, ab, col, dd, k0, k1, k2, k3, k5, newId, l⟩ := h
  unfold PySem.W.hasDictIn PySem.W.clsIn
  rw [l]
  rfl
theorem ClsX.typ (h : ClsX K CA i C) : PySem.W.typeIn K (.ref C) = some (.type "type") := by
  obtain ⟨nm, q, N, bs, sn, sub, ab, col, dd, k0, k1, k2, k3, k5, newId, l⟩ := h
  show (K.lookup C).map (·.cls) = some (.type "type")
  rw [l]
  rfl
theorem ClsX.bex (h : ClsX K CA i C) (j : Nat) (hj : j < 30) (e : j = i := by rfl) : PySem.W.subIn K (.ref C) (.type "BaseException") = some true := by
  subst e
  rw [h.sub, List.contains_cons, bm_type, bex_all j hj]
  rfl
theorem ClsX.obj (h : ClsX K CA i C) (j : Nat) (hj : j < 30) (e : j = i := by rfl) : PySem.W.mroIn K C (.type "object") = some true := by
  subst e
  show PySem.W.subIn K (.ref C) (.type "object") = some true
  rw [h.sub, List.contains_cons, bm_type, obj_all j hj]
  rfl
theorem getD_inj {Cs : List Addr} (nd : Cs.Nodup) (l : Cs.length = 30) : ∀ i j, i < 30 → j < 30 → Cs.getD i 0 = Cs.getD j 0 → i = j := by
  intro i j hi hj e
  rw [← l] at hi hj
  rw [List.getD_eq_getElem?_getD, List.getD_eq_getElem?_getD, List.getElem?_eq_getElem hi, List.getElem?_eq_getElem hj] at e
  have e' : Cs[i] = Cs[j] := e
  have q := List.pairwise_iff_getElem.mp nd
  rcases Nat.lt_trichotomy i j with h | h | h
  · exact absurd e' (q i j hi hj h)
  · exact h
  · exact absurd e'.symm (q j i hj hi h)
theorem getD_ne {Cs : List Addr} {D : Addr} (nd : D ∉ Cs) (l : Cs.length = 30) : ∀ i, i < 30 → Cs.getD i 0 ≠ D := by
  intro i hi e
  rw [← l] at hi
  rw [List.getD_eq_getElem?_getD, List.getElem?_eq_getElem hi] at e
  exact nd (e ▸ List.getElem_mem hi)
theorem kit_sub {u : Value} (h2 : (PySem.W.clsIn K D).isSome = true) (h3 : PySem.W.typeIn K (.ref D) = some (.type "type")) : PySem.W.kitCls K u (.ref D) = PySem.W.subIn K u (.ref D) := by
  show (if ((PySem.W.clsIn K D).isSome && PySem.W.typeIn K (.ref D) == some (.type "type")) = true then PySem.W.subIn K u (.ref D) else none) = _
  rw [h2, h3, if_pos (by rfl)]
theorem ref_ne {a b : Addr} (h : a ≠ b) : (Value.ref a == Value.ref b) = false := by
  rw [beq_eq_false_iff_ne]
  exact fun z => h (Value.ref.inj z)
theorem kits_of {C : Nat → Addr} (x : ∀ i, i < 30 → ClsX K CA i (C i)) (cA : PySem.W.isClsIn K CA = true) (tA : PySem.W.typeIn K (.ref CA) = some (.type "type")) (inj : ∀ i j, i < 30 → j < 30 → C i = C j → i = j) (nA : ∀ i, i < 30 → C i ≠ CA) : Kits K CA C where
  own := fun i j hi hj => by
    by_cases h : i = j
    · subst h
      rw [decide_eq_true rfl]
      show (if (Value.ref (C i) == Value.ref (C i)) = true then some true else PySem.W.kitCls K (.ref (C i)) (.ref (C i))) = some true
      rw [if_pos (by simp)]
    · have ne : C i ≠ C j := fun e => h (inj i j hi hj e)
      show (if (Value.ref (C i) == Value.ref (C j)) = true then some true else PySem.W.kitCls K (.ref (C i)) (.ref (C j))) = some (decide (i = j))
      rw [ref_ne ne, if_neg Bool.false_ne_true, kit_sub (x j hj).cls (x j hj).typ, (x i hi).sub, List.contains_cons, bm_ref hi, ref_ne (Ne.symm ne), decide_eq_false h, decide_eq_false (Ne.symm (nA j hj))]
      simp
  ans := fun i hi => by
    show (if (Value.ref (C i) == Value.ref CA) = true then some true else PySem.W.kitCls K (.ref (C i)) (.ref CA)) = some (decide (i < 22))
    rw [ref_ne (nA i hi), if_neg Bool.false_ne_true, kit_sub (show (PySem.W.clsIn K CA).isSome = true from cA) tA, (x i hi).sub, List.contains_cons, bm_ref hi, ref_ne (Ne.symm (nA i hi)), decide_eq_true (rfl : CA = CA)]
    simp
  blt := fun i hi t f hm => by
    obtain ⟨h1, h2⟩ := bl_all (t, f) hm
    have e : (Value.ref (C i) == Value.type t) = false := rfl
    show (if (Value.ref (C i) == Value.type t) = true then some true else (if PySem.W.kitMeta t = true then PySem.W.subIn K (.ref (C i)) (.type t) else none)) = some (f i)
    rw [e, if_neg Bool.false_ne_true, if_pos h1, (x i hi).sub, List.contains_cons, bm_type, h2 i hi]
    rfl
end
theorem all30 {P : Nat → Prop} (h : P 0 ∧ P 1 ∧ P 2 ∧ P 3 ∧ P 4 ∧ P 5 ∧ P 6 ∧ P 7 ∧ P 8 ∧ P 9 ∧ P 10 ∧ P 11 ∧ P 12 ∧ P 13 ∧ P 14 ∧ P 15 ∧ P 16 ∧ P 17 ∧ P 18 ∧ P 19 ∧ P 20 ∧ P 21 ∧ P 22 ∧ P 23 ∧ P 24 ∧ P 25 ∧ P 26 ∧ P 27 ∧ P 28 ∧ P 29) : ∀ i, i < 30 → P i := by
  obtain ⟨p0, p1, p2, p3, p4, p5, p6, p7, p8, p9, p10, p11, p12, p13, p14, p15, p16, p17, p18, p19, p20, p21, p22, p23, p24, p25, p26, p27, p28, p29⟩ := h
  intro i hi
  have c : i = 0 ∨ i = 1 ∨ i = 2 ∨ i = 3 ∨ i = 4 ∨ i = 5 ∨ i = 6 ∨ i = 7 ∨ i = 8 ∨ i = 9 ∨ i = 10 ∨ i = 11 ∨ i = 12 ∨ i = 13 ∨ i = 14 ∨ i = 15 ∨ i = 16 ∨ i = 17 ∨ i = 18 ∨ i = 19 ∨ i = 20 ∨ i = 21 ∨ i = 22 ∨ i = 23 ∨ i = 24 ∨ i = 25 ∨ i = 26 ∨ i = 27 ∨ i = 28 ∨ i = 29 := by omega
  rcases c with rfl | rfl | rfl | rfl | rfl | rfl | rfl | rfl | rfl | rfl | rfl | rfl | rfl | rfl | rfl | rfl | rfl | rfl | rfl | rfl | rfl | rfl | rfl | rfl | rfl | rfl | rfl | rfl | rfl | rfl <;> assumption
section
variable {P : Program} {w : World} {K : PySem.W.Frag} {mg : Str → Option Value} {base : Heap}
theorem ok_init_NoName {C fI : Addr} {fd : FuncData} (T : Eb.ErrB K mg "NoName" "value" C) (F : Fun K "__init__" "NoName.__init__" sInit_NoName fI fd) : FnOk P w K mg base CX0 1 fI fd ["self", "value"] (Ex.spInit C "value") := by
  refine F.ok scInit_NoName (fun vs H Q E h => ?_) (fun cdv A outer s H vs Q E hr h => ⟨_, pss_one (Eb.ps_set T (pv 0) (pv 1)), ?_⟩)
  · obtain ⟨a, v, rfl, _⟩ := h
    rfl
  · obtain ⟨a, v, rfl, ha, q⟩ := h
    exact ⟨_, rfl, _, rfl, a, rfl, ha, q⟩
theorem ok_init_NoWays {C fI : Addr} {fd : FuncData} (T : Eb.ErrB K mg "NoWays" "operation" C) (F : Fun K "__init__" "NoWays.__init__" sInit_NoWays fI fd) : FnOk P w K mg base CX0 1 fI fd ["self", "operation"] (Ex.spInit C "operation") := by
  refine F.ok scInit_NoWays (fun vs H Q E h => ?_) (fun cdv A outer s H vs Q E hr h => ⟨_, pss_one (Eb.ps_set T (pv 0) (pv 1)), ?_⟩)
  · obtain ⟨a, v, rfl, _⟩ := h
    rfl
  · obtain ⟨a, v, rfl, ha, q⟩ := h
    exact ⟨_, rfl, _, rfl, a, rfl, ha, q⟩
theorem ok_init_NoFlag {C fI : Addr} {fd : FuncData} (T : Eb.ErrB K mg "NoFlag" "value" C) (F : Fun K "__init__" "NoFlag.__init__" sInit_NoFlag fI fd) : FnOk P w K mg base CX0 1 fI fd ["self", "value"] (Ex.spInit C "value") := by
  refine F.ok scInit_NoFlag (fun vs H Q E h => ?_) (fun cdv A outer s H vs Q E hr h => ⟨_, pss_one (Eb.ps_set T (pv 0) (pv 1)), ?_⟩)
  · obtain ⟨a, v, rfl, _⟩ := h
    rfl
  · obtain ⟨a, v, rfl, ha, q⟩ := h
    exact ⟨_, rfl, _, rfl, a, rfl, ha, q⟩
theorem ok_init_NoBook {C fI : Addr} {fd : FuncData} (T : Eb.ErrB K mg "NoBook" "value" C) (F : Fun K "__init__" "NoBook.__init__" sInit_NoBook fI fd) : FnOk P w K mg base CX0 1 fI fd ["self", "value"] (Ex.spInit C "value") := by
  refine F.ok scInit_NoBook (fun vs H Q E h => ?_) (fun cdv A outer s H vs Q E hr h => ⟨_, pss_one (Eb.ps_set T (pv 0) (pv 1)), ?_⟩)
  · obtain ⟨a, v, rfl, _⟩ := h
    rfl
  · obtain ⟨a, v, rfl, ha, q⟩ := h
    exact ⟨_, rfl, _, rfl, a, rfl, ha, q⟩
theorem ok_init_NoBody {C fI : Addr} {fd : FuncData} (T : Eb.ErrB K mg "NoBody" "place" C) (F : Fun K "__init__" "NoBody.__init__" sInit_NoBody fI fd) : FnOk P w K mg base CX0 1 fI fd ["self", "place"] (Ex.spInit C "place") := by
  refine F.ok scInit_NoBody (fun vs H Q E h => ?_) (fun cdv A outer s H vs Q E hr h => ⟨_, pss_one (Eb.ps_set T (pv 0) (pv 1)), ?_⟩)
  · obtain ⟨a, v, rfl, _⟩ := h
    rfl
  · obtain ⟨a, v, rfl, ha, q⟩ := h
    exact ⟨_, rfl, _, rfl, a, rfl, ha, q⟩
theorem ok_init_NoEntry {C fI : Addr} {fd : FuncData} (T : Eb.ErrB K mg "NoEntry" "method" C) (F : Fun K "__init__" "NoEntry.__init__" sInit_NoEntry fI fd) : FnOk P w K mg base CX0 1 fI fd ["self", "method"] (Ex.spInit C "method") := by
  refine F.ok scInit_NoEntry (fun vs H Q E h => ?_) (fun cdv A outer s H vs Q E hr h => ⟨_, pss_one (Eb.ps_set T (pv 0) (pv 1)), ?_⟩)
  · obtain ⟨a, v, rfl, _⟩ := h
    rfl
  · obtain ⟨a, v, rfl, ha, q⟩ := h
    exact ⟨_, rfl, _, rfl, a, rfl, ha, q⟩
theorem ok_init_NoTable {C fI : Addr} {fd : FuncData} (T : Eb.ErrB K mg "NoTable" "value" C) (F : Fun K "__init__" "NoTable.__init__" sInit_NoTable fI fd) : FnOk P w K mg base CX0 1 fI fd ["self", "value"] (Ex.spInit C "value") := by
  refine F.ok scInit_NoTable (fun vs H Q E h => ?_) (fun cdv A outer s H vs Q E hr h => ⟨_, pss_one (Eb.ps_set T (pv 0) (pv 1)), ?_⟩)
  · obtain ⟨a, v, rfl, _⟩ := h
    rfl
  · obtain ⟨a, v, rfl, ha, q⟩ := h
    exact ⟨_, rfl, _, rfl, a, rfl, ha, q⟩
theorem ok_init_NoOperand {C fI : Addr} {fd : FuncData} (T : Eb.ErrB K mg "NoOperand" "value" C) (F : Fun K "__init__" "NoOperand.__init__" sInit_NoOperand fI fd) : FnOk P w K mg base CX0 1 fI fd ["self", "value"] (Ex.spInit C "value") := by
  refine F.ok scInit_NoOperand (fun vs H Q E h => ?_) (fun cdv A outer s H vs Q E hr h => ⟨_, pss_one (Eb.ps_set T (pv 0) (pv 1)), ?_⟩)
  · obtain ⟨a, v, rfl, _⟩ := h
    rfl
  · obtain ⟨a, v, rfl, ha, q⟩ := h
    exact ⟨_, rfl, _, rfl, a, rfl, ha, q⟩
theorem ok_init_NoScene {C fI : Addr} {fd : FuncData} (T : Eb.ErrB K mg "NoScene" "value" C) (F : Fun K "__init__" "NoScene.__init__" sInit_NoScene fI fd) : FnOk P w K mg base CX0 1 fI fd ["self", "value"] (Ex.spInit C "value") := by
  refine F.ok scInit_NoScene (fun vs H Q E h => ?_) (fun cdv A outer s H vs Q E hr h => ⟨_, pss_one (Eb.ps_set T (pv 0) (pv 1)), ?_⟩)
  · obtain ⟨a, v, rfl, _⟩ := h
    rfl
  · obtain ⟨a, v, rfl, ha, q⟩ := h
    exact ⟨_, rfl, _, rfl, a, rfl, ha, q⟩
theorem ok_init_NoScript {C fI : Addr} {fd : FuncData} (T : Eb.ErrB K mg "NoScript" "index" C) (F : Fun K "__init__" "NoScript.__init__" sInit_NoScript fI fd) : FnOk P w K mg base CX0 1 fI fd ["self", "index"] (Ex.spInit C "index") := by
  refine F.ok scInit_NoScript (fun vs H Q E h => ?_) (fun cdv A outer s H vs Q E hr h => ⟨_, pss_one (Eb.ps_set T (pv 0) (pv 1)), ?_⟩)
  · obtain ⟨a, v, rfl, _⟩ := h
    rfl
  · obtain ⟨a, v, rfl, ha, q⟩ := h
    exact ⟨_, rfl, _, rfl, a, rfl, ha, q⟩
theorem ok_init_NoNumber {C fI : Addr} {fd : FuncData} (T : Eb.ErrB K mg "NoNumber" "value" C) (F : Fun K "__init__" "NoNumber.__init__" sInit_NoNumber fI fd) : FnOk P w K mg base CX0 1 fI fd ["self", "value"] (Ex.spInit C "value") := by
  refine F.ok scInit_NoNumber (fun vs H Q E h => ?_) (fun cdv A outer s H vs Q E hr h => ⟨_, pss_one (Eb.ps_set T (pv 0) (pv 1)), ?_⟩)
  · obtain ⟨a, v, rfl, _⟩ := h
    rfl
  · obtain ⟨a, v, rfl, ha, q⟩ := h
    exact ⟨_, rfl, _, rfl, a, rfl, ha, q⟩
theorem ok_init_NoMachine {C fI : Addr} {fd : FuncData} (T : Eb.ErrB K mg "NoMachine" "row" C) (F : Fun K "__init__" "NoMachine.__init__" sInit_NoMachine fI fd) : FnOk P w K mg base CX0 1 fI fd ["self", "row"] (Ex.spInit C "row") := by
  refine F.ok scInit_NoMachine (fun vs H Q E h => ?_) (fun cdv A outer s H vs Q E hr h => ⟨_, pss_one (Eb.ps_set T (pv 0) (pv 1)), ?_⟩)
  · obtain ⟨a, v, rfl, _⟩ := h
    rfl
  · obtain ⟨a, v, rfl, ha, q⟩ := h
    exact ⟨_, rfl, _, rfl, a, rfl, ha, q⟩
theorem ok_init_NoPair {C fI : Addr} {fd : FuncData} (T : Eb.ErrB K mg "NoPair" "value" C) (F : Fun K "__init__" "NoPair.__init__" sInit_NoPair fI fd) : FnOk P w K mg base CX0 1 fI fd ["self", "value"] (Ex.spInit C "value") := by
  refine F.ok scInit_NoPair (fun vs H Q E h => ?_) (fun cdv A outer s H vs Q E hr h => ⟨_, pss_one (Eb.ps_set T (pv 0) (pv 1)), ?_⟩)
  · obtain ⟨a, v, rfl, _⟩ := h
    rfl
  · obtain ⟨a, v, rfl, ha, q⟩ := h
    exact ⟨_, rfl, _, rfl, a, rfl, ha, q⟩
theorem ok_init_NoPaper {C fI : Addr} {fd : FuncData} (T : Eb.ErrB K mg "NoPaper" "index" C) (F : Fun K "__init__" "NoPaper.__init__" sInit_NoPaper fI fd) : FnOk P w K mg base CX0 1 fI fd ["self", "index"] (Ex.spInit C "index") := by
  refine F.ok scInit_NoPaper (fun vs H Q E h => ?_) (fun cdv A outer s H vs Q E hr h => ⟨_, pss_one (Eb.ps_set T (pv 0) (pv 1)), ?_⟩)
  · obtain ⟨a, v, rfl, _⟩ := h
    rfl
  · obtain ⟨a, v, rfl, ha, q⟩ := h
    exact ⟨_, rfl, _, rfl, a, rfl, ha, q⟩
theorem ok_init_NotNamed {C fI : Addr} {fd : FuncData} (T : Eb.ErrB K mg "NotNamed" "method" C) (F : Fun K "__init__" "NotNamed.__init__" sInit_NotNamed fI fd) : FnOk P w K mg base CX0 1 fI fd ["self", "method"] (Ex.spInit C "method") := by
  refine F.ok scInit_NotNamed (fun vs H Q E h => ?_) (fun cdv A outer s H vs Q E hr h => ⟨_, pss_one (Eb.ps_set T (pv 0) (pv 1)), ?_⟩)
  · obtain ⟨a, v, rfl, _⟩ := h
    rfl
  · obtain ⟨a, v, rfl, ha, q⟩ := h
    exact ⟨_, rfl, _, rfl, a, rfl, ha, q⟩
theorem ok_init_NoRelation {C fI : Addr} {fd : FuncData} (T : Eb.ErrB K mg "NoRelation" "value" C) (F : Fun K "__init__" "NoRelation.__init__" sInit_NoRelation fI fd) : FnOk P w K mg base CX0 1 fI fd ["self", "value"] (Ex.spInit C "value") := by
  refine F.ok scInit_NoRelation (fun vs H Q E h => ?_) (fun cdv A outer s H vs Q E hr h => ⟨_, pss_one (Eb.ps_set T (pv 0) (pv 1)), ?_⟩)
  · obtain ⟨a, v, rfl, _⟩ := h
    rfl
  · obtain ⟨a, v, rfl, ha, q⟩ := h
    exact ⟨_, rfl, _, rfl, a, rfl, ha, q⟩
theorem ok_init_NoAgreement {C fI : Addr} {fd : FuncData} (T : Eb.ErrB K mg "NoAgreement" "value" C) (F : Fun K "__init__" "NoAgreement.__init__" sInit_NoAgreement fI fd) : FnOk P w K mg base CX0 1 fI fd ["self", "value"] (Ex.spInit C "value") := by
  refine F.ok scInit_NoAgreement (fun vs H Q E h => ?_) (fun cdv A outer s H vs Q E hr h => ⟨_, pss_one (Eb.ps_set T (pv 0) (pv 1)), ?_⟩)
  · obtain ⟨a, v, rfl, _⟩ := h
    rfl
  · obtain ⟨a, v, rfl, ha, q⟩ := h
    exact ⟨_, rfl, _, rfl, a, rfl, ha, q⟩
theorem ok_init_NoStock {C fI : Addr} {fd : FuncData} (T : Eb.ErrB K mg "NoStock" "index" C) (F : Fun K "__init__" "NoStock.__init__" sInit_NoStock fI fd) : FnOk P w K mg base CX0 1 fI fd ["self", "index"] (Ex.spInit C "index") := by
  refine F.ok scInit_NoStock (fun vs H Q E h => ?_) (fun cdv A outer s H vs Q E hr h => ⟨_, pss_one (Eb.ps_set T (pv 0) (pv 1)), ?_⟩)
  · obtain ⟨a, v, rfl, _⟩ := h
    rfl
  · obtain ⟨a, v, rfl, ha, q⟩ := h
    exact ⟨_, rfl, _, rfl, a, rfl, ha, q⟩
theorem ok_init_NoWish {C fI : Addr} {fd : FuncData} (T : Eb.ErrB K mg "NoWish" "index" C) (F : Fun K "__init__" "NoWish.__init__" sInit_NoWish fI fd) : FnOk P w K mg base CX0 1 fI fd ["self", "index"] (Ex.spInit C "index") := by
  refine F.ok scInit_NoWish (fun vs H Q E h => ?_) (fun cdv A outer s H vs Q E hr h => ⟨_, pss_one (Eb.ps_set T (pv 0) (pv 1)), ?_⟩)
  · obtain ⟨a, v, rfl, _⟩ := h
    rfl
  · obtain ⟨a, v, rfl, ha, q⟩ := h
    exact ⟨_, rfl, _, rfl, a, rfl, ha, q⟩
theorem ok_init_NoChoice {C fI : Addr} {fd : FuncData} (T : Eb.ErrB K mg "NoChoice" "value" C) (F : Fun K "__init__" "NoChoice.__init__" sInit_NoChoice fI fd) : FnOk P w K mg base CX0 1 fI fd ["self", "value"] (Ex.spInit C "value") := by
  refine F.ok scInit_NoChoice (fun vs H Q E h => ?_) (fun cdv A outer s H vs Q E hr h => ⟨_, pss_one (Eb.ps_set T (pv 0) (pv 1)), ?_⟩)
  · obtain ⟨a, v, rfl, _⟩ := h
    rfl
  · obtain ⟨a, v, rfl, ha, q⟩ := h
    exact ⟨_, rfl, _, rfl, a, rfl, ha, q⟩
theorem ok_init_NoEdit {C fI : Addr} {fd : FuncData} (T : Eb.ErrB K mg "NoEdit" "index" C) (F : Fun K "__init__" "NoEdit.__init__" sInit_NoEdit fI fd) : FnOk P w K mg base CX0 1 fI fd ["self", "index"] (Ex.spInit C "index") := by
  refine F.ok scInit_NoEdit (fun vs H Q E h => ?_) (fun cdv A outer s H vs Q E hr h => ⟨_, pss_one (Eb.ps_set T (pv 0) (pv 1)), ?_⟩)
  · obtain ⟨a, v, rfl, _⟩ := h
    rfl
  · obtain ⟨a, v, rfl, ha, q⟩ := h
    exact ⟨_, rfl, _, rfl, a, rfl, ha, q⟩
theorem ok_init_NoNote {C fI : Addr} {fd : FuncData} (T : Eb.ErrB K mg "NoNote" "line" C) (F : Fun K "__init__" "NoNote.__init__" sInit_NoNote fI fd) : FnOk P w K mg base CX0 1 fI fd ["self", "line"] (Ex.spInit C "line") := by
  refine F.ok scInit_NoNote (fun vs H Q E h => ?_) (fun cdv A outer s H vs Q E hr h => ⟨_, pss_one (Eb.ps_set T (pv 0) (pv 1)), ?_⟩)
  · obtain ⟨a, v, rfl, _⟩ := h
    rfl
  · obtain ⟨a, v, rfl, ha, q⟩ := h
    exact ⟨_, rfl, _, rfl, a, rfl, ha, q⟩
theorem ok_init_NoClass {C fI : Addr} {fd : FuncData} (T : Eb.ErrB K mg "NoClass" "name" C) (F : Fun K "__init__" "NoClass.__init__" sInit_NoClass fI fd) : FnOk P w K mg base CX0 1 fI fd ["self", "name"] (Ex.spInit C "name") := by
  refine F.ok scInit_NoClass (fun vs H Q E h => ?_) (fun cdv A outer s H vs Q E hr h => ⟨_, pss_one (Eb.ps_set T (pv 0) (pv 1)), ?_⟩)
  · obtain ⟨a, v, rfl, _⟩ := h
    rfl
  · obtain ⟨a, v, rfl, ha, q⟩ := h
    exact ⟨_, rfl, _, rfl, a, rfl, ha, q⟩
theorem ok_init_Unanswered {C fI : Addr} {fd : FuncData} (T : Eb.ErrB K mg "Unanswered" "asked" C) (F : Fun K "__init__" "Unanswered.__init__" sInit_Unanswered fI fd) : FnOk P w K mg base CX0 1 fI fd ["self", "asked"] (Ex.spInit C "asked") := by
  refine F.ok scInit_Unanswered (fun vs H Q E h => ?_) (fun cdv A outer s H vs Q E hr h => ⟨_, pss_one (Eb.ps_set T (pv 0) (pv 1)), ?_⟩)
  · obtain ⟨a, v, rfl, _⟩ := h
    rfl
  · obtain ⟨a, v, rfl, ha, q⟩ := h
    exact ⟨_, rfl, _, rfl, a, rfl, ha, q⟩
theorem ok_init_NoOrder {C fI : Addr} {fd : FuncData} (T : Eb.ErrB K mg "NoOrder" "name" C) (F : Fun K "__init__" "NoOrder.__init__" sInit_NoOrder fI fd) : FnOk P w K mg base CX0 1 fI fd ["self", "name"] (Ex.spInit C "name") := by
  refine F.ok scInit_NoOrder (fun vs H Q E h => ?_) (fun cdv A outer s H vs Q E hr h => ⟨_, pss_one (Eb.ps_set T (pv 0) (pv 1)), ?_⟩)
  · obtain ⟨a, v, rfl, _⟩ := h
    rfl
  · obtain ⟨a, v, rfl, ha, q⟩ := h
    exact ⟨_, rfl, _, rfl, a, rfl, ha, q⟩
theorem ok_init_Parted {C fI : Addr} {fd : FuncData} (T : Eb.ErrB K mg "Parted" "script" C) (F : Fun K "__init__" "Parted.__init__" sInit_Parted fI fd) : FnOk P w K mg base CX0 1 fI fd ["self", "script"] (Ex.spInit C "script") := by
  refine F.ok scInit_Parted (fun vs H Q E h => ?_) (fun cdv A outer s H vs Q E hr h => ⟨_, pss_one (Eb.ps_set T (pv 0) (pv 1)), ?_⟩)
  · obtain ⟨a, v, rfl, _⟩ := h
    rfl
  · obtain ⟨a, v, rfl, ha, q⟩ := h
    exact ⟨_, rfl, _, rfl, a, rfl, ha, q⟩
theorem ok_init_Used {C fI : Addr} {fd : FuncData} (T : Eb.ErrB K mg "Used" "name" C) (F : Fun K "__init__" "Used.__init__" sInit_Used fI fd) : FnOk P w K mg base CX0 1 fI fd ["self", "name"] (Ex.spInit C "name") := by
  refine F.ok scInit_Used (fun vs H Q E h => ?_) (fun cdv A outer s H vs Q E hr h => ⟨_, pss_one (Eb.ps_set T (pv 0) (pv 1)), ?_⟩)
  · obtain ⟨a, v, rfl, _⟩ := h
    rfl
  · obtain ⟨a, v, rfl, ha, q⟩ := h
    exact ⟨_, rfl, _, rfl, a, rfl, ha, q⟩
theorem ok_init_OutOfStep {C fI : Addr} {fd : FuncData} (T : Eb.ErrB K mg "OutOfStep" "asked" C) (F : Fun K "__init__" "OutOfStep.__init__" sInit_OutOfStep fI fd) : FnOk P w K mg base CX0 1 fI fd ["self", "asked"] (Ex.spInit C "asked") := by
  refine F.ok scInit_OutOfStep (fun vs H Q E h => ?_) (fun cdv A outer s H vs Q E hr h => ⟨_, pss_one (Eb.ps_set T (pv 0) (pv 1)), ?_⟩)
  · obtain ⟨a, v, rfl, _⟩ := h
    rfl
  · obtain ⟨a, v, rfl, ha, q⟩ := h
    exact ⟨_, rfl, _, rfl, a, rfl, ha, q⟩
theorem ok_init_EditFailed {C fI : Addr} {fd : FuncData} (T : Eb.ErrB K mg "EditFailed" "index" C) (F : Fun K "__init__" "EditFailed.__init__" sInit_EditFailed fI fd) : FnOk P w K mg base CX0 1 fI fd ["self", "index"] (Ex.spInit C "index") := by
  refine F.ok scInit_EditFailed (fun vs H Q E h => ?_) (fun cdv A outer s H vs Q E hr h => ⟨_, pss_one (Eb.ps_set T (pv 0) (pv 1)), ?_⟩)
  · obtain ⟨a, v, rfl, _⟩ := h
    rfl
  · obtain ⟨a, v, rfl, ha, q⟩ := h
    exact ⟨_, rfl, _, rfl, a, rfl, ha, q⟩
theorem ok_init_TooMany {C fI : Addr} {fd : FuncData} (T : Eb.ErrB K mg "TooMany" "limit" C) (F : Fun K "__init__" "TooMany.__init__" sInit_TooMany fI fd) : FnOk P w K mg base CX0 1 fI fd ["self", "limit"] (Ex.spInit C "limit") := by
  refine F.ok scInit_TooMany (fun vs H Q E h => ?_) (fun cdv A outer s H vs Q E hr h => ⟨_, pss_one (Eb.ps_set T (pv 0) (pv 1)), ?_⟩)
  · obtain ⟨a, v, rfl, _⟩ := h
    rfl
  · obtain ⟨a, v, rfl, ha, q⟩ := h
    exact ⟨_, rfl, _, rfl, a, rfl, ha, q⟩
end
end Ab
namespace Ab
open PySem.Spec PyProof.Rows
theorem all_mk {l : PySem.W.OpenLaw} {w : World} {K : PySem.W.Frag} {h : Heap} {mg : Str → Option Value} {fa : Addr} (X : K.In h) (G : h.Ns mainGlobals mg) (hfa : mg "law" = some (.ref fa))
    {f1 : Addr}
    (a1 : PySem.W.nsIn K mainGlobals "_law_pool" = some (some (.ref f1)))
    {od1 an1 : Option Addr} {sl1 : Array (Option Value)} {oc1 kV1 dc1 pm1 cd1 ct1 : Value}
    (l1 : K.lookup f1 = some ⟨oc1, od1, .func (PySem.W.fnOf "_law_pool" "_law_pool" (defArgs sL_pool) (defBody sL_pool) (defScope sL_pool) .none kV1 dc1 pm1 an1 cd1 ct1), sl1⟩)
    (c1 : PySem.W.codeIn K cd1 "_law_pool" = true)
    (k1 : PySem.W.keepIn K (.ref f1) = true)
    {f2 : Addr}
    (a2 : PySem.W.nsIn K mainGlobals "_law_take" = some (some (.ref f2)))
    {od2 an2 : Option Addr} {sl2 : Array (Option Value)} {oc2 kV2 dc2 pm2 cd2 ct2 : Value}
    (l2 : K.lookup f2 = some ⟨oc2, od2, .func (PySem.W.fnOf "_law_take" "_law_take" (defArgs sL_take) (defBody sL_take) (defScope sL_take) .none kV2 dc2 pm2 an2 cd2 ct2), sl2⟩)
    (c2 : PySem.W.codeIn K cd2 "_law_take" = true)
    (k2 : PySem.W.keepIn K (.ref f2) = true)
    {f3 : Addr}
    (a3 : PySem.W.nsIn K mainGlobals "_law_one" = some (some (.ref f3)))
    {od3 an3 : Option Addr} {sl3 : Array (Option Value)} {oc3 kV3 dc3 pm3 cd3 ct3 : Value}
    (l3 : K.lookup f3 = some ⟨oc3, od3, .func (PySem.W.fnOf "_law_one" "_law_one" (defArgs sL_one) (defBody sL_one) (defScope sL_one) .none kV3 dc3 pm3 an3 cd3 ct3), sl3⟩)
    (c3 : PySem.W.codeIn K cd3 "_law_one" = true)
    (k3 : PySem.W.keepIn K (.ref f3) = true)
    {f4 : Addr}
    (a4 : PySem.W.nsIn K mainGlobals "_law_placed" = some (some (.ref f4)))
    {od4 an4 : Option Addr} {sl4 : Array (Option Value)} {oc4 kV4 dc4 pm4 cd4 ct4 : Value}
    (l4 : K.lookup f4 = some ⟨oc4, od4, .func (PySem.W.fnOf "_law_placed" "_law_placed" (defArgs sL_placed) (defBody sL_placed) (defScope sL_placed) .none kV4 dc4 pm4 an4 cd4 ct4), sl4⟩)
    (c4 : PySem.W.codeIn K cd4 "_law_placed" = true)
    (k4 : PySem.W.keepIn K (.ref f4) = true)
    {f5 : Addr}
    (a5 : PySem.W.nsIn K mainGlobals "_law_called" = some (some (.ref f5)))
    {od5 an5 : Option Addr} {sl5 : Array (Option Value)} {oc5 kV5 dc5 pm5 cd5 ct5 : Value}
    (l5 : K.lookup f5 = some ⟨oc5, od5, .func (PySem.W.fnOf "_law_called" "_law_called" (defArgs sL_called) (defBody sL_called) (defScope sL_called) .none kV5 dc5 pm5 an5 cd5 ct5), sl5⟩)
    (c5 : PySem.W.codeIn K cd5 "_law_called" = true)
    (k5 : PySem.W.keepIn K (.ref f5) = true)
    {f6 : Addr}
    (a6 : PySem.W.nsIn K mainGlobals "_law_fields" = some (some (.ref f6)))
    {od6 an6 : Option Addr} {sl6 : Array (Option Value)} {oc6 kV6 dc6 pm6 cd6 ct6 : Value}
    (l6 : K.lookup f6 = some ⟨oc6, od6, .func (PySem.W.fnOf "_law_fields" "_law_fields" (defArgs sL_fields) (defBody sL_fields) (defScope sL_fields) .none kV6 dc6 pm6 an6 cd6 ct6), sl6⟩)
    (c6 : PySem.W.codeIn K cd6 "_law_fields" = true)
    (k6 : PySem.W.keepIn K (.ref f6) = true)
    {f7 : Addr}
    (a7 : PySem.W.nsIn K mainGlobals "_law_kinds" = some (some (.ref f7)))
    {od7 an7 : Option Addr} {sl7 : Array (Option Value)} {oc7 kV7 dc7 pm7 cd7 ct7 : Value}
    (l7 : K.lookup f7 = some ⟨oc7, od7, .func (PySem.W.fnOf "_law_kinds" "_law_kinds" (defArgs sL_kinds) (defBody sL_kinds) (defScope sL_kinds) .none kV7 dc7 pm7 an7 cd7 ct7), sl7⟩)
    (c7 : PySem.W.codeIn K cd7 "_law_kinds" = true)
    (k7 : PySem.W.keepIn K (.ref f7) = true)
    {f8 : Addr}
    (a8 : PySem.W.nsIn K mainGlobals "_law_above" = some (some (.ref f8)))
    {od8 an8 : Option Addr} {sl8 : Array (Option Value)} {oc8 kV8 dc8 pm8 cd8 ct8 : Value}
    (l8 : K.lookup f8 = some ⟨oc8, od8, .func (PySem.W.fnOf "_law_above" "_law_above" (defArgs sL_above) (defBody sL_above) (defScope sL_above) .none kV8 dc8 pm8 an8 cd8 ct8), sl8⟩)
    (c8 : PySem.W.codeIn K cd8 "_law_above" = true)
    (k8 : PySem.W.keepIn K (.ref f8) = true)
    {f9 : Addr}
    (a9 : PySem.W.nsIn K mainGlobals "_law_due" = some (some (.ref f9)))
    {od9 an9 : Option Addr} {sl9 : Array (Option Value)} {oc9 kV9 dc9 pm9 cd9 ct9 : Value}
    (l9 : K.lookup f9 = some ⟨oc9, od9, .func (PySem.W.fnOf "_law_due" "_law_due" (defArgs sL_due) (defBody sL_due) (defScope sL_due) .none kV9 dc9 pm9 an9 cd9 ct9), sl9⟩)
    (c9 : PySem.W.codeIn K cd9 "_law_due" = true)
    (k9 : PySem.W.keepIn K (.ref f9) = true)
    {f10 : Addr}
    (a10 : PySem.W.nsIn K mainGlobals "law" = some (some (.ref f10)))
    {od10 an10 : Option Addr} {sl10 : Array (Option Value)} {oc10 kV10 dc10 pm10 cd10 ct10 : Value}
    (l10 : K.lookup f10 = some ⟨oc10, od10, .func (PySem.W.fnOf "law" "law" (defArgs sLaw) (defBody sLaw) (defScope sLaw) .none kV10 dc10 pm10 an10 cd10 ct10), sl10⟩)
    (c10 : PySem.W.codeIn K cd10 "law" = true)
    (k10 : PySem.W.keepIn K (.ref f10) = true)
    (z_int : PySem.W.nsIn K mainGlobals "int" = some none)
    (z_len : PySem.W.nsIn K mainGlobals "len" = some none)
    (z_max : PySem.W.nsIn K mainGlobals "max" = some none)
    (z_min : PySem.W.nsIn K mainGlobals "min" = some none)
    (z_isinstance : PySem.W.nsIn K mainGlobals "isinstance" = some none)
    (z_range : PySem.W.nsIn K mainGlobals "range" = some none)
    (z_list : PySem.W.nsIn K mainGlobals "list" = some none)
    (z_dict : PySem.W.nsIn K mainGlobals "dict" = some none)
    (z_tuple : PySem.W.nsIn K mainGlobals "tuple" = some none)
    (z_str : PySem.W.nsIn K mainGlobals "str" = some none)
    (z_repr : PySem.W.nsIn K mainGlobals "repr" = some none)
    (z_enumerate : PySem.W.nsIn K mainGlobals "enumerate" = some none)
    (z_ValueError : PySem.W.nsIn K mainGlobals "ValueError" = some none)
    (z_KeyError : PySem.W.nsIn K mainGlobals "KeyError" = some none)
    (z_LookupError : PySem.W.nsIn K mainGlobals "LookupError" = some none)
    (z_RuntimeError : PySem.W.nsIn K mainGlobals "RuntimeError" = some none)
    (z_OverflowError : PySem.W.nsIn K mainGlobals "OverflowError" = some none)
    (z_ArithmeticError : PySem.W.nsIn K mainGlobals "ArithmeticError" = some none)
    (z_IndexError : PySem.W.nsIn K mainGlobals "IndexError" = some none)
    {CA : Addr}
    (aA : PySem.W.nsIn K mainGlobals "AnswerError" = some (some (.ref CA)))
    (hsp : PySem.W.specialIn K (.builtin "object.__class__") "__get__" = some (some (.builtin "getset_descriptor.__get__")))
    (htk : PySem.W.takesIn K (.builtin "object.__class__") = some true)
    (cC_A : PySem.W.isClsIn K CA = true)
    (tC_A : PySem.W.typeIn K (.ref CA) = some (.type "type"))
    {C_NoName N_NoName : Addr} {nm_NoName q_NoName : Str} {bs_NoName : List Value} {sn_NoName : List Str} {sub_NoName : List Value} {ab_NoName : Bool} {col_NoName : Option Bool} {dd_NoName : Option Addr} {m0_NoName m1_NoName m2_NoName m3_NoName m5_NoName : Option Value}
    (aC_NoName : PySem.W.nsIn K mainGlobals "NoName" = some (some (.ref C_NoName)))
    (xL_NoName : K.lookup C_NoName = some (excClassObj nm_NoName q_NoName C_NoName N_NoName bs_NoName (.ref CA :: [.type "ValueError", .type "Exception", .type "BaseException", .type "object"]) true sn_NoName sub_NoName ab_NoName col_NoName dd_NoName m0_NoName m1_NoName m2_NoName m3_NoName m5_NoName "ValueError.__new__"))
    (sa_NoName : PySem.W.findIn K (.ref C_NoName) "__setattr__" = some (some (.builtin "object.__setattr__")))
    (kC_NoName : PySem.W.keepIn K (.ref C_NoName) = true)
    (ga_NoName : PySem.W.findIn K (.ref C_NoName) "__getattribute__" = some (some (.builtin "BaseException.__getattribute__")))
    (gg_NoName : PySem.W.findIn K (.ref C_NoName) "__getattr__" = some none)
    (hcl_NoName : PySem.W.findIn K (.ref C_NoName) "__class__" = some (some (.builtin "object.__class__")))
    (nf_NoName : PySem.W.findIn K (.ref C_NoName) "value" = some none)
    {fI_NoName : Addr}
    (iI_NoName : PySem.W.findIn K (.ref C_NoName) "__init__" = some (some (.ref fI_NoName)))
    (tI_NoName : PySem.W.typeIn K (.ref fI_NoName) = some (.type "function"))
    {odI_NoName anI_NoName : Option Addr} {slI_NoName : Array (Option Value)} {ocI_NoName dcI_NoName pmI_NoName cdI_NoName ctI_NoName : Value}
    (lI_NoName : K.lookup fI_NoName = some ⟨ocI_NoName, odI_NoName, .func (PySem.W.fnOf "__init__" "NoName.__init__" (defArgs sInit_NoName) (defBody sInit_NoName) (defScope sInit_NoName) .none .none dcI_NoName pmI_NoName anI_NoName cdI_NoName ctI_NoName), slI_NoName⟩)
    (cI_NoName : PySem.W.codeIn K cdI_NoName "NoName.__init__" = true)
    (kI_NoName : PySem.W.keepIn K (.ref fI_NoName) = true)
    {C_NoWays N_NoWays : Addr} {nm_NoWays q_NoWays : Str} {bs_NoWays : List Value} {sn_NoWays : List Str} {sub_NoWays : List Value} {ab_NoWays : Bool} {col_NoWays : Option Bool} {dd_NoWays : Option Addr} {m0_NoWays m1_NoWays m2_NoWays m3_NoWays m5_NoWays : Option Value}
    (aC_NoWays : PySem.W.nsIn K mainGlobals "NoWays" = some (some (.ref C_NoWays)))
    (xL_NoWays : K.lookup C_NoWays = some (excClassObj nm_NoWays q_NoWays C_NoWays N_NoWays bs_NoWays (.ref CA :: [.type "ValueError", .type "Exception", .type "BaseException", .type "object"]) true sn_NoWays sub_NoWays ab_NoWays col_NoWays dd_NoWays m0_NoWays m1_NoWays m2_NoWays m3_NoWays m5_NoWays "ValueError.__new__"))
    (sa_NoWays : PySem.W.findIn K (.ref C_NoWays) "__setattr__" = some (some (.builtin "object.__setattr__")))
    (kC_NoWays : PySem.W.keepIn K (.ref C_NoWays) = true)
    (ga_NoWays : PySem.W.findIn K (.ref C_NoWays) "__getattribute__" = some (some (.builtin "BaseException.__getattribute__")))
    (gg_NoWays : PySem.W.findIn K (.ref C_NoWays) "__getattr__" = some none)
    (hcl_NoWays : PySem.W.findIn K (.ref C_NoWays) "__class__" = some (some (.builtin "object.__class__")))
    (nf_NoWays : PySem.W.findIn K (.ref C_NoWays) "operation" = some none)
    {fI_NoWays : Addr}
    (iI_NoWays : PySem.W.findIn K (.ref C_NoWays) "__init__" = some (some (.ref fI_NoWays)))
    (tI_NoWays : PySem.W.typeIn K (.ref fI_NoWays) = some (.type "function"))
    {odI_NoWays anI_NoWays : Option Addr} {slI_NoWays : Array (Option Value)} {ocI_NoWays dcI_NoWays pmI_NoWays cdI_NoWays ctI_NoWays : Value}
    (lI_NoWays : K.lookup fI_NoWays = some ⟨ocI_NoWays, odI_NoWays, .func (PySem.W.fnOf "__init__" "NoWays.__init__" (defArgs sInit_NoWays) (defBody sInit_NoWays) (defScope sInit_NoWays) .none .none dcI_NoWays pmI_NoWays anI_NoWays cdI_NoWays ctI_NoWays), slI_NoWays⟩)
    (cI_NoWays : PySem.W.codeIn K cdI_NoWays "NoWays.__init__" = true)
    (kI_NoWays : PySem.W.keepIn K (.ref fI_NoWays) = true)
    {C_NoFlag N_NoFlag : Addr} {nm_NoFlag q_NoFlag : Str} {bs_NoFlag : List Value} {sn_NoFlag : List Str} {sub_NoFlag : List Value} {ab_NoFlag : Bool} {col_NoFlag : Option Bool} {dd_NoFlag : Option Addr} {m0_NoFlag m1_NoFlag m2_NoFlag m3_NoFlag m5_NoFlag : Option Value}
    (aC_NoFlag : PySem.W.nsIn K mainGlobals "NoFlag" = some (some (.ref C_NoFlag)))
    (xL_NoFlag : K.lookup C_NoFlag = some (excClassObj nm_NoFlag q_NoFlag C_NoFlag N_NoFlag bs_NoFlag (.ref CA :: [.type "ValueError", .type "Exception", .type "BaseException", .type "object"]) true sn_NoFlag sub_NoFlag ab_NoFlag col_NoFlag dd_NoFlag m0_NoFlag m1_NoFlag m2_NoFlag m3_NoFlag m5_NoFlag "ValueError.__new__"))
    (sa_NoFlag : PySem.W.findIn K (.ref C_NoFlag) "__setattr__" = some (some (.builtin "object.__setattr__")))
    (kC_NoFlag : PySem.W.keepIn K (.ref C_NoFlag) = true)
    (ga_NoFlag : PySem.W.findIn K (.ref C_NoFlag) "__getattribute__" = some (some (.builtin "BaseException.__getattribute__")))
    (gg_NoFlag : PySem.W.findIn K (.ref C_NoFlag) "__getattr__" = some none)
    (hcl_NoFlag : PySem.W.findIn K (.ref C_NoFlag) "__class__" = some (some (.builtin "object.__class__")))
    (nf_NoFlag : PySem.W.findIn K (.ref C_NoFlag) "value" = some none)
    {fI_NoFlag : Addr}
    (iI_NoFlag : PySem.W.findIn K (.ref C_NoFlag) "__init__" = some (some (.ref fI_NoFlag)))
    (tI_NoFlag : PySem.W.typeIn K (.ref fI_NoFlag) = some (.type "function"))
    {odI_NoFlag anI_NoFlag : Option Addr} {slI_NoFlag : Array (Option Value)} {ocI_NoFlag dcI_NoFlag pmI_NoFlag cdI_NoFlag ctI_NoFlag : Value}
    (lI_NoFlag : K.lookup fI_NoFlag = some ⟨ocI_NoFlag, odI_NoFlag, .func (PySem.W.fnOf "__init__" "NoFlag.__init__" (defArgs sInit_NoFlag) (defBody sInit_NoFlag) (defScope sInit_NoFlag) .none .none dcI_NoFlag pmI_NoFlag anI_NoFlag cdI_NoFlag ctI_NoFlag), slI_NoFlag⟩)
    (cI_NoFlag : PySem.W.codeIn K cdI_NoFlag "NoFlag.__init__" = true)
    (kI_NoFlag : PySem.W.keepIn K (.ref fI_NoFlag) = true)
    {C_NoBook N_NoBook : Addr} {nm_NoBook q_NoBook : Str} {bs_NoBook : List Value} {sn_NoBook : List Str} {sub_NoBook : List Value} {ab_NoBook : Bool} {col_NoBook : Option Bool} {dd_NoBook : Option Addr} {m0_NoBook m1_NoBook m2_NoBook m3_NoBook m5_NoBook : Option Value}
    (aC_NoBook : PySem.W.nsIn K mainGlobals "NoBook" = some (some (.ref C_NoBook)))
    (xL_NoBook : K.lookup C_NoBook = some (excClassObj nm_NoBook q_NoBook C_NoBook N_NoBook bs_NoBook (.ref CA :: [.type "ValueError", .type "Exception", .type "BaseException", .type "object"]) true sn_NoBook sub_NoBook ab_NoBook col_NoBook dd_NoBook m0_NoBook m1_NoBook m2_NoBook m3_NoBook m5_NoBook "ValueError.__new__"))
    (sa_NoBook : PySem.W.findIn K (.ref C_NoBook) "__setattr__" = some (some (.builtin "object.__setattr__")))
    (kC_NoBook : PySem.W.keepIn K (.ref C_NoBook) = true)
    (ga_NoBook : PySem.W.findIn K (.ref C_NoBook) "__getattribute__" = some (some (.builtin "BaseException.__getattribute__")))
    (gg_NoBook : PySem.W.findIn K (.ref C_NoBook) "__getattr__" = some none)
    (hcl_NoBook : PySem.W.findIn K (.ref C_NoBook) "__class__" = some (some (.builtin "object.__class__")))
    (nf_NoBook : PySem.W.findIn K (.ref C_NoBook) "value" = some none)
    {fI_NoBook : Addr}
    (iI_NoBook : PySem.W.findIn K (.ref C_NoBook) "__init__" = some (some (.ref fI_NoBook)))
    (tI_NoBook : PySem.W.typeIn K (.ref fI_NoBook) = some (.type "function"))
    {odI_NoBook anI_NoBook : Option Addr} {slI_NoBook : Array (Option Value)} {ocI_NoBook dcI_NoBook pmI_NoBook cdI_NoBook ctI_NoBook : Value}
    (lI_NoBook : K.lookup fI_NoBook = some ⟨ocI_NoBook, odI_NoBook, .func (PySem.W.fnOf "__init__" "NoBook.__init__" (defArgs sInit_NoBook) (defBody sInit_NoBook) (defScope sInit_NoBook) .none .none dcI_NoBook pmI_NoBook anI_NoBook cdI_NoBook ctI_NoBook), slI_NoBook⟩)
    (cI_NoBook : PySem.W.codeIn K cdI_NoBook "NoBook.__init__" = true)
    (kI_NoBook : PySem.W.keepIn K (.ref fI_NoBook) = true)
    {C_NoBody N_NoBody : Addr} {nm_NoBody q_NoBody : Str} {bs_NoBody : List Value} {sn_NoBody : List Str} {sub_NoBody : List Value} {ab_NoBody : Bool} {col_NoBody : Option Bool} {dd_NoBody : Option Addr} {m0_NoBody m1_NoBody m2_NoBody m3_NoBody m5_NoBody : Option Value}
    (aC_NoBody : PySem.W.nsIn K mainGlobals "NoBody" = some (some (.ref C_NoBody)))
    (xL_NoBody : K.lookup C_NoBody = some (excClassObj nm_NoBody q_NoBody C_NoBody N_NoBody bs_NoBody (.ref CA :: [.type "ValueError", .type "Exception", .type "BaseException", .type "object"]) true sn_NoBody sub_NoBody ab_NoBody col_NoBody dd_NoBody m0_NoBody m1_NoBody m2_NoBody m3_NoBody m5_NoBody "ValueError.__new__"))
    (sa_NoBody : PySem.W.findIn K (.ref C_NoBody) "__setattr__" = some (some (.builtin "object.__setattr__")))
    (kC_NoBody : PySem.W.keepIn K (.ref C_NoBody) = true)
    (ga_NoBody : PySem.W.findIn K (.ref C_NoBody) "__getattribute__" = some (some (.builtin "BaseException.__getattribute__")))
    (gg_NoBody : PySem.W.findIn K (.ref C_NoBody) "__getattr__" = some none)
    (hcl_NoBody : PySem.W.findIn K (.ref C_NoBody) "__class__" = some (some (.builtin "object.__class__")))
    (nf_NoBody : PySem.W.findIn K (.ref C_NoBody) "place" = some none)
    {fI_NoBody : Addr}
    (iI_NoBody : PySem.W.findIn K (.ref C_NoBody) "__init__" = some (some (.ref fI_NoBody)))
    (tI_NoBody : PySem.W.typeIn K (.ref fI_NoBody) = some (.type "function"))
    {odI_NoBody anI_NoBody : Option Addr} {slI_NoBody : Array (Option Value)} {ocI_NoBody dcI_NoBody pmI_NoBody cdI_NoBody ctI_NoBody : Value}
    (lI_NoBody : K.lookup fI_NoBody = some ⟨ocI_NoBody, odI_NoBody, .func (PySem.W.fnOf "__init__" "NoBody.__init__" (defArgs sInit_NoBody) (defBody sInit_NoBody) (defScope sInit_NoBody) .none .none dcI_NoBody pmI_NoBody anI_NoBody cdI_NoBody ctI_NoBody), slI_NoBody⟩)
    (cI_NoBody : PySem.W.codeIn K cdI_NoBody "NoBody.__init__" = true)
    (kI_NoBody : PySem.W.keepIn K (.ref fI_NoBody) = true)
    {C_NoEntry N_NoEntry : Addr} {nm_NoEntry q_NoEntry : Str} {bs_NoEntry : List Value} {sn_NoEntry : List Str} {sub_NoEntry : List Value} {ab_NoEntry : Bool} {col_NoEntry : Option Bool} {dd_NoEntry : Option Addr} {m0_NoEntry m1_NoEntry m2_NoEntry m3_NoEntry m5_NoEntry : Option Value}
    (aC_NoEntry : PySem.W.nsIn K mainGlobals "NoEntry" = some (some (.ref C_NoEntry)))
    (xL_NoEntry : K.lookup C_NoEntry = some (excClassObj nm_NoEntry q_NoEntry C_NoEntry N_NoEntry bs_NoEntry (.ref CA :: [.type "ValueError", .type "Exception", .type "BaseException", .type "object"]) true sn_NoEntry sub_NoEntry ab_NoEntry col_NoEntry dd_NoEntry m0_NoEntry m1_NoEntry m2_NoEntry m3_NoEntry m5_NoEntry "ValueError.__new__"))
    (sa_NoEntry : PySem.W.findIn K (.ref C_NoEntry) "__setattr__" = some (some (.builtin "object.__setattr__")))
    (kC_NoEntry : PySem.W.keepIn K (.ref C_NoEntry) = true)
    (ga_NoEntry : PySem.W.findIn K (.ref C_NoEntry) "__getattribute__" = some (some (.builtin "BaseException.__getattribute__")))
    (gg_NoEntry : PySem.W.findIn K (.ref C_NoEntry) "__getattr__" = some none)
    (hcl_NoEntry : PySem.W.findIn K (.ref C_NoEntry) "__class__" = some (some (.builtin "object.__class__")))
    (nf_NoEntry : PySem.W.findIn K (.ref C_NoEntry) "method" = some none)
    {fI_NoEntry : Addr}
    (iI_NoEntry : PySem.W.findIn K (.ref C_NoEntry) "__init__" = some (some (.ref fI_NoEntry)))
    (tI_NoEntry : PySem.W.typeIn K (.ref fI_NoEntry) = some (.type "function"))
    {odI_NoEntry anI_NoEntry : Option Addr} {slI_NoEntry : Array (Option Value)} {ocI_NoEntry dcI_NoEntry pmI_NoEntry cdI_NoEntry ctI_NoEntry : Value}
    (lI_NoEntry : K.lookup fI_NoEntry = some ⟨ocI_NoEntry, odI_NoEntry, .func (PySem.W.fnOf "__init__" "NoEntry.__init__" (defArgs sInit_NoEntry) (defBody sInit_NoEntry) (defScope sInit_NoEntry) .none .none dcI_NoEntry pmI_NoEntry anI_NoEntry cdI_NoEntry ctI_NoEntry), slI_NoEntry⟩)
    (cI_NoEntry : PySem.W.codeIn K cdI_NoEntry "NoEntry.__init__" = true)
    (kI_NoEntry : PySem.W.keepIn K (.ref fI_NoEntry) = true)
    {C_NoTable N_NoTable : Addr} {nm_NoTable q_NoTable : Str} {bs_NoTable : List Value} {sn_NoTable : List Str} {sub_NoTable : List Value} {ab_NoTable : Bool} {col_NoTable : Option Bool} {dd_NoTable : Option Addr} {m0_NoTable m1_NoTable m2_NoTable m3_NoTable m5_NoTable : Option Value}
    (aC_NoTable : PySem.W.nsIn K mainGlobals "NoTable" = some (some (.ref C_NoTable)))
    (xL_NoTable : K.lookup C_NoTable = some (excClassObj nm_NoTable q_NoTable C_NoTable N_NoTable bs_NoTable (.ref CA :: [.type "ValueError", .type "Exception", .type "BaseException", .type "object"]) true sn_NoTable sub_NoTable ab_NoTable col_NoTable dd_NoTable m0_NoTable m1_NoTable m2_NoTable m3_NoTable m5_NoTable "ValueError.__new__"))
    (sa_NoTable : PySem.W.findIn K (.ref C_NoTable) "__setattr__" = some (some (.builtin "object.__setattr__")))
    (kC_NoTable : PySem.W.keepIn K (.ref C_NoTable) = true)
    (ga_NoTable : PySem.W.findIn K (.ref C_NoTable) "__getattribute__" = some (some (.builtin "BaseException.__getattribute__")))
    (gg_NoTable : PySem.W.findIn K (.ref C_NoTable) "__getattr__" = some none)
    (hcl_NoTable : PySem.W.findIn K (.ref C_NoTable) "__class__" = some (some (.builtin "object.__class__")))
    (nf_NoTable : PySem.W.findIn K (.ref C_NoTable) "value" = some none)
    {fI_NoTable : Addr}
    (iI_NoTable : PySem.W.findIn K (.ref C_NoTable) "__init__" = some (some (.ref fI_NoTable)))
    (tI_NoTable : PySem.W.typeIn K (.ref fI_NoTable) = some (.type "function"))
    {odI_NoTable anI_NoTable : Option Addr} {slI_NoTable : Array (Option Value)} {ocI_NoTable dcI_NoTable pmI_NoTable cdI_NoTable ctI_NoTable : Value}
    (lI_NoTable : K.lookup fI_NoTable = some ⟨ocI_NoTable, odI_NoTable, .func (PySem.W.fnOf "__init__" "NoTable.__init__" (defArgs sInit_NoTable) (defBody sInit_NoTable) (defScope sInit_NoTable) .none .none dcI_NoTable pmI_NoTable anI_NoTable cdI_NoTable ctI_NoTable), slI_NoTable⟩)
    (cI_NoTable : PySem.W.codeIn K cdI_NoTable "NoTable.__init__" = true)
    (kI_NoTable : PySem.W.keepIn K (.ref fI_NoTable) = true)
    {C_NoOperand N_NoOperand : Addr} {nm_NoOperand q_NoOperand : Str} {bs_NoOperand : List Value} {sn_NoOperand : List Str} {sub_NoOperand : List Value} {ab_NoOperand : Bool} {col_NoOperand : Option Bool} {dd_NoOperand : Option Addr} {m0_NoOperand m1_NoOperand m2_NoOperand m3_NoOperand m5_NoOperand : Option Value}
    (aC_NoOperand : PySem.W.nsIn K mainGlobals "NoOperand" = some (some (.ref C_NoOperand)))
    (xL_NoOperand : K.lookup C_NoOperand = some (excClassObj nm_NoOperand q_NoOperand C_NoOperand N_NoOperand bs_NoOperand (.ref CA :: [.type "ValueError", .type "Exception", .type "BaseException", .type "object"]) true sn_NoOperand sub_NoOperand ab_NoOperand col_NoOperand dd_NoOperand m0_NoOperand m1_NoOperand m2_NoOperand m3_NoOperand m5_NoOperand "ValueError.__new__"))
    (sa_NoOperand : PySem.W.findIn K (.ref C_NoOperand) "__setattr__" = some (some (.builtin "object.__setattr__")))
    (kC_NoOperand : PySem.W.keepIn K (.ref C_NoOperand) = true)
    (ga_NoOperand : PySem.W.findIn K (.ref C_NoOperand) "__getattribute__" = some (some (.builtin "BaseException.__getattribute__")))
    (gg_NoOperand : PySem.W.findIn K (.ref C_NoOperand) "__getattr__" = some none)
    (hcl_NoOperand : PySem.W.findIn K (.ref C_NoOperand) "__class__" = some (some (.builtin "object.__class__")))
    (nf_NoOperand : PySem.W.findIn K (.ref C_NoOperand) "value" = some none)
    {fI_NoOperand : Addr}
    (iI_NoOperand : PySem.W.findIn K (.ref C_NoOperand) "__init__" = some (some (.ref fI_NoOperand)))
    (tI_NoOperand : PySem.W.typeIn K (.ref fI_NoOperand) = some (.type "function"))
    {odI_NoOperand anI_NoOperand : Option Addr} {slI_NoOperand : Array (Option Value)} {ocI_NoOperand dcI_NoOperand pmI_NoOperand cdI_NoOperand ctI_NoOperand : Value}
    (lI_NoOperand : K.lookup fI_NoOperand = some ⟨ocI_NoOperand, odI_NoOperand, .func (PySem.W.fnOf "__init__" "NoOperand.__init__" (defArgs sInit_NoOperand) (defBody sInit_NoOperand) (defScope sInit_NoOperand) .none .none dcI_NoOperand pmI_NoOperand anI_NoOperand cdI_NoOperand ctI_NoOperand), slI_NoOperand⟩)
    (cI_NoOperand : PySem.W.codeIn K cdI_NoOperand "NoOperand.__init__" = true)
    (kI_NoOperand : PySem.W.keepIn K (.ref fI_NoOperand) = true)
    {C_NoScene N_NoScene : Addr} {nm_NoScene q_NoScene : Str} {bs_NoScene : List Value} {sn_NoScene : List Str} {sub_NoScene : List Value} {ab_NoScene : Bool} {col_NoScene : Option Bool} {dd_NoScene : Option Addr} {m0_NoScene m1_NoScene m2_NoScene m3_NoScene m5_NoScene : Option Value}
    (aC_NoScene : PySem.W.nsIn K mainGlobals "NoScene" = some (some (.ref C_NoScene)))
    (xL_NoScene : K.lookup C_NoScene = some (excClassObj nm_NoScene q_NoScene C_NoScene N_NoScene bs_NoScene (.ref CA :: [.type "ValueError", .type "Exception", .type "BaseException", .type "object"]) true sn_NoScene sub_NoScene ab_NoScene col_NoScene dd_NoScene m0_NoScene m1_NoScene m2_NoScene m3_NoScene m5_NoScene "ValueError.__new__"))
    (sa_NoScene : PySem.W.findIn K (.ref C_NoScene) "__setattr__" = some (some (.builtin "object.__setattr__")))
    (kC_NoScene : PySem.W.keepIn K (.ref C_NoScene) = true)
    (ga_NoScene : PySem.W.findIn K (.ref C_NoScene) "__getattribute__" = some (some (.builtin "BaseException.__getattribute__")))
    (gg_NoScene : PySem.W.findIn K (.ref C_NoScene) "__getattr__" = some none)
    (hcl_NoScene : PySem.W.findIn K (.ref C_NoScene) "__class__" = some (some (.builtin "object.__class__")))
    (nf_NoScene : PySem.W.findIn K (.ref C_NoScene) "value" = some none)
    {fI_NoScene : Addr}
    (iI_NoScene : PySem.W.findIn K (.ref C_NoScene) "__init__" = some (some (.ref fI_NoScene)))
    (tI_NoScene : PySem.W.typeIn K (.ref fI_NoScene) = some (.type "function"))
    {odI_NoScene anI_NoScene : Option Addr} {slI_NoScene : Array (Option Value)} {ocI_NoScene dcI_NoScene pmI_NoScene cdI_NoScene ctI_NoScene : Value}
    (lI_NoScene : K.lookup fI_NoScene = some ⟨ocI_NoScene, odI_NoScene, .func (PySem.W.fnOf "__init__" "NoScene.__init__" (defArgs sInit_NoScene) (defBody sInit_NoScene) (defScope sInit_NoScene) .none .none dcI_NoScene pmI_NoScene anI_NoScene cdI_NoScene ctI_NoScene), slI_NoScene⟩)
    (cI_NoScene : PySem.W.codeIn K cdI_NoScene "NoScene.__init__" = true)
    (kI_NoScene : PySem.W.keepIn K (.ref fI_NoScene) = true)
    {C_NoScript N_NoScript : Addr} {nm_NoScript q_NoScript : Str} {bs_NoScript : List Value} {sn_NoScript : List Str} {sub_NoScript : List Value} {ab_NoScript : Bool} {col_NoScript : Option Bool} {dd_NoScript : Option Addr} {m0_NoScript m1_NoScript m2_NoScript m3_NoScript m5_NoScript : Option Value}
    (aC_NoScript : PySem.W.nsIn K mainGlobals "NoScript" = some (some (.ref C_NoScript)))
    (xL_NoScript : K.lookup C_NoScript = some (excClassObj nm_NoScript q_NoScript C_NoScript N_NoScript bs_NoScript (.ref CA :: [.type "ValueError", .type "Exception", .type "BaseException", .type "object"]) true sn_NoScript sub_NoScript ab_NoScript col_NoScript dd_NoScript m0_NoScript m1_NoScript m2_NoScript m3_NoScript m5_NoScript "ValueError.__new__"))
    (sa_NoScript : PySem.W.findIn K (.ref C_NoScript) "__setattr__" = some (some (.builtin "object.__setattr__")))
    (kC_NoScript : PySem.W.keepIn K (.ref C_NoScript) = true)
    (ga_NoScript : PySem.W.findIn K (.ref C_NoScript) "__getattribute__" = some (some (.builtin "BaseException.__getattribute__")))
    (gg_NoScript : PySem.W.findIn K (.ref C_NoScript) "__getattr__" = some none)
    (hcl_NoScript : PySem.W.findIn K (.ref C_NoScript) "__class__" = some (some (.builtin "object.__class__")))
    (nf_NoScript : PySem.W.findIn K (.ref C_NoScript) "index" = some none)
    {fI_NoScript : Addr}
    (iI_NoScript : PySem.W.findIn K (.ref C_NoScript) "__init__" = some (some (.ref fI_NoScript)))
    (tI_NoScript : PySem.W.typeIn K (.ref fI_NoScript) = some (.type "function"))
    {odI_NoScript anI_NoScript : Option Addr} {slI_NoScript : Array (Option Value)} {ocI_NoScript dcI_NoScript pmI_NoScript cdI_NoScript ctI_NoScript : Value}
    (lI_NoScript : K.lookup fI_NoScript = some ⟨ocI_NoScript, odI_NoScript, .func (PySem.W.fnOf "__init__" "NoScript.__init__" (defArgs sInit_NoScript) (defBody sInit_NoScript) (defScope sInit_NoScript) .none .none dcI_NoScript pmI_NoScript anI_NoScript cdI_NoScript ctI_NoScript), slI_NoScript⟩)
    (cI_NoScript : PySem.W.codeIn K cdI_NoScript "NoScript.__init__" = true)
    (kI_NoScript : PySem.W.keepIn K (.ref fI_NoScript) = true)
    {C_NoNumber N_NoNumber : Addr} {nm_NoNumber q_NoNumber : Str} {bs_NoNumber : List Value} {sn_NoNumber : List Str} {sub_NoNumber : List Value} {ab_NoNumber : Bool} {col_NoNumber : Option Bool} {dd_NoNumber : Option Addr} {m0_NoNumber m1_NoNumber m2_NoNumber m3_NoNumber m5_NoNumber : Option Value}
    (aC_NoNumber : PySem.W.nsIn K mainGlobals "NoNumber" = some (some (.ref C_NoNumber)))
    (xL_NoNumber : K.lookup C_NoNumber = some (excClassObj nm_NoNumber q_NoNumber C_NoNumber N_NoNumber bs_NoNumber (.ref CA :: [.type "ValueError", .type "Exception", .type "BaseException", .type "object"]) true sn_NoNumber sub_NoNumber ab_NoNumber col_NoNumber dd_NoNumber m0_NoNumber m1_NoNumber m2_NoNumber m3_NoNumber m5_NoNumber "ValueError.__new__"))
    (sa_NoNumber : PySem.W.findIn K (.ref C_NoNumber) "__setattr__" = some (some (.builtin "object.__setattr__")))
    (kC_NoNumber : PySem.W.keepIn K (.ref C_NoNumber) = true)
    (ga_NoNumber : PySem.W.findIn K (.ref C_NoNumber) "__getattribute__" = some (some (.builtin "BaseException.__getattribute__")))
    (gg_NoNumber : PySem.W.findIn K (.ref C_NoNumber) "__getattr__" = some none)
    (hcl_NoNumber : PySem.W.findIn K (.ref C_NoNumber) "__class__" = some (some (.builtin "object.__class__")))
    (nf_NoNumber : PySem.W.findIn K (.ref C_NoNumber) "value" = some none)
    {fI_NoNumber : Addr}
    (iI_NoNumber : PySem.W.findIn K (.ref C_NoNumber) "__init__" = some (some (.ref fI_NoNumber)))
    (tI_NoNumber : PySem.W.typeIn K (.ref fI_NoNumber) = some (.type "function"))
    {odI_NoNumber anI_NoNumber : Option Addr} {slI_NoNumber : Array (Option Value)} {ocI_NoNumber dcI_NoNumber pmI_NoNumber cdI_NoNumber ctI_NoNumber : Value}
    (lI_NoNumber : K.lookup fI_NoNumber = some ⟨ocI_NoNumber, odI_NoNumber, .func (PySem.W.fnOf "__init__" "NoNumber.__init__" (defArgs sInit_NoNumber) (defBody sInit_NoNumber) (defScope sInit_NoNumber) .none .none dcI_NoNumber pmI_NoNumber anI_NoNumber cdI_NoNumber ctI_NoNumber), slI_NoNumber⟩)
    (cI_NoNumber : PySem.W.codeIn K cdI_NoNumber "NoNumber.__init__" = true)
    (kI_NoNumber : PySem.W.keepIn K (.ref fI_NoNumber) = true)
    {C_NoMachine N_NoMachine : Addr} {nm_NoMachine q_NoMachine : Str} {bs_NoMachine : List Value} {sn_NoMachine : List Str} {sub_NoMachine : List Value} {ab_NoMachine : Bool} {col_NoMachine : Option Bool} {dd_NoMachine : Option Addr} {m0_NoMachine m1_NoMachine m2_NoMachine m3_NoMachine m5_NoMachine : Option Value}
    (aC_NoMachine : PySem.W.nsIn K mainGlobals "NoMachine" = some (some (.ref C_NoMachine)))
    (xL_NoMachine : K.lookup C_NoMachine = some (excClassObj nm_NoMachine q_NoMachine C_NoMachine N_NoMachine bs_NoMachine (.ref CA :: [.type "ValueError", .type "Exception", .type "BaseException", .type "object"]) true sn_NoMachine sub_NoMachine ab_NoMachine col_NoMachine dd_NoMachine m0_NoMachine m1_NoMachine m2_NoMachine m3_NoMachine m5_NoMachine "ValueError.__new__"))
    (sa_NoMachine : PySem.W.findIn K (.ref C_NoMachine) "__setattr__" = some (some (.builtin "object.__setattr__")))
    (kC_NoMachine : PySem.W.keepIn K (.ref C_NoMachine) = true)
    (ga_NoMachine : PySem.W.findIn K (.ref C_NoMachine) "__getattribute__" = some (some (.builtin "BaseException.__getattribute__")))
    (gg_NoMachine : PySem.W.findIn K (.ref C_NoMachine) "__getattr__" = some none)
    (hcl_NoMachine : PySem.W.findIn K (.ref C_NoMachine) "__class__" = some (some (.builtin "object.__class__")))
    (nf_NoMachine : PySem.W.findIn K (.ref C_NoMachine) "row" = some none)
    {fI_NoMachine : Addr}
    (iI_NoMachine : PySem.W.findIn K (.ref C_NoMachine) "__init__" = some (some (.ref fI_NoMachine)))
    (tI_NoMachine : PySem.W.typeIn K (.ref fI_NoMachine) = some (.type "function"))
    {odI_NoMachine anI_NoMachine : Option Addr} {slI_NoMachine : Array (Option Value)} {ocI_NoMachine dcI_NoMachine pmI_NoMachine cdI_NoMachine ctI_NoMachine : Value}
    (lI_NoMachine : K.lookup fI_NoMachine = some ⟨ocI_NoMachine, odI_NoMachine, .func (PySem.W.fnOf "__init__" "NoMachine.__init__" (defArgs sInit_NoMachine) (defBody sInit_NoMachine) (defScope sInit_NoMachine) .none .none dcI_NoMachine pmI_NoMachine anI_NoMachine cdI_NoMachine ctI_NoMachine), slI_NoMachine⟩)
    (cI_NoMachine : PySem.W.codeIn K cdI_NoMachine "NoMachine.__init__" = true)
    (kI_NoMachine : PySem.W.keepIn K (.ref fI_NoMachine) = true)
    {C_NoPair N_NoPair : Addr} {nm_NoPair q_NoPair : Str} {bs_NoPair : List Value} {sn_NoPair : List Str} {sub_NoPair : List Value} {ab_NoPair : Bool} {col_NoPair : Option Bool} {dd_NoPair : Option Addr} {m0_NoPair m1_NoPair m2_NoPair m3_NoPair m5_NoPair : Option Value}
    (aC_NoPair : PySem.W.nsIn K mainGlobals "NoPair" = some (some (.ref C_NoPair)))
    (xL_NoPair : K.lookup C_NoPair = some (excClassObj nm_NoPair q_NoPair C_NoPair N_NoPair bs_NoPair (.ref CA :: [.type "ValueError", .type "Exception", .type "BaseException", .type "object"]) true sn_NoPair sub_NoPair ab_NoPair col_NoPair dd_NoPair m0_NoPair m1_NoPair m2_NoPair m3_NoPair m5_NoPair "ValueError.__new__"))
    (sa_NoPair : PySem.W.findIn K (.ref C_NoPair) "__setattr__" = some (some (.builtin "object.__setattr__")))
    (kC_NoPair : PySem.W.keepIn K (.ref C_NoPair) = true)
    (ga_NoPair : PySem.W.findIn K (.ref C_NoPair) "__getattribute__" = some (some (.builtin "BaseException.__getattribute__")))
    (gg_NoPair : PySem.W.findIn K (.ref C_NoPair) "__getattr__" = some none)
    (hcl_NoPair : PySem.W.findIn K (.ref C_NoPair) "__class__" = some (some (.builtin "object.__class__")))
    (nf_NoPair : PySem.W.findIn K (.ref C_NoPair) "value" = some none)
    {fI_NoPair : Addr}
    (iI_NoPair : PySem.W.findIn K (.ref C_NoPair) "__init__" = some (some (.ref fI_NoPair)))
    (tI_NoPair : PySem.W.typeIn K (.ref fI_NoPair) = some (.type "function"))
    {odI_NoPair anI_NoPair : Option Addr} {slI_NoPair : Array (Option Value)} {ocI_NoPair dcI_NoPair pmI_NoPair cdI_NoPair ctI_NoPair : Value}
    (lI_NoPair : K.lookup fI_NoPair = some ⟨ocI_NoPair, odI_NoPair, .func (PySem.W.fnOf "__init__" "NoPair.__init__" (defArgs sInit_NoPair) (defBody sInit_NoPair) (defScope sInit_NoPair) .none .none dcI_NoPair pmI_NoPair anI_NoPair cdI_NoPair ctI_NoPair), slI_NoPair⟩)
    (cI_NoPair : PySem.W.codeIn K cdI_NoPair "NoPair.__init__" = true)
    (kI_NoPair : PySem.W.keepIn K (.ref fI_NoPair) = true)
    {C_NoPaper N_NoPaper : Addr} {nm_NoPaper q_NoPaper : Str} {bs_NoPaper : List Value} {sn_NoPaper : List Str} {sub_NoPaper : List Value} {ab_NoPaper : Bool} {col_NoPaper : Option Bool} {dd_NoPaper : Option Addr} {m0_NoPaper m1_NoPaper m2_NoPaper m3_NoPaper m5_NoPaper : Option Value}
    (aC_NoPaper : PySem.W.nsIn K mainGlobals "NoPaper" = some (some (.ref C_NoPaper)))
    (xL_NoPaper : K.lookup C_NoPaper = some (excClassObj nm_NoPaper q_NoPaper C_NoPaper N_NoPaper bs_NoPaper (.ref CA :: [.type "ValueError", .type "Exception", .type "BaseException", .type "object"]) true sn_NoPaper sub_NoPaper ab_NoPaper col_NoPaper dd_NoPaper m0_NoPaper m1_NoPaper m2_NoPaper m3_NoPaper m5_NoPaper "ValueError.__new__"))
    (sa_NoPaper : PySem.W.findIn K (.ref C_NoPaper) "__setattr__" = some (some (.builtin "object.__setattr__")))
    (kC_NoPaper : PySem.W.keepIn K (.ref C_NoPaper) = true)
    (ga_NoPaper : PySem.W.findIn K (.ref C_NoPaper) "__getattribute__" = some (some (.builtin "BaseException.__getattribute__")))
    (gg_NoPaper : PySem.W.findIn K (.ref C_NoPaper) "__getattr__" = some none)
    (hcl_NoPaper : PySem.W.findIn K (.ref C_NoPaper) "__class__" = some (some (.builtin "object.__class__")))
    (nf_NoPaper : PySem.W.findIn K (.ref C_NoPaper) "index" = some none)
    {fI_NoPaper : Addr}
    (iI_NoPaper : PySem.W.findIn K (.ref C_NoPaper) "__init__" = some (some (.ref fI_NoPaper)))
    (tI_NoPaper : PySem.W.typeIn K (.ref fI_NoPaper) = some (.type "function"))
    {odI_NoPaper anI_NoPaper : Option Addr} {slI_NoPaper : Array (Option Value)} {ocI_NoPaper dcI_NoPaper pmI_NoPaper cdI_NoPaper ctI_NoPaper : Value}
    (lI_NoPaper : K.lookup fI_NoPaper = some ⟨ocI_NoPaper, odI_NoPaper, .func (PySem.W.fnOf "__init__" "NoPaper.__init__" (defArgs sInit_NoPaper) (defBody sInit_NoPaper) (defScope sInit_NoPaper) .none .none dcI_NoPaper pmI_NoPaper anI_NoPaper cdI_NoPaper ctI_NoPaper), slI_NoPaper⟩)
    (cI_NoPaper : PySem.W.codeIn K cdI_NoPaper "NoPaper.__init__" = true)
    (kI_NoPaper : PySem.W.keepIn K (.ref fI_NoPaper) = true)
    {C_NotNamed N_NotNamed : Addr} {nm_NotNamed q_NotNamed : Str} {bs_NotNamed : List Value} {sn_NotNamed : List Str} {sub_NotNamed : List Value} {ab_NotNamed : Bool} {col_NotNamed : Option Bool} {dd_NotNamed : Option Addr} {m0_NotNamed m1_NotNamed m2_NotNamed m3_NotNamed m5_NotNamed : Option Value}
    (aC_NotNamed : PySem.W.nsIn K mainGlobals "NotNamed" = some (some (.ref C_NotNamed)))
    (xL_NotNamed : K.lookup C_NotNamed = some (excClassObj nm_NotNamed q_NotNamed C_NotNamed N_NotNamed bs_NotNamed (.ref CA :: [.type "ValueError", .type "Exception", .type "BaseException", .type "object"]) true sn_NotNamed sub_NotNamed ab_NotNamed col_NotNamed dd_NotNamed m0_NotNamed m1_NotNamed m2_NotNamed m3_NotNamed m5_NotNamed "ValueError.__new__"))
    (sa_NotNamed : PySem.W.findIn K (.ref C_NotNamed) "__setattr__" = some (some (.builtin "object.__setattr__")))
    (kC_NotNamed : PySem.W.keepIn K (.ref C_NotNamed) = true)
    (ga_NotNamed : PySem.W.findIn K (.ref C_NotNamed) "__getattribute__" = some (some (.builtin "BaseException.__getattribute__")))
    (gg_NotNamed : PySem.W.findIn K (.ref C_NotNamed) "__getattr__" = some none)
    (hcl_NotNamed : PySem.W.findIn K (.ref C_NotNamed) "__class__" = some (some (.builtin "object.__class__")))
    (nf_NotNamed : PySem.W.findIn K (.ref C_NotNamed) "method" = some none)
    {fI_NotNamed : Addr}
    (iI_NotNamed : PySem.W.findIn K (.ref C_NotNamed) "__init__" = some (some (.ref fI_NotNamed)))
    (tI_NotNamed : PySem.W.typeIn K (.ref fI_NotNamed) = some (.type "function"))
    {odI_NotNamed anI_NotNamed : Option Addr} {slI_NotNamed : Array (Option Value)} {ocI_NotNamed dcI_NotNamed pmI_NotNamed cdI_NotNamed ctI_NotNamed : Value}
    (lI_NotNamed : K.lookup fI_NotNamed = some ⟨ocI_NotNamed, odI_NotNamed, .func (PySem.W.fnOf "__init__" "NotNamed.__init__" (defArgs sInit_NotNamed) (defBody sInit_NotNamed) (defScope sInit_NotNamed) .none .none dcI_NotNamed pmI_NotNamed anI_NotNamed cdI_NotNamed ctI_NotNamed), slI_NotNamed⟩)
    (cI_NotNamed : PySem.W.codeIn K cdI_NotNamed "NotNamed.__init__" = true)
    (kI_NotNamed : PySem.W.keepIn K (.ref fI_NotNamed) = true)
    {C_NoRelation N_NoRelation : Addr} {nm_NoRelation q_NoRelation : Str} {bs_NoRelation : List Value} {sn_NoRelation : List Str} {sub_NoRelation : List Value} {ab_NoRelation : Bool} {col_NoRelation : Option Bool} {dd_NoRelation : Option Addr} {m0_NoRelation m1_NoRelation m2_NoRelation m3_NoRelation m5_NoRelation : Option Value}
    (aC_NoRelation : PySem.W.nsIn K mainGlobals "NoRelation" = some (some (.ref C_NoRelation)))
    (xL_NoRelation : K.lookup C_NoRelation = some (excClassObj nm_NoRelation q_NoRelation C_NoRelation N_NoRelation bs_NoRelation (.ref CA :: [.type "ValueError", .type "Exception", .type "BaseException", .type "object"]) true sn_NoRelation sub_NoRelation ab_NoRelation col_NoRelation dd_NoRelation m0_NoRelation m1_NoRelation m2_NoRelation m3_NoRelation m5_NoRelation "ValueError.__new__"))
    (sa_NoRelation : PySem.W.findIn K (.ref C_NoRelation) "__setattr__" = some (some (.builtin "object.__setattr__")))
    (kC_NoRelation : PySem.W.keepIn K (.ref C_NoRelation) = true)
    (ga_NoRelation : PySem.W.findIn K (.ref C_NoRelation) "__getattribute__" = some (some (.builtin "BaseException.__getattribute__")))
    (gg_NoRelation : PySem.W.findIn K (.ref C_NoRelation) "__getattr__" = some none)
    (hcl_NoRelation : PySem.W.findIn K (.ref C_NoRelation) "__class__" = some (some (.builtin "object.__class__")))
    (nf_NoRelation : PySem.W.findIn K (.ref C_NoRelation) "value" = some none)
    {fI_NoRelation : Addr}
    (iI_NoRelation : PySem.W.findIn K (.ref C_NoRelation) "__init__" = some (some (.ref fI_NoRelation)))
    (tI_NoRelation : PySem.W.typeIn K (.ref fI_NoRelation) = some (.type "function"))
    {odI_NoRelation anI_NoRelation : Option Addr} {slI_NoRelation : Array (Option Value)} {ocI_NoRelation dcI_NoRelation pmI_NoRelation cdI_NoRelation ctI_NoRelation : Value}
    (lI_NoRelation : K.lookup fI_NoRelation = some ⟨ocI_NoRelation, odI_NoRelation, .func (PySem.W.fnOf "__init__" "NoRelation.__init__" (defArgs sInit_NoRelation) (defBody sInit_NoRelation) (defScope sInit_NoRelation) .none .none dcI_NoRelation pmI_NoRelation anI_NoRelation cdI_NoRelation ctI_NoRelation), slI_NoRelation⟩)
    (cI_NoRelation : PySem.W.codeIn K cdI_NoRelation "NoRelation.__init__" = true)
    (kI_NoRelation : PySem.W.keepIn K (.ref fI_NoRelation) = true)
    {C_NoAgreement N_NoAgreement : Addr} {nm_NoAgreement q_NoAgreement : Str} {bs_NoAgreement : List Value} {sn_NoAgreement : List Str} {sub_NoAgreement : List Value} {ab_NoAgreement : Bool} {col_NoAgreement : Option Bool} {dd_NoAgreement : Option Addr} {m0_NoAgreement m1_NoAgreement m2_NoAgreement m3_NoAgreement m5_NoAgreement : Option Value}
    (aC_NoAgreement : PySem.W.nsIn K mainGlobals "NoAgreement" = some (some (.ref C_NoAgreement)))
    (xL_NoAgreement : K.lookup C_NoAgreement = some (excClassObj nm_NoAgreement q_NoAgreement C_NoAgreement N_NoAgreement bs_NoAgreement (.ref CA :: [.type "ValueError", .type "Exception", .type "BaseException", .type "object"]) true sn_NoAgreement sub_NoAgreement ab_NoAgreement col_NoAgreement dd_NoAgreement m0_NoAgreement m1_NoAgreement m2_NoAgreement m3_NoAgreement m5_NoAgreement "ValueError.__new__"))
    (sa_NoAgreement : PySem.W.findIn K (.ref C_NoAgreement) "__setattr__" = some (some (.builtin "object.__setattr__")))
    (kC_NoAgreement : PySem.W.keepIn K (.ref C_NoAgreement) = true)
    (ga_NoAgreement : PySem.W.findIn K (.ref C_NoAgreement) "__getattribute__" = some (some (.builtin "BaseException.__getattribute__")))
    (gg_NoAgreement : PySem.W.findIn K (.ref C_NoAgreement) "__getattr__" = some none)
    (hcl_NoAgreement : PySem.W.findIn K (.ref C_NoAgreement) "__class__" = some (some (.builtin "object.__class__")))
    (nf_NoAgreement : PySem.W.findIn K (.ref C_NoAgreement) "value" = some none)
    {fI_NoAgreement : Addr}
    (iI_NoAgreement : PySem.W.findIn K (.ref C_NoAgreement) "__init__" = some (some (.ref fI_NoAgreement)))
    (tI_NoAgreement : PySem.W.typeIn K (.ref fI_NoAgreement) = some (.type "function"))
    {odI_NoAgreement anI_NoAgreement : Option Addr} {slI_NoAgreement : Array (Option Value)} {ocI_NoAgreement dcI_NoAgreement pmI_NoAgreement cdI_NoAgreement ctI_NoAgreement : Value}
    (lI_NoAgreement : K.lookup fI_NoAgreement = some ⟨ocI_NoAgreement, odI_NoAgreement, .func (PySem.W.fnOf "__init__" "NoAgreement.__init__" (defArgs sInit_NoAgreement) (defBody sInit_NoAgreement) (defScope sInit_NoAgreement) .none .none dcI_NoAgreement pmI_NoAgreement anI_NoAgreement cdI_NoAgreement ctI_NoAgreement), slI_NoAgreement⟩)
    (cI_NoAgreement : PySem.W.codeIn K cdI_NoAgreement "NoAgreement.__init__" = true)
    (kI_NoAgreement : PySem.W.keepIn K (.ref fI_NoAgreement) = true)
    {C_NoStock N_NoStock : Addr} {nm_NoStock q_NoStock : Str} {bs_NoStock : List Value} {sn_NoStock : List Str} {sub_NoStock : List Value} {ab_NoStock : Bool} {col_NoStock : Option Bool} {dd_NoStock : Option Addr} {m0_NoStock m1_NoStock m2_NoStock m3_NoStock m5_NoStock : Option Value}
    (aC_NoStock : PySem.W.nsIn K mainGlobals "NoStock" = some (some (.ref C_NoStock)))
    (xL_NoStock : K.lookup C_NoStock = some (excClassObj nm_NoStock q_NoStock C_NoStock N_NoStock bs_NoStock (.ref CA :: [.type "ValueError", .type "Exception", .type "BaseException", .type "object"]) true sn_NoStock sub_NoStock ab_NoStock col_NoStock dd_NoStock m0_NoStock m1_NoStock m2_NoStock m3_NoStock m5_NoStock "ValueError.__new__"))
    (sa_NoStock : PySem.W.findIn K (.ref C_NoStock) "__setattr__" = some (some (.builtin "object.__setattr__")))
    (kC_NoStock : PySem.W.keepIn K (.ref C_NoStock) = true)
    (ga_NoStock : PySem.W.findIn K (.ref C_NoStock) "__getattribute__" = some (some (.builtin "BaseException.__getattribute__")))
    (gg_NoStock : PySem.W.findIn K (.ref C_NoStock) "__getattr__" = some none)
    (hcl_NoStock : PySem.W.findIn K (.ref C_NoStock) "__class__" = some (some (.builtin "object.__class__")))
    (nf_NoStock : PySem.W.findIn K (.ref C_NoStock) "index" = some none)
    {fI_NoStock : Addr}
    (iI_NoStock : PySem.W.findIn K (.ref C_NoStock) "__init__" = some (some (.ref fI_NoStock)))
    (tI_NoStock : PySem.W.typeIn K (.ref fI_NoStock) = some (.type "function"))
    {odI_NoStock anI_NoStock : Option Addr} {slI_NoStock : Array (Option Value)} {ocI_NoStock dcI_NoStock pmI_NoStock cdI_NoStock ctI_NoStock : Value}
    (lI_NoStock : K.lookup fI_NoStock = some ⟨ocI_NoStock, odI_NoStock, .func (PySem.W.fnOf "__init__" "NoStock.__init__" (defArgs sInit_NoStock) (defBody sInit_NoStock) (defScope sInit_NoStock) .none .none dcI_NoStock pmI_NoStock anI_NoStock cdI_NoStock ctI_NoStock), slI_NoStock⟩)
    (cI_NoStock : PySem.W.codeIn K cdI_NoStock "NoStock.__init__" = true)
    (kI_NoStock : PySem.W.keepIn K (.ref fI_NoStock) = true)
    {C_NoWish N_NoWish : Addr} {nm_NoWish q_NoWish : Str} {bs_NoWish : List Value} {sn_NoWish : List Str} {sub_NoWish : List Value} {ab_NoWish : Bool} {col_NoWish : Option Bool} {dd_NoWish : Option Addr} {m0_NoWish m1_NoWish m2_NoWish m3_NoWish m5_NoWish : Option Value}
    (aC_NoWish : PySem.W.nsIn K mainGlobals "NoWish" = some (some (.ref C_NoWish)))
    (xL_NoWish : K.lookup C_NoWish = some (excClassObj nm_NoWish q_NoWish C_NoWish N_NoWish bs_NoWish (.ref CA :: [.type "ValueError", .type "Exception", .type "BaseException", .type "object"]) true sn_NoWish sub_NoWish ab_NoWish col_NoWish dd_NoWish m0_NoWish m1_NoWish m2_NoWish m3_NoWish m5_NoWish "ValueError.__new__"))
    (sa_NoWish : PySem.W.findIn K (.ref C_NoWish) "__setattr__" = some (some (.builtin "object.__setattr__")))
    (kC_NoWish : PySem.W.keepIn K (.ref C_NoWish) = true)
    (ga_NoWish : PySem.W.findIn K (.ref C_NoWish) "__getattribute__" = some (some (.builtin "BaseException.__getattribute__")))
    (gg_NoWish : PySem.W.findIn K (.ref C_NoWish) "__getattr__" = some none)
    (hcl_NoWish : PySem.W.findIn K (.ref C_NoWish) "__class__" = some (some (.builtin "object.__class__")))
    (nf_NoWish : PySem.W.findIn K (.ref C_NoWish) "index" = some none)
    {fI_NoWish : Addr}
    (iI_NoWish : PySem.W.findIn K (.ref C_NoWish) "__init__" = some (some (.ref fI_NoWish)))
    (tI_NoWish : PySem.W.typeIn K (.ref fI_NoWish) = some (.type "function"))
    {odI_NoWish anI_NoWish : Option Addr} {slI_NoWish : Array (Option Value)} {ocI_NoWish dcI_NoWish pmI_NoWish cdI_NoWish ctI_NoWish : Value}
    (lI_NoWish : K.lookup fI_NoWish = some ⟨ocI_NoWish, odI_NoWish, .func (PySem.W.fnOf "__init__" "NoWish.__init__" (defArgs sInit_NoWish) (defBody sInit_NoWish) (defScope sInit_NoWish) .none .none dcI_NoWish pmI_NoWish anI_NoWish cdI_NoWish ctI_NoWish), slI_NoWish⟩)
    (cI_NoWish : PySem.W.codeIn K cdI_NoWish "NoWish.__init__" = true)
    (kI_NoWish : PySem.W.keepIn K (.ref fI_NoWish) = true)
    {C_NoChoice N_NoChoice : Addr} {nm_NoChoice q_NoChoice : Str} {bs_NoChoice : List Value} {sn_NoChoice : List Str} {sub_NoChoice : List Value} {ab_NoChoice : Bool} {col_NoChoice : Option Bool} {dd_NoChoice : Option Addr} {m0_NoChoice m1_NoChoice m2_NoChoice m3_NoChoice m5_NoChoice : Option Value}
    (aC_NoChoice : PySem.W.nsIn K mainGlobals "NoChoice" = some (some (.ref C_NoChoice)))
    (xL_NoChoice : K.lookup C_NoChoice = some (excClassObj nm_NoChoice q_NoChoice C_NoChoice N_NoChoice bs_NoChoice (.ref CA :: [.type "ValueError", .type "Exception", .type "BaseException", .type "object"]) true sn_NoChoice sub_NoChoice ab_NoChoice col_NoChoice dd_NoChoice m0_NoChoice m1_NoChoice m2_NoChoice m3_NoChoice m5_NoChoice "ValueError.__new__"))
    (sa_NoChoice : PySem.W.findIn K (.ref C_NoChoice) "__setattr__" = some (some (.builtin "object.__setattr__")))
    (kC_NoChoice : PySem.W.keepIn K (.ref C_NoChoice) = true)
    (ga_NoChoice : PySem.W.findIn K (.ref C_NoChoice) "__getattribute__" = some (some (.builtin "BaseException.__getattribute__")))
    (gg_NoChoice : PySem.W.findIn K (.ref C_NoChoice) "__getattr__" = some none)
    (hcl_NoChoice : PySem.W.findIn K (.ref C_NoChoice) "__class__" = some (some (.builtin "object.__class__")))
    (nf_NoChoice : PySem.W.findIn K (.ref C_NoChoice) "value" = some none)
    {fI_NoChoice : Addr}
    (iI_NoChoice : PySem.W.findIn K (.ref C_NoChoice) "__init__" = some (some (.ref fI_NoChoice)))
    (tI_NoChoice : PySem.W.typeIn K (.ref fI_NoChoice) = some (.type "function"))
    {odI_NoChoice anI_NoChoice : Option Addr} {slI_NoChoice : Array (Option Value)} {ocI_NoChoice dcI_NoChoice pmI_NoChoice cdI_NoChoice ctI_NoChoice : Value}
    (lI_NoChoice : K.lookup fI_NoChoice = some ⟨ocI_NoChoice, odI_NoChoice, .func (PySem.W.fnOf "__init__" "NoChoice.__init__" (defArgs sInit_NoChoice) (defBody sInit_NoChoice) (defScope sInit_NoChoice) .none .none dcI_NoChoice pmI_NoChoice anI_NoChoice cdI_NoChoice ctI_NoChoice), slI_NoChoice⟩)
    (cI_NoChoice : PySem.W.codeIn K cdI_NoChoice "NoChoice.__init__" = true)
    (kI_NoChoice : PySem.W.keepIn K (.ref fI_NoChoice) = true)
    {C_NoEdit N_NoEdit : Addr} {nm_NoEdit q_NoEdit : Str} {bs_NoEdit : List Value} {sn_NoEdit : List Str} {sub_NoEdit : List Value} {ab_NoEdit : Bool} {col_NoEdit : Option Bool} {dd_NoEdit : Option Addr} {m0_NoEdit m1_NoEdit m2_NoEdit m3_NoEdit m5_NoEdit : Option Value}
    (aC_NoEdit : PySem.W.nsIn K mainGlobals "NoEdit" = some (some (.ref C_NoEdit)))
    (xL_NoEdit : K.lookup C_NoEdit = some (excClassObj nm_NoEdit q_NoEdit C_NoEdit N_NoEdit bs_NoEdit (.ref CA :: [.type "ValueError", .type "Exception", .type "BaseException", .type "object"]) true sn_NoEdit sub_NoEdit ab_NoEdit col_NoEdit dd_NoEdit m0_NoEdit m1_NoEdit m2_NoEdit m3_NoEdit m5_NoEdit "ValueError.__new__"))
    (sa_NoEdit : PySem.W.findIn K (.ref C_NoEdit) "__setattr__" = some (some (.builtin "object.__setattr__")))
    (kC_NoEdit : PySem.W.keepIn K (.ref C_NoEdit) = true)
    (ga_NoEdit : PySem.W.findIn K (.ref C_NoEdit) "__getattribute__" = some (some (.builtin "BaseException.__getattribute__")))
    (gg_NoEdit : PySem.W.findIn K (.ref C_NoEdit) "__getattr__" = some none)
    (hcl_NoEdit : PySem.W.findIn K (.ref C_NoEdit) "__class__" = some (some (.builtin "object.__class__")))
    (nf_NoEdit : PySem.W.findIn K (.ref C_NoEdit) "index" = some none)
    {fI_NoEdit : Addr}
    (iI_NoEdit : PySem.W.findIn K (.ref C_NoEdit) "__init__" = some (some (.ref fI_NoEdit)))
    (tI_NoEdit : PySem.W.typeIn K (.ref fI_NoEdit) = some (.type "function"))
    {odI_NoEdit anI_NoEdit : Option Addr} {slI_NoEdit : Array (Option Value)} {ocI_NoEdit dcI_NoEdit pmI_NoEdit cdI_NoEdit ctI_NoEdit : Value}
    (lI_NoEdit : K.lookup fI_NoEdit = some ⟨ocI_NoEdit, odI_NoEdit, .func (PySem.W.fnOf "__init__" "NoEdit.__init__" (defArgs sInit_NoEdit) (defBody sInit_NoEdit) (defScope sInit_NoEdit) .none .none dcI_NoEdit pmI_NoEdit anI_NoEdit cdI_NoEdit ctI_NoEdit), slI_NoEdit⟩)
    (cI_NoEdit : PySem.W.codeIn K cdI_NoEdit "NoEdit.__init__" = true)
    (kI_NoEdit : PySem.W.keepIn K (.ref fI_NoEdit) = true)
    {C_NoNote N_NoNote : Addr} {nm_NoNote q_NoNote : Str} {bs_NoNote : List Value} {sn_NoNote : List Str} {sub_NoNote : List Value} {ab_NoNote : Bool} {col_NoNote : Option Bool} {dd_NoNote : Option Addr} {m0_NoNote m1_NoNote m2_NoNote m3_NoNote m5_NoNote : Option Value}
    (aC_NoNote : PySem.W.nsIn K mainGlobals "NoNote" = some (some (.ref C_NoNote)))
    (xL_NoNote : K.lookup C_NoNote = some (excClassObj nm_NoNote q_NoNote C_NoNote N_NoNote bs_NoNote (.ref CA :: [.type "ValueError", .type "Exception", .type "BaseException", .type "object"]) true sn_NoNote sub_NoNote ab_NoNote col_NoNote dd_NoNote m0_NoNote m1_NoNote m2_NoNote m3_NoNote m5_NoNote "ValueError.__new__"))
    (sa_NoNote : PySem.W.findIn K (.ref C_NoNote) "__setattr__" = some (some (.builtin "object.__setattr__")))
    (kC_NoNote : PySem.W.keepIn K (.ref C_NoNote) = true)
    (ga_NoNote : PySem.W.findIn K (.ref C_NoNote) "__getattribute__" = some (some (.builtin "BaseException.__getattribute__")))
    (gg_NoNote : PySem.W.findIn K (.ref C_NoNote) "__getattr__" = some none)
    (hcl_NoNote : PySem.W.findIn K (.ref C_NoNote) "__class__" = some (some (.builtin "object.__class__")))
    (nf_NoNote : PySem.W.findIn K (.ref C_NoNote) "line" = some none)
    {fI_NoNote : Addr}
    (iI_NoNote : PySem.W.findIn K (.ref C_NoNote) "__init__" = some (some (.ref fI_NoNote)))
    (tI_NoNote : PySem.W.typeIn K (.ref fI_NoNote) = some (.type "function"))
    {odI_NoNote anI_NoNote : Option Addr} {slI_NoNote : Array (Option Value)} {ocI_NoNote dcI_NoNote pmI_NoNote cdI_NoNote ctI_NoNote : Value}
    (lI_NoNote : K.lookup fI_NoNote = some ⟨ocI_NoNote, odI_NoNote, .func (PySem.W.fnOf "__init__" "NoNote.__init__" (defArgs sInit_NoNote) (defBody sInit_NoNote) (defScope sInit_NoNote) .none .none dcI_NoNote pmI_NoNote anI_NoNote cdI_NoNote ctI_NoNote), slI_NoNote⟩)
    (cI_NoNote : PySem.W.codeIn K cdI_NoNote "NoNote.__init__" = true)
    (kI_NoNote : PySem.W.keepIn K (.ref fI_NoNote) = true)
    {C_NoClass N_NoClass : Addr} {nm_NoClass q_NoClass : Str} {bs_NoClass : List Value} {sn_NoClass : List Str} {sub_NoClass : List Value} {ab_NoClass : Bool} {col_NoClass : Option Bool} {dd_NoClass : Option Addr} {m0_NoClass m1_NoClass m2_NoClass m3_NoClass m5_NoClass : Option Value}
    (aC_NoClass : PySem.W.nsIn K mainGlobals "NoClass" = some (some (.ref C_NoClass)))
    (xL_NoClass : K.lookup C_NoClass = some (excClassObj nm_NoClass q_NoClass C_NoClass N_NoClass bs_NoClass ([.type "KeyError", .type "LookupError", .type "Exception", .type "BaseException", .type "object"]) true sn_NoClass sub_NoClass ab_NoClass col_NoClass dd_NoClass m0_NoClass m1_NoClass m2_NoClass m3_NoClass m5_NoClass "LookupError.__new__"))
    (sa_NoClass : PySem.W.findIn K (.ref C_NoClass) "__setattr__" = some (some (.builtin "object.__setattr__")))
    (kC_NoClass : PySem.W.keepIn K (.ref C_NoClass) = true)
    (ga_NoClass : PySem.W.findIn K (.ref C_NoClass) "__getattribute__" = some (some (.builtin "BaseException.__getattribute__")))
    (gg_NoClass : PySem.W.findIn K (.ref C_NoClass) "__getattr__" = some none)
    (hcl_NoClass : PySem.W.findIn K (.ref C_NoClass) "__class__" = some (some (.builtin "object.__class__")))
    (nf_NoClass : PySem.W.findIn K (.ref C_NoClass) "name" = some none)
    {fI_NoClass : Addr}
    (iI_NoClass : PySem.W.findIn K (.ref C_NoClass) "__init__" = some (some (.ref fI_NoClass)))
    (tI_NoClass : PySem.W.typeIn K (.ref fI_NoClass) = some (.type "function"))
    {odI_NoClass anI_NoClass : Option Addr} {slI_NoClass : Array (Option Value)} {ocI_NoClass dcI_NoClass pmI_NoClass cdI_NoClass ctI_NoClass : Value}
    (lI_NoClass : K.lookup fI_NoClass = some ⟨ocI_NoClass, odI_NoClass, .func (PySem.W.fnOf "__init__" "NoClass.__init__" (defArgs sInit_NoClass) (defBody sInit_NoClass) (defScope sInit_NoClass) .none .none dcI_NoClass pmI_NoClass anI_NoClass cdI_NoClass ctI_NoClass), slI_NoClass⟩)
    (cI_NoClass : PySem.W.codeIn K cdI_NoClass "NoClass.__init__" = true)
    (kI_NoClass : PySem.W.keepIn K (.ref fI_NoClass) = true)
    {C_Unanswered N_Unanswered : Addr} {nm_Unanswered q_Unanswered : Str} {bs_Unanswered : List Value} {sn_Unanswered : List Str} {sub_Unanswered : List Value} {ab_Unanswered : Bool} {col_Unanswered : Option Bool} {dd_Unanswered : Option Addr} {m0_Unanswered m1_Unanswered m2_Unanswered m3_Unanswered m5_Unanswered : Option Value}
    (aC_Unanswered : PySem.W.nsIn K mainGlobals "Unanswered" = some (some (.ref C_Unanswered)))
    (xL_Unanswered : K.lookup C_Unanswered = some (excClassObj nm_Unanswered q_Unanswered C_Unanswered N_Unanswered bs_Unanswered ([.type "KeyError", .type "LookupError", .type "Exception", .type "BaseException", .type "object"]) true sn_Unanswered sub_Unanswered ab_Unanswered col_Unanswered dd_Unanswered m0_Unanswered m1_Unanswered m2_Unanswered m3_Unanswered m5_Unanswered "LookupError.__new__"))
    (sa_Unanswered : PySem.W.findIn K (.ref C_Unanswered) "__setattr__" = some (some (.builtin "object.__setattr__")))
    (kC_Unanswered : PySem.W.keepIn K (.ref C_Unanswered) = true)
    (ga_Unanswered : PySem.W.findIn K (.ref C_Unanswered) "__getattribute__" = some (some (.builtin "BaseException.__getattribute__")))
    (gg_Unanswered : PySem.W.findIn K (.ref C_Unanswered) "__getattr__" = some none)
    (hcl_Unanswered : PySem.W.findIn K (.ref C_Unanswered) "__class__" = some (some (.builtin "object.__class__")))
    (nf_Unanswered : PySem.W.findIn K (.ref C_Unanswered) "asked" = some none)
    {fI_Unanswered : Addr}
    (iI_Unanswered : PySem.W.findIn K (.ref C_Unanswered) "__init__" = some (some (.ref fI_Unanswered)))
    (tI_Unanswered : PySem.W.typeIn K (.ref fI_Unanswered) = some (.type "function"))
    {odI_Unanswered anI_Unanswered : Option Addr} {slI_Unanswered : Array (Option Value)} {ocI_Unanswered dcI_Unanswered pmI_Unanswered cdI_Unanswered ctI_Unanswered : Value}
    (lI_Unanswered : K.lookup fI_Unanswered = some ⟨ocI_Unanswered, odI_Unanswered, .func (PySem.W.fnOf "__init__" "Unanswered.__init__" (defArgs sInit_Unanswered) (defBody sInit_Unanswered) (defScope sInit_Unanswered) .none .none dcI_Unanswered pmI_Unanswered anI_Unanswered cdI_Unanswered ctI_Unanswered), slI_Unanswered⟩)
    (cI_Unanswered : PySem.W.codeIn K cdI_Unanswered "Unanswered.__init__" = true)
    (kI_Unanswered : PySem.W.keepIn K (.ref fI_Unanswered) = true)
    {C_NoOrder N_NoOrder : Addr} {nm_NoOrder q_NoOrder : Str} {bs_NoOrder : List Value} {sn_NoOrder : List Str} {sub_NoOrder : List Value} {ab_NoOrder : Bool} {col_NoOrder : Option Bool} {dd_NoOrder : Option Addr} {m0_NoOrder m1_NoOrder m2_NoOrder m3_NoOrder m5_NoOrder : Option Value}
    (aC_NoOrder : PySem.W.nsIn K mainGlobals "NoOrder" = some (some (.ref C_NoOrder)))
    (xL_NoOrder : K.lookup C_NoOrder = some (excClassObj nm_NoOrder q_NoOrder C_NoOrder N_NoOrder bs_NoOrder ([.type "LookupError", .type "Exception", .type "BaseException", .type "object"]) true sn_NoOrder sub_NoOrder ab_NoOrder col_NoOrder dd_NoOrder m0_NoOrder m1_NoOrder m2_NoOrder m3_NoOrder m5_NoOrder "LookupError.__new__"))
    (sa_NoOrder : PySem.W.findIn K (.ref C_NoOrder) "__setattr__" = some (some (.builtin "object.__setattr__")))
    (kC_NoOrder : PySem.W.keepIn K (.ref C_NoOrder) = true)
    (ga_NoOrder : PySem.W.findIn K (.ref C_NoOrder) "__getattribute__" = some (some (.builtin "BaseException.__getattribute__")))
    (gg_NoOrder : PySem.W.findIn K (.ref C_NoOrder) "__getattr__" = some none)
    (hcl_NoOrder : PySem.W.findIn K (.ref C_NoOrder) "__class__" = some (some (.builtin "object.__class__")))
    (nf_NoOrder : PySem.W.findIn K (.ref C_NoOrder) "name" = some none)
    {fI_NoOrder : Addr}
    (iI_NoOrder : PySem.W.findIn K (.ref C_NoOrder) "__init__" = some (some (.ref fI_NoOrder)))
    (tI_NoOrder : PySem.W.typeIn K (.ref fI_NoOrder) = some (.type "function"))
    {odI_NoOrder anI_NoOrder : Option Addr} {slI_NoOrder : Array (Option Value)} {ocI_NoOrder dcI_NoOrder pmI_NoOrder cdI_NoOrder ctI_NoOrder : Value}
    (lI_NoOrder : K.lookup fI_NoOrder = some ⟨ocI_NoOrder, odI_NoOrder, .func (PySem.W.fnOf "__init__" "NoOrder.__init__" (defArgs sInit_NoOrder) (defBody sInit_NoOrder) (defScope sInit_NoOrder) .none .none dcI_NoOrder pmI_NoOrder anI_NoOrder cdI_NoOrder ctI_NoOrder), slI_NoOrder⟩)
    (cI_NoOrder : PySem.W.codeIn K cdI_NoOrder "NoOrder.__init__" = true)
    (kI_NoOrder : PySem.W.keepIn K (.ref fI_NoOrder) = true)
    {C_Parted N_Parted : Addr} {nm_Parted q_Parted : Str} {bs_Parted : List Value} {sn_Parted : List Str} {sub_Parted : List Value} {ab_Parted : Bool} {col_Parted : Option Bool} {dd_Parted : Option Addr} {m0_Parted m1_Parted m2_Parted m3_Parted m5_Parted : Option Value}
    (aC_Parted : PySem.W.nsIn K mainGlobals "Parted" = some (some (.ref C_Parted)))
    (xL_Parted : K.lookup C_Parted = some (excClassObj nm_Parted q_Parted C_Parted N_Parted bs_Parted ([.type "LookupError", .type "Exception", .type "BaseException", .type "object"]) true sn_Parted sub_Parted ab_Parted col_Parted dd_Parted m0_Parted m1_Parted m2_Parted m3_Parted m5_Parted "LookupError.__new__"))
    (sa_Parted : PySem.W.findIn K (.ref C_Parted) "__setattr__" = some (some (.builtin "object.__setattr__")))
    (kC_Parted : PySem.W.keepIn K (.ref C_Parted) = true)
    (ga_Parted : PySem.W.findIn K (.ref C_Parted) "__getattribute__" = some (some (.builtin "BaseException.__getattribute__")))
    (gg_Parted : PySem.W.findIn K (.ref C_Parted) "__getattr__" = some none)
    (hcl_Parted : PySem.W.findIn K (.ref C_Parted) "__class__" = some (some (.builtin "object.__class__")))
    (nf_Parted : PySem.W.findIn K (.ref C_Parted) "script" = some none)
    {fI_Parted : Addr}
    (iI_Parted : PySem.W.findIn K (.ref C_Parted) "__init__" = some (some (.ref fI_Parted)))
    (tI_Parted : PySem.W.typeIn K (.ref fI_Parted) = some (.type "function"))
    {odI_Parted anI_Parted : Option Addr} {slI_Parted : Array (Option Value)} {ocI_Parted dcI_Parted pmI_Parted cdI_Parted ctI_Parted : Value}
    (lI_Parted : K.lookup fI_Parted = some ⟨ocI_Parted, odI_Parted, .func (PySem.W.fnOf "__init__" "Parted.__init__" (defArgs sInit_Parted) (defBody sInit_Parted) (defScope sInit_Parted) .none .none dcI_Parted pmI_Parted anI_Parted cdI_Parted ctI_Parted), slI_Parted⟩)
    (cI_Parted : PySem.W.codeIn K cdI_Parted "Parted.__init__" = true)
    (kI_Parted : PySem.W.keepIn K (.ref fI_Parted) = true)
    {C_Used N_Used : Addr} {nm_Used q_Used : Str} {bs_Used : List Value} {sn_Used : List Str} {sub_Used : List Value} {ab_Used : Bool} {col_Used : Option Bool} {dd_Used : Option Addr} {m0_Used m1_Used m2_Used m3_Used m5_Used : Option Value}
    (aC_Used : PySem.W.nsIn K mainGlobals "Used" = some (some (.ref C_Used)))
    (xL_Used : K.lookup C_Used = some (excClassObj nm_Used q_Used C_Used N_Used bs_Used ([.type "RuntimeError", .type "Exception", .type "BaseException", .type "object"]) true sn_Used sub_Used ab_Used col_Used dd_Used m0_Used m1_Used m2_Used m3_Used m5_Used "RuntimeError.__new__"))
    (sa_Used : PySem.W.findIn K (.ref C_Used) "__setattr__" = some (some (.builtin "object.__setattr__")))
    (kC_Used : PySem.W.keepIn K (.ref C_Used) = true)
    (ga_Used : PySem.W.findIn K (.ref C_Used) "__getattribute__" = some (some (.builtin "BaseException.__getattribute__")))
    (gg_Used : PySem.W.findIn K (.ref C_Used) "__getattr__" = some none)
    (hcl_Used : PySem.W.findIn K (.ref C_Used) "__class__" = some (some (.builtin "object.__class__")))
    (nf_Used : PySem.W.findIn K (.ref C_Used) "name" = some none)
    {fI_Used : Addr}
    (iI_Used : PySem.W.findIn K (.ref C_Used) "__init__" = some (some (.ref fI_Used)))
    (tI_Used : PySem.W.typeIn K (.ref fI_Used) = some (.type "function"))
    {odI_Used anI_Used : Option Addr} {slI_Used : Array (Option Value)} {ocI_Used dcI_Used pmI_Used cdI_Used ctI_Used : Value}
    (lI_Used : K.lookup fI_Used = some ⟨ocI_Used, odI_Used, .func (PySem.W.fnOf "__init__" "Used.__init__" (defArgs sInit_Used) (defBody sInit_Used) (defScope sInit_Used) .none .none dcI_Used pmI_Used anI_Used cdI_Used ctI_Used), slI_Used⟩)
    (cI_Used : PySem.W.codeIn K cdI_Used "Used.__init__" = true)
    (kI_Used : PySem.W.keepIn K (.ref fI_Used) = true)
    {C_OutOfStep N_OutOfStep : Addr} {nm_OutOfStep q_OutOfStep : Str} {bs_OutOfStep : List Value} {sn_OutOfStep : List Str} {sub_OutOfStep : List Value} {ab_OutOfStep : Bool} {col_OutOfStep : Option Bool} {dd_OutOfStep : Option Addr} {m0_OutOfStep m1_OutOfStep m2_OutOfStep m3_OutOfStep m5_OutOfStep : Option Value}
    (aC_OutOfStep : PySem.W.nsIn K mainGlobals "OutOfStep" = some (some (.ref C_OutOfStep)))
    (xL_OutOfStep : K.lookup C_OutOfStep = some (excClassObj nm_OutOfStep q_OutOfStep C_OutOfStep N_OutOfStep bs_OutOfStep ([.type "RuntimeError", .type "Exception", .type "BaseException", .type "object"]) true sn_OutOfStep sub_OutOfStep ab_OutOfStep col_OutOfStep dd_OutOfStep m0_OutOfStep m1_OutOfStep m2_OutOfStep m3_OutOfStep m5_OutOfStep "RuntimeError.__new__"))
    (sa_OutOfStep : PySem.W.findIn K (.ref C_OutOfStep) "__setattr__" = some (some (.builtin "object.__setattr__")))
    (kC_OutOfStep : PySem.W.keepIn K (.ref C_OutOfStep) = true)
    (ga_OutOfStep : PySem.W.findIn K (.ref C_OutOfStep) "__getattribute__" = some (some (.builtin "BaseException.__getattribute__")))
    (gg_OutOfStep : PySem.W.findIn K (.ref C_OutOfStep) "__getattr__" = some none)
    (hcl_OutOfStep : PySem.W.findIn K (.ref C_OutOfStep) "__class__" = some (some (.builtin "object.__class__")))
    (nf_OutOfStep : PySem.W.findIn K (.ref C_OutOfStep) "asked" = some none)
    {fI_OutOfStep : Addr}
    (iI_OutOfStep : PySem.W.findIn K (.ref C_OutOfStep) "__init__" = some (some (.ref fI_OutOfStep)))
    (tI_OutOfStep : PySem.W.typeIn K (.ref fI_OutOfStep) = some (.type "function"))
    {odI_OutOfStep anI_OutOfStep : Option Addr} {slI_OutOfStep : Array (Option Value)} {ocI_OutOfStep dcI_OutOfStep pmI_OutOfStep cdI_OutOfStep ctI_OutOfStep : Value}
    (lI_OutOfStep : K.lookup fI_OutOfStep = some ⟨ocI_OutOfStep, odI_OutOfStep, .func (PySem.W.fnOf "__init__" "OutOfStep.__init__" (defArgs sInit_OutOfStep) (defBody sInit_OutOfStep) (defScope sInit_OutOfStep) .none .none dcI_OutOfStep pmI_OutOfStep anI_OutOfStep cdI_OutOfStep ctI_OutOfStep), slI_OutOfStep⟩)
    (cI_OutOfStep : PySem.W.codeIn K cdI_OutOfStep "OutOfStep.__init__" = true)
    (kI_OutOfStep : PySem.W.keepIn K (.ref fI_OutOfStep) = true)
    {C_EditFailed N_EditFailed : Addr} {nm_EditFailed q_EditFailed : Str} {bs_EditFailed : List Value} {sn_EditFailed : List Str} {sub_EditFailed : List Value} {ab_EditFailed : Bool} {col_EditFailed : Option Bool} {dd_EditFailed : Option Addr} {m0_EditFailed m1_EditFailed m2_EditFailed m3_EditFailed m5_EditFailed : Option Value}
    (aC_EditFailed : PySem.W.nsIn K mainGlobals "EditFailed" = some (some (.ref C_EditFailed)))
    (xL_EditFailed : K.lookup C_EditFailed = some (excClassObj nm_EditFailed q_EditFailed C_EditFailed N_EditFailed bs_EditFailed ([.type "RuntimeError", .type "Exception", .type "BaseException", .type "object"]) true sn_EditFailed sub_EditFailed ab_EditFailed col_EditFailed dd_EditFailed m0_EditFailed m1_EditFailed m2_EditFailed m3_EditFailed m5_EditFailed "RuntimeError.__new__"))
    (sa_EditFailed : PySem.W.findIn K (.ref C_EditFailed) "__setattr__" = some (some (.builtin "object.__setattr__")))
    (kC_EditFailed : PySem.W.keepIn K (.ref C_EditFailed) = true)
    (ga_EditFailed : PySem.W.findIn K (.ref C_EditFailed) "__getattribute__" = some (some (.builtin "BaseException.__getattribute__")))
    (gg_EditFailed : PySem.W.findIn K (.ref C_EditFailed) "__getattr__" = some none)
    (hcl_EditFailed : PySem.W.findIn K (.ref C_EditFailed) "__class__" = some (some (.builtin "object.__class__")))
    (nf_EditFailed : PySem.W.findIn K (.ref C_EditFailed) "index" = some none)
    {fI_EditFailed : Addr}
    (iI_EditFailed : PySem.W.findIn K (.ref C_EditFailed) "__init__" = some (some (.ref fI_EditFailed)))
    (tI_EditFailed : PySem.W.typeIn K (.ref fI_EditFailed) = some (.type "function"))
    {odI_EditFailed anI_EditFailed : Option Addr} {slI_EditFailed : Array (Option Value)} {ocI_EditFailed dcI_EditFailed pmI_EditFailed cdI_EditFailed ctI_EditFailed : Value}
    (lI_EditFailed : K.lookup fI_EditFailed = some ⟨ocI_EditFailed, odI_EditFailed, .func (PySem.W.fnOf "__init__" "EditFailed.__init__" (defArgs sInit_EditFailed) (defBody sInit_EditFailed) (defScope sInit_EditFailed) .none .none dcI_EditFailed pmI_EditFailed anI_EditFailed cdI_EditFailed ctI_EditFailed), slI_EditFailed⟩)
    (cI_EditFailed : PySem.W.codeIn K cdI_EditFailed "EditFailed.__init__" = true)
    (kI_EditFailed : PySem.W.keepIn K (.ref fI_EditFailed) = true)
    {C_TooMany N_TooMany : Addr} {nm_TooMany q_TooMany : Str} {bs_TooMany : List Value} {sn_TooMany : List Str} {sub_TooMany : List Value} {ab_TooMany : Bool} {col_TooMany : Option Bool} {dd_TooMany : Option Addr} {m0_TooMany m1_TooMany m2_TooMany m3_TooMany m5_TooMany : Option Value}
    (aC_TooMany : PySem.W.nsIn K mainGlobals "TooMany" = some (some (.ref C_TooMany)))
    (xL_TooMany : K.lookup C_TooMany = some (excClassObj nm_TooMany q_TooMany C_TooMany N_TooMany bs_TooMany ([.type "OverflowError", .type "ArithmeticError", .type "Exception", .type "BaseException", .type "object"]) true sn_TooMany sub_TooMany ab_TooMany col_TooMany dd_TooMany m0_TooMany m1_TooMany m2_TooMany m3_TooMany m5_TooMany "OverflowError.__new__"))
    (sa_TooMany : PySem.W.findIn K (.ref C_TooMany) "__setattr__" = some (some (.builtin "object.__setattr__")))
    (kC_TooMany : PySem.W.keepIn K (.ref C_TooMany) = true)
    (ga_TooMany : PySem.W.findIn K (.ref C_TooMany) "__getattribute__" = some (some (.builtin "BaseException.__getattribute__")))
    (gg_TooMany : PySem.W.findIn K (.ref C_TooMany) "__getattr__" = some none)
    (hcl_TooMany : PySem.W.findIn K (.ref C_TooMany) "__class__" = some (some (.builtin "object.__class__")))
    (nf_TooMany : PySem.W.findIn K (.ref C_TooMany) "limit" = some none)
    {fI_TooMany : Addr}
    (iI_TooMany : PySem.W.findIn K (.ref C_TooMany) "__init__" = some (some (.ref fI_TooMany)))
    (tI_TooMany : PySem.W.typeIn K (.ref fI_TooMany) = some (.type "function"))
    {odI_TooMany anI_TooMany : Option Addr} {slI_TooMany : Array (Option Value)} {ocI_TooMany dcI_TooMany pmI_TooMany cdI_TooMany ctI_TooMany : Value}
    (lI_TooMany : K.lookup fI_TooMany = some ⟨ocI_TooMany, odI_TooMany, .func (PySem.W.fnOf "__init__" "TooMany.__init__" (defArgs sInit_TooMany) (defBody sInit_TooMany) (defScope sInit_TooMany) .none .none dcI_TooMany pmI_TooMany anI_TooMany cdI_TooMany ctI_TooMany), slI_TooMany⟩)
    (cI_TooMany : PySem.W.codeIn K cdI_TooMany "TooMany.__init__" = true)
    (kI_TooMany : PySem.W.keepIn K (.ref fI_TooMany) = true)
    (nd : ([C_NoName, C_NoWays, C_NoFlag, C_NoBook, C_NoBody, C_NoEntry, C_NoTable, C_NoOperand, C_NoScene, C_NoScript, C_NoNumber, C_NoMachine, C_NoPair, C_NoPaper, C_NotNamed, C_NoRelation, C_NoAgreement, C_NoStock, C_NoWish, C_NoChoice, C_NoEdit, C_NoNote, C_NoClass, C_Unanswered, C_NoOrder, C_Parted, C_Used, C_OutOfStep, C_EditFailed, C_TooMany] : List Addr).Nodup ∧ CA ∉ ([C_NoName, C_NoWays, C_NoFlag, C_NoBook, C_NoBody, C_NoEntry, C_NoTable, C_NoOperand, C_NoScene, C_NoScript, C_NoNumber, C_NoMachine, C_NoPair, C_NoPaper, C_NotNamed, C_NoRelation, C_NoAgreement, C_NoStock, C_NoWish, C_NoChoice, C_NoEdit, C_NoNote, C_NoClass, C_Unanswered, C_NoOrder, C_Parted, C_Used, C_OutOfStep, C_EditFailed, C_TooMany] : List Addr))
    : ∃ fd : FuncData, (∀ (s : Shared) (u : Value), BindsTo s fd ⟨[u], []⟩ [("_law_script", u)]) ∧ ∀ base : Heap, K.In base → base.Ns mainGlobals mg → FnG l.prog w K mg base CX0 4 fa fd ["_law_script"] (spLaw K) := by
  have e := hfa.symm.trans (PySem.W.mg_of X G a10)
  cases e
  have T : Txt K mg := { int := PySem.W.mg_none_of X G z_int, len := PySem.W.mg_none_of X G z_len, max := PySem.W.mg_none_of X G z_max, min := PySem.W.mg_none_of X G z_min, isinstance := PySem.W.mg_none_of X G z_isinstance, range := PySem.W.mg_none_of X G z_range, list := PySem.W.mg_none_of X G z_list, dict := PySem.W.mg_none_of X G z_dict, tuple := PySem.W.mg_none_of X G z_tuple, str := PySem.W.mg_none_of X G z_str, repr := PySem.W.mg_none_of X G z_repr, enumerate := PySem.W.mg_none_of X G z_enumerate, ValueError := PySem.W.mg_none_of X G z_ValueError, KeyError := PySem.W.mg_none_of X G z_KeyError, LookupError := PySem.W.mg_none_of X G z_LookupError, RuntimeError := PySem.W.mg_none_of X G z_RuntimeError, OverflowError := PySem.W.mg_none_of X G z_OverflowError, ArithmeticError := PySem.W.mg_none_of X G z_ArithmeticError, IndexError := PySem.W.mg_none_of X G z_IndexError }
  have D_L_pool : DefAt K mg "_law_pool" sL_pool ["_law_script", "_law_k"] := defAt X G (fun _ _ _ _ _ _ us hl => match us, hl with | [_, _], _ => rfl) a1 l1 c1 k1
  have D_L_take : DefAt K mg "_law_take" sL_take ["_law_pool_here", "_law_many"] := defAt X G (fun _ _ _ _ _ _ us hl => match us, hl with | [_, _], _ => rfl) a2 l2 c2 k2
  have D_L_one : DefAt K mg "_law_one" sL_one ["_law_pool_here", "_law_some"] := defAt X G (fun _ _ _ _ _ _ us hl => match us, hl with | [_, _], _ => rfl) a3 l3 c3 k3
  have D_L_placed : DefAt K mg "_law_placed" sL_placed ["_law_thing"] := defAt X G (fun _ _ _ _ _ _ us hl => match us, hl with | [_], _ => rfl) a4 l4 c4 k4
  have D_L_called : DefAt K mg "_law_called" sL_called ["_law_it"] := defAt X G (fun _ _ _ _ _ _ us hl => match us, hl with | [_], _ => rfl) a5 l5 c5 k5
  have D_L_fields : DefAt K mg "_law_fields" sL_fields ["_law_made"] := defAt X G (fun _ _ _ _ _ _ us hl => match us, hl with | [_], _ => rfl) a6 l6 c6 k6
  have D_L_kinds : DefAt K mg "_law_kinds" sL_kinds ["_law_e"] := defAt X G (fun _ _ _ _ _ _ us hl => match us, hl with | [_], _ => rfl) a7 l7 c7 k7
  have D_L_above : DefAt K mg "_law_above" sL_above ["_law_e"] := defAt X G (fun _ _ _ _ _ _ us hl => match us, hl with | [_], _ => rfl) a8 l8 c8 k8
  have D_L_due : DefAt K mg "_law_due" sL_due ["_law_at"] := defAt X G (fun _ _ _ _ _ _ us hl => match us, hl with | [_], _ => rfl) a9 l9 c9 k9
  have FL := fun_mk (st := sLaw) l10 c10 k10
  let C : Nat → Addr := fun i => [C_NoName, C_NoWays, C_NoFlag, C_NoBook, C_NoBody, C_NoEntry, C_NoTable, C_NoOperand, C_NoScene, C_NoScript, C_NoNumber, C_NoMachine, C_NoPair, C_NoPaper, C_NotNamed, C_NoRelation, C_NoAgreement, C_NoStock, C_NoWish, C_NoChoice, C_NoEdit, C_NoNote, C_NoClass, C_Unanswered, C_NoOrder, C_Parted, C_Used, C_OutOfStep, C_EditFailed, C_TooMany].getD i 0
  have X_NoName : ClsX K CA 0 C_NoName := ⟨nm_NoName, q_NoName, N_NoName, bs_NoName, sn_NoName, sub_NoName, ab_NoName, col_NoName, dd_NoName, m0_NoName, m1_NoName, m2_NoName, m3_NoName, m5_NoName, _, xL_NoName⟩
  have V_NoName : L2.ExcC K C_NoName := ⟨ga_NoName, gg_NoName, X_NoName.bex 0 (by decide), X_NoName.dct, hcl_NoName, hsp, htk, X_NoName.obj 0 (by decide)⟩
  have T_NoName : Eb.ErrB K mg "NoName" "value" C_NoName := { cls := ⟨nm_NoName, q_NoName, N_NoName, bs_NoName, _, sn_NoName, sub_NoName, ab_NoName, col_NoName, dd_NoName, m0_NoName, m1_NoName, m2_NoName, m3_NoName, m5_NoName, _, _, _, _, xL_NoName, PySem.F.excBase_ValueError, above0.up⟩, sa := sa_NoName, kC := kC_NoName, xf := ⟨ga_NoName, gg_NoName, X_NoName.bex 0 (by decide), X_NoName.dct⟩, ic := V_NoName, no := nf_NoName, g := PySem.W.mg_of X G aC_NoName }
  have FI_NoName := fun_mk (st := sInit_NoName) lI_NoName cI_NoName kI_NoName
  have X_NoWays : ClsX K CA 1 C_NoWays := ⟨nm_NoWays, q_NoWays, N_NoWays, bs_NoWays, sn_NoWays, sub_NoWays, ab_NoWays, col_NoWays, dd_NoWays, m0_NoWays, m1_NoWays, m2_NoWays, m3_NoWays, m5_NoWays, _, xL_NoWays⟩
  have V_NoWays : L2.ExcC K C_NoWays := ⟨ga_NoWays, gg_NoWays, X_NoWays.bex 1 (by decide), X_NoWays.dct, hcl_NoWays, hsp, htk, X_NoWays.obj 1 (by decide)⟩
  have T_NoWays : Eb.ErrB K mg "NoWays" "operation" C_NoWays := { cls := ⟨nm_NoWays, q_NoWays, N_NoWays, bs_NoWays, _, sn_NoWays, sub_NoWays, ab_NoWays, col_NoWays, dd_NoWays, m0_NoWays, m1_NoWays, m2_NoWays, m3_NoWays, m5_NoWays, _, _, _, _, xL_NoWays, PySem.F.excBase_ValueError, above0.up⟩, sa := sa_NoWays, kC := kC_NoWays, xf := ⟨ga_NoWays, gg_NoWays, X_NoWays.bex 1 (by decide), X_NoWays.dct⟩, ic := V_NoWays, no := nf_NoWays, g := PySem.W.mg_of X G aC_NoWays }
  have FI_NoWays := fun_mk (st := sInit_NoWays) lI_NoWays cI_NoWays kI_NoWays
  have X_NoFlag : ClsX K CA 2 C_NoFlag := ⟨nm_NoFlag, q_NoFlag, N_NoFlag, bs_NoFlag, sn_NoFlag, sub_NoFlag, ab_NoFlag, col_NoFlag, dd_NoFlag, m0_NoFlag, m1_NoFlag, m2_NoFlag, m3_NoFlag, m5_NoFlag, _, xL_NoFlag⟩
  have V_NoFlag : L2.ExcC K C_NoFlag := ⟨ga_NoFlag, gg_NoFlag, X_NoFlag.bex 2 (by decide), X_NoFlag.dct, hcl_NoFlag, hsp, htk, X_NoFlag.obj 2 (by decide)⟩
  have T_NoFlag : Eb.ErrB K mg "NoFlag" "value" C_NoFlag := { cls := ⟨nm_NoFlag, q_NoFlag, N_NoFlag, bs_NoFlag, _, sn_NoFlag, sub_NoFlag, ab_NoFlag, col_NoFlag, dd_NoFlag, m0_NoFlag, m1_NoFlag, m2_NoFlag, m3_NoFlag, m5_NoFlag, _, _, _, _, xL_NoFlag, PySem.F.excBase_ValueError, above0.up⟩, sa := sa_NoFlag, kC := kC_NoFlag, xf := ⟨ga_NoFlag, gg_NoFlag, X_NoFlag.bex 2 (by decide), X_NoFlag.dct⟩, ic := V_NoFlag, no := nf_NoFlag, g := PySem.W.mg_of X G aC_NoFlag }
  have FI_NoFlag := fun_mk (st := sInit_NoFlag) lI_NoFlag cI_NoFlag kI_NoFlag
  have X_NoBook : ClsX K CA 3 C_NoBook := ⟨nm_NoBook, q_NoBook, N_NoBook, bs_NoBook, sn_NoBook, sub_NoBook, ab_NoBook, col_NoBook, dd_NoBook, m0_NoBook, m1_NoBook, m2_NoBook, m3_NoBook, m5_NoBook, _, xL_NoBook⟩
  have V_NoBook : L2.ExcC K C_NoBook := ⟨ga_NoBook, gg_NoBook, X_NoBook.bex 3 (by decide), X_NoBook.dct, hcl_NoBook, hsp, htk, X_NoBook.obj 3 (by decide)⟩
  have T_NoBook : Eb.ErrB K mg "NoBook" "value" C_NoBook := { cls := ⟨nm_NoBook, q_NoBook, N_NoBook, bs_NoBook, _, sn_NoBook, sub_NoBook, ab_NoBook, col_NoBook, dd_NoBook, m0_NoBook, m1_NoBook, m2_NoBook, m3_NoBook, m5_NoBook, _, _, _, _, xL_NoBook, PySem.F.excBase_ValueError, above0.up⟩, sa := sa_NoBook, kC := kC_NoBook, xf := ⟨ga_NoBook, gg_NoBook, X_NoBook.bex 3 (by decide), X_NoBook.dct⟩, ic := V_NoBook, no := nf_NoBook, g := PySem.W.mg_of X G aC_NoBook }
  have FI_NoBook := fun_mk (st := sInit_NoBook) lI_NoBook cI_NoBook kI_NoBook
  have X_NoBody : ClsX K CA 4 C_NoBody := ⟨nm_NoBody, q_NoBody, N_NoBody, bs_NoBody, sn_NoBody, sub_NoBody, ab_NoBody, col_NoBody, dd_NoBody, m0_NoBody, m1_NoBody, m2_NoBody, m3_NoBody, m5_NoBody, _, xL_NoBody⟩
  have V_NoBody : L2.ExcC K C_NoBody := ⟨ga_NoBody, gg_NoBody, X_NoBody.bex 4 (by decide), X_NoBody.dct, hcl_NoBody, hsp, htk, X_NoBody.obj 4 (by decide)⟩
  have T_NoBody : Eb.ErrB K mg "NoBody" "place" C_NoBody := { cls := ⟨nm_NoBody, q_NoBody, N_NoBody, bs_NoBody, _, sn_NoBody, sub_NoBody, ab_NoBody, col_NoBody, dd_NoBody, m0_NoBody, m1_NoBody, m2_NoBody, m3_NoBody, m5_NoBody, _, _, _, _, xL_NoBody, PySem.F.excBase_ValueError, above0.up⟩, sa := sa_NoBody, kC := kC_NoBody, xf := ⟨ga_NoBody, gg_NoBody, X_NoBody.bex 4 (by decide), X_NoBody.dct⟩, ic := V_NoBody, no := nf_NoBody, g := PySem.W.mg_of X G aC_NoBody }
  have FI_NoBody := fun_mk (st := sInit_NoBody) lI_NoBody cI_NoBody kI_NoBody
  have X_NoEntry : ClsX K CA 5 C_NoEntry := ⟨nm_NoEntry, q_NoEntry, N_NoEntry, bs_NoEntry, sn_NoEntry, sub_NoEntry, ab_NoEntry, col_NoEntry, dd_NoEntry, m0_NoEntry, m1_NoEntry, m2_NoEntry, m3_NoEntry, m5_NoEntry, _, xL_NoEntry⟩
  have V_NoEntry : L2.ExcC K C_NoEntry := ⟨ga_NoEntry, gg_NoEntry, X_NoEntry.bex 5 (by decide), X_NoEntry.dct, hcl_NoEntry, hsp, htk, X_NoEntry.obj 5 (by decide)⟩
  have T_NoEntry : Eb.ErrB K mg "NoEntry" "method" C_NoEntry := { cls := ⟨nm_NoEntry, q_NoEntry, N_NoEntry, bs_NoEntry, _, sn_NoEntry, sub_NoEntry, ab_NoEntry, col_NoEntry, dd_NoEntry, m0_NoEntry, m1_NoEntry, m2_NoEntry, m3_NoEntry, m5_NoEntry, _, _, _, _, xL_NoEntry, PySem.F.excBase_ValueError, above0.up⟩, sa := sa_NoEntry, kC := kC_NoEntry, xf := ⟨ga_NoEntry, gg_NoEntry, X_NoEntry.bex 5 (by decide), X_NoEntry.dct⟩, ic := V_NoEntry, no := nf_NoEntry, g := PySem.W.mg_of X G aC_NoEntry }
  have FI_NoEntry := fun_mk (st := sInit_NoEntry) lI_NoEntry cI_NoEntry kI_NoEntry
  have X_NoTable : ClsX K CA 6 C_NoTable := ⟨nm_NoTable, q_NoTable, N_NoTable, bs_NoTable, sn_NoTable, sub_NoTable, ab_NoTable, col_NoTable, dd_NoTable, m0_NoTable, m1_NoTable, m2_NoTable, m3_NoTable, m5_NoTable, _, xL_NoTable⟩
  have V_NoTable : L2.ExcC K C_NoTable := ⟨ga_NoTable, gg_NoTable, X_NoTable.bex 6 (by decide), X_NoTable.dct, hcl_NoTable, hsp, htk, X_NoTable.obj 6 (by decide)⟩
  have T_NoTable : Eb.ErrB K mg "NoTable" "value" C_NoTable := { cls := ⟨nm_NoTable, q_NoTable, N_NoTable, bs_NoTable, _, sn_NoTable, sub_NoTable, ab_NoTable, col_NoTable, dd_NoTable, m0_NoTable, m1_NoTable, m2_NoTable, m3_NoTable, m5_NoTable, _, _, _, _, xL_NoTable, PySem.F.excBase_ValueError, above0.up⟩, sa := sa_NoTable, kC := kC_NoTable, xf := ⟨ga_NoTable, gg_NoTable, X_NoTable.bex 6 (by decide), X_NoTable.dct⟩, ic := V_NoTable, no := nf_NoTable, g := PySem.W.mg_of X G aC_NoTable }
  have FI_NoTable := fun_mk (st := sInit_NoTable) lI_NoTable cI_NoTable kI_NoTable
  have X_NoOperand : ClsX K CA 7 C_NoOperand := ⟨nm_NoOperand, q_NoOperand, N_NoOperand, bs_NoOperand, sn_NoOperand, sub_NoOperand, ab_NoOperand, col_NoOperand, dd_NoOperand, m0_NoOperand, m1_NoOperand, m2_NoOperand, m3_NoOperand, m5_NoOperand, _, xL_NoOperand⟩
  have V_NoOperand : L2.ExcC K C_NoOperand := ⟨ga_NoOperand, gg_NoOperand, X_NoOperand.bex 7 (by decide), X_NoOperand.dct, hcl_NoOperand, hsp, htk, X_NoOperand.obj 7 (by decide)⟩
  have T_NoOperand : Eb.ErrB K mg "NoOperand" "value" C_NoOperand := { cls := ⟨nm_NoOperand, q_NoOperand, N_NoOperand, bs_NoOperand, _, sn_NoOperand, sub_NoOperand, ab_NoOperand, col_NoOperand, dd_NoOperand, m0_NoOperand, m1_NoOperand, m2_NoOperand, m3_NoOperand, m5_NoOperand, _, _, _, _, xL_NoOperand, PySem.F.excBase_ValueError, above0.up⟩, sa := sa_NoOperand, kC := kC_NoOperand, xf := ⟨ga_NoOperand, gg_NoOperand, X_NoOperand.bex 7 (by decide), X_NoOperand.dct⟩, ic := V_NoOperand, no := nf_NoOperand, g := PySem.W.mg_of X G aC_NoOperand }
  have FI_NoOperand := fun_mk (st := sInit_NoOperand) lI_NoOperand cI_NoOperand kI_NoOperand
  have X_NoScene : ClsX K CA 8 C_NoScene := ⟨nm_NoScene, q_NoScene, N_NoScene, bs_NoScene, sn_NoScene, sub_NoScene, ab_NoScene, col_NoScene, dd_NoScene, m0_NoScene, m1_NoScene, m2_NoScene, m3_NoScene, m5_NoScene, _, xL_NoScene⟩
  have V_NoScene : L2.ExcC K C_NoScene := ⟨ga_NoScene, gg_NoScene, X_NoScene.bex 8 (by decide), X_NoScene.dct, hcl_NoScene, hsp, htk, X_NoScene.obj 8 (by decide)⟩
  have T_NoScene : Eb.ErrB K mg "NoScene" "value" C_NoScene := { cls := ⟨nm_NoScene, q_NoScene, N_NoScene, bs_NoScene, _, sn_NoScene, sub_NoScene, ab_NoScene, col_NoScene, dd_NoScene, m0_NoScene, m1_NoScene, m2_NoScene, m3_NoScene, m5_NoScene, _, _, _, _, xL_NoScene, PySem.F.excBase_ValueError, above0.up⟩, sa := sa_NoScene, kC := kC_NoScene, xf := ⟨ga_NoScene, gg_NoScene, X_NoScene.bex 8 (by decide), X_NoScene.dct⟩, ic := V_NoScene, no := nf_NoScene, g := PySem.W.mg_of X G aC_NoScene }
  have FI_NoScene := fun_mk (st := sInit_NoScene) lI_NoScene cI_NoScene kI_NoScene
  have X_NoScript : ClsX K CA 9 C_NoScript := ⟨nm_NoScript, q_NoScript, N_NoScript, bs_NoScript, sn_NoScript, sub_NoScript, ab_NoScript, col_NoScript, dd_NoScript, m0_NoScript, m1_NoScript, m2_NoScript, m3_NoScript, m5_NoScript, _, xL_NoScript⟩
  have V_NoScript : L2.ExcC K C_NoScript := ⟨ga_NoScript, gg_NoScript, X_NoScript.bex 9 (by decide), X_NoScript.dct, hcl_NoScript, hsp, htk, X_NoScript.obj 9 (by decide)⟩
  have T_NoScript : Eb.ErrB K mg "NoScript" "index" C_NoScript := { cls := ⟨nm_NoScript, q_NoScript, N_NoScript, bs_NoScript, _, sn_NoScript, sub_NoScript, ab_NoScript, col_NoScript, dd_NoScript, m0_NoScript, m1_NoScript, m2_NoScript, m3_NoScript, m5_NoScript, _, _, _, _, xL_NoScript, PySem.F.excBase_ValueError, above0.up⟩, sa := sa_NoScript, kC := kC_NoScript, xf := ⟨ga_NoScript, gg_NoScript, X_NoScript.bex 9 (by decide), X_NoScript.dct⟩, ic := V_NoScript, no := nf_NoScript, g := PySem.W.mg_of X G aC_NoScript }
  have FI_NoScript := fun_mk (st := sInit_NoScript) lI_NoScript cI_NoScript kI_NoScript
  have X_NoNumber : ClsX K CA 10 C_NoNumber := ⟨nm_NoNumber, q_NoNumber, N_NoNumber, bs_NoNumber, sn_NoNumber, sub_NoNumber, ab_NoNumber, col_NoNumber, dd_NoNumber, m0_NoNumber, m1_NoNumber, m2_NoNumber, m3_NoNumber, m5_NoNumber, _, xL_NoNumber⟩
  have V_NoNumber : L2.ExcC K C_NoNumber := ⟨ga_NoNumber, gg_NoNumber, X_NoNumber.bex 10 (by decide), X_NoNumber.dct, hcl_NoNumber, hsp, htk, X_NoNumber.obj 10 (by decide)⟩
  have T_NoNumber : Eb.ErrB K mg "NoNumber" "value" C_NoNumber := { cls := ⟨nm_NoNumber, q_NoNumber, N_NoNumber, bs_NoNumber, _, sn_NoNumber, sub_NoNumber, ab_NoNumber, col_NoNumber, dd_NoNumber, m0_NoNumber, m1_NoNumber, m2_NoNumber, m3_NoNumber, m5_NoNumber, _, _, _, _, xL_NoNumber, PySem.F.excBase_ValueError, above0.up⟩, sa := sa_NoNumber, kC := kC_NoNumber, xf := ⟨ga_NoNumber, gg_NoNumber, X_NoNumber.bex 10 (by decide), X_NoNumber.dct⟩, ic := V_NoNumber, no := nf_NoNumber, g := PySem.W.mg_of X G aC_NoNumber }
  have FI_NoNumber := fun_mk (st := sInit_NoNumber) lI_NoNumber cI_NoNumber kI_NoNumber
  have X_NoMachine : ClsX K CA 11 C_NoMachine := ⟨nm_NoMachine, q_NoMachine, N_NoMachine, bs_NoMachine, sn_NoMachine, sub_NoMachine, ab_NoMachine, col_NoMachine, dd_NoMachine, m0_NoMachine, m1_NoMachine, m2_NoMachine, m3_NoMachine, m5_NoMachine, _, xL_NoMachine⟩
  have V_NoMachine : L2.ExcC K C_NoMachine := ⟨ga_NoMachine, gg_NoMachine, X_NoMachine.bex 11 (by decide), X_NoMachine.dct, hcl_NoMachine, hsp, htk, X_NoMachine.obj 11 (by decide)⟩
  have T_NoMachine : Eb.ErrB K mg "NoMachine" "row" C_NoMachine := { cls := ⟨nm_NoMachine, q_NoMachine, N_NoMachine, bs_NoMachine, _, sn_NoMachine, sub_NoMachine, ab_NoMachine, col_NoMachine, dd_NoMachine, m0_NoMachine, m1_NoMachine, m2_NoMachine, m3_NoMachine, m5_NoMachine, _, _, _, _, xL_NoMachine, PySem.F.excBase_ValueError, above0.up⟩, sa := sa_NoMachine, kC := kC_NoMachine, xf := ⟨ga_NoMachine, gg_NoMachine, X_NoMachine.bex 11 (by decide), X_NoMachine.dct⟩, ic := V_NoMachine, no := nf_NoMachine, g := PySem.W.mg_of X G aC_NoMachine }
  have FI_NoMachine := fun_mk (st := sInit_NoMachine) lI_NoMachine cI_NoMachine kI_NoMachine
  have X_NoPair : ClsX K CA 12 C_NoPair := ⟨nm_NoPair, q_NoPair, N_NoPair, bs_NoPair, sn_NoPair, sub_NoPair, ab_NoPair, col_NoPair, dd_NoPair, m0_NoPair, m1_NoPair, m2_NoPair, m3_NoPair, m5_NoPair, _, xL_NoPair⟩
  have V_NoPair : L2.ExcC K C_NoPair := ⟨ga_NoPair, gg_NoPair, X_NoPair.bex 12 (by decide), X_NoPair.dct, hcl_NoPair, hsp, htk, X_NoPair.obj 12 (by decide)⟩
  have T_NoPair : Eb.ErrB K mg "NoPair" "value" C_NoPair := { cls := ⟨nm_NoPair, q_NoPair, N_NoPair, bs_NoPair, _, sn_NoPair, sub_NoPair, ab_NoPair, col_NoPair, dd_NoPair, m0_NoPair, m1_NoPair, m2_NoPair, m3_NoPair, m5_NoPair, _, _, _, _, xL_NoPair, PySem.F.excBase_ValueError, above0.up⟩, sa := sa_NoPair, kC := kC_NoPair, xf := ⟨ga_NoPair, gg_NoPair, X_NoPair.bex 12 (by decide), X_NoPair.dct⟩, ic := V_NoPair, no := nf_NoPair, g := PySem.W.mg_of X G aC_NoPair }
  have FI_NoPair := fun_mk (st := sInit_NoPair) lI_NoPair cI_NoPair kI_NoPair
  have X_NoPaper : ClsX K CA 13 C_NoPaper := ⟨nm_NoPaper, q_NoPaper, N_NoPaper, bs_NoPaper, sn_NoPaper, sub_NoPaper, ab_NoPaper, col_NoPaper, dd_NoPaper, m0_NoPaper, m1_NoPaper, m2_NoPaper, m3_NoPaper, m5_NoPaper, _, xL_NoPaper⟩
  have V_NoPaper : L2.ExcC K C_NoPaper := ⟨ga_NoPaper, gg_NoPaper, X_NoPaper.bex 13 (by decide), X_NoPaper.dct, hcl_NoPaper, hsp, htk, X_NoPaper.obj 13 (by decide)⟩
  have T_NoPaper : Eb.ErrB K mg "NoPaper" "index" C_NoPaper := { cls := ⟨nm_NoPaper, q_NoPaper, N_NoPaper, bs_NoPaper, _, sn_NoPaper, sub_NoPaper, ab_NoPaper, col_NoPaper, dd_NoPaper, m0_NoPaper, m1_NoPaper, m2_NoPaper, m3_NoPaper, m5_NoPaper, _, _, _, _, xL_NoPaper, PySem.F.excBase_ValueError, above0.up⟩, sa := sa_NoPaper, kC := kC_NoPaper, xf := ⟨ga_NoPaper, gg_NoPaper, X_NoPaper.bex 13 (by decide), X_NoPaper.dct⟩, ic := V_NoPaper, no := nf_NoPaper, g := PySem.W.mg_of X G aC_NoPaper }
  have FI_NoPaper := fun_mk (st := sInit_NoPaper) lI_NoPaper cI_NoPaper kI_NoPaper
  have X_NotNamed : ClsX K CA 14 C_NotNamed := ⟨nm_NotNamed, q_NotNamed, N_NotNamed, bs_NotNamed, sn_NotNamed, sub_NotNamed, ab_NotNamed, col_NotNamed, dd_NotNamed, m0_NotNamed, m1_NotNamed, m2_NotNamed, m3_NotNamed, m5_NotNamed, _, xL_NotNamed⟩
  have V_NotNamed : L2.ExcC K C_NotNamed := ⟨ga_NotNamed, gg_NotNamed, X_NotNamed.bex 14 (by decide), X_NotNamed.dct, hcl_NotNamed, hsp, htk, X_NotNamed.obj 14 (by decide)⟩
  have T_NotNamed : Eb.ErrB K mg "NotNamed" "method" C_NotNamed := { cls := ⟨nm_NotNamed, q_NotNamed, N_NotNamed, bs_NotNamed, _, sn_NotNamed, sub_NotNamed, ab_NotNamed, col_NotNamed, dd_NotNamed, m0_NotNamed, m1_NotNamed, m2_NotNamed, m3_NotNamed, m5_NotNamed, _, _, _, _, xL_NotNamed, PySem.F.excBase_ValueError, above0.up⟩, sa := sa_NotNamed, kC := kC_NotNamed, xf := ⟨ga_NotNamed, gg_NotNamed, X_NotNamed.bex 14 (by decide), X_NotNamed.dct⟩, ic := V_NotNamed, no := nf_NotNamed, g := PySem.W.mg_of X G aC_NotNamed }
  have FI_NotNamed := fun_mk (st := sInit_NotNamed) lI_NotNamed cI_NotNamed kI_NotNamed
  have X_NoRelation : ClsX K CA 15 C_NoRelation := ⟨nm_NoRelation, q_NoRelation, N_NoRelation, bs_NoRelation, sn_NoRelation, sub_NoRelation, ab_NoRelation, col_NoRelation, dd_NoRelation, m0_NoRelation, m1_NoRelation, m2_NoRelation, m3_NoRelation, m5_NoRelation, _, xL_NoRelation⟩
  have V_NoRelation : L2.ExcC K C_NoRelation := ⟨ga_NoRelation, gg_NoRelation, X_NoRelation.bex 15 (by decide), X_NoRelation.dct, hcl_NoRelation, hsp, htk, X_NoRelation.obj 15 (by decide)⟩
  have T_NoRelation : Eb.ErrB K mg "NoRelation" "value" C_NoRelation := { cls := ⟨nm_NoRelation, q_NoRelation, N_NoRelation, bs_NoRelation, _, sn_NoRelation, sub_NoRelation, ab_NoRelation, col_NoRelation, dd_NoRelation, m0_NoRelation, m1_NoRelation, m2_NoRelation, m3_NoRelation, m5_NoRelation, _, _, _, _, xL_NoRelation, PySem.F.excBase_ValueError, above0.up⟩, sa := sa_NoRelation, kC := kC_NoRelation, xf := ⟨ga_NoRelation, gg_NoRelation, X_NoRelation.bex 15 (by decide), X_NoRelation.dct⟩, ic := V_NoRelation, no := nf_NoRelation, g := PySem.W.mg_of X G aC_NoRelation }
  have FI_NoRelation := fun_mk (st := sInit_NoRelation) lI_NoRelation cI_NoRelation kI_NoRelation
  have X_NoAgreement : ClsX K CA 16 C_NoAgreement := ⟨nm_NoAgreement, q_NoAgreement, N_NoAgreement, bs_NoAgreement, sn_NoAgreement, sub_NoAgreement, ab_NoAgreement, col_NoAgreement, dd_NoAgreement, m0_NoAgreement, m1_NoAgreement, m2_NoAgreement, m3_NoAgreement, m5_NoAgreement, _, xL_NoAgreement⟩
  have V_NoAgreement : L2.ExcC K C_NoAgreement := ⟨ga_NoAgreement, gg_NoAgreement, X_NoAgreement.bex 16 (by decide), X_NoAgreement.dct, hcl_NoAgreement, hsp, htk, X_NoAgreement.obj 16 (by decide)⟩
  have T_NoAgreement : Eb.ErrB K mg "NoAgreement" "value" C_NoAgreement := { cls := ⟨nm_NoAgreement, q_NoAgreement, N_NoAgreement, bs_NoAgreement, _, sn_NoAgreement, sub_NoAgreement, ab_NoAgreement, col_NoAgreement, dd_NoAgreement, m0_NoAgreement, m1_NoAgreement, m2_NoAgreement, m3_NoAgreement, m5_NoAgreement, _, _, _, _, xL_NoAgreement, PySem.F.excBase_ValueError, above0.up⟩, sa := sa_NoAgreement, kC := kC_NoAgreement, xf := ⟨ga_NoAgreement, gg_NoAgreement, X_NoAgreement.bex 16 (by decide), X_NoAgreement.dct⟩, ic := V_NoAgreement, no := nf_NoAgreement, g := PySem.W.mg_of X G aC_NoAgreement }
  have FI_NoAgreement := fun_mk (st := sInit_NoAgreement) lI_NoAgreement cI_NoAgreement kI_NoAgreement
  have X_NoStock : ClsX K CA 17 C_NoStock := ⟨nm_NoStock, q_NoStock, N_NoStock, bs_NoStock, sn_NoStock, sub_NoStock, ab_NoStock, col_NoStock, dd_NoStock, m0_NoStock, m1_NoStock, m2_NoStock, m3_NoStock, m5_NoStock, _, xL_NoStock⟩
  have V_NoStock : L2.ExcC K C_NoStock := ⟨ga_NoStock, gg_NoStock, X_NoStock.bex 17 (by decide), X_NoStock.dct, hcl_NoStock, hsp, htk, X_NoStock.obj 17 (by decide)⟩
  have T_NoStock : Eb.ErrB K mg "NoStock" "index" C_NoStock := { cls := ⟨nm_NoStock, q_NoStock, N_NoStock, bs_NoStock, _, sn_NoStock, sub_NoStock, ab_NoStock, col_NoStock, dd_NoStock, m0_NoStock, m1_NoStock, m2_NoStock, m3_NoStock, m5_NoStock, _, _, _, _, xL_NoStock, PySem.F.excBase_ValueError, above0.up⟩, sa := sa_NoStock, kC := kC_NoStock, xf := ⟨ga_NoStock, gg_NoStock, X_NoStock.bex 17 (by decide), X_NoStock.dct⟩, ic := V_NoStock, no := nf_NoStock, g := PySem.W.mg_of X G aC_NoStock }
  have FI_NoStock := fun_mk (st := sInit_NoStock) lI_NoStock cI_NoStock kI_NoStock
  have X_NoWish : ClsX K CA 18 C_NoWish := ⟨nm_NoWish, q_NoWish, N_NoWish, bs_NoWish, sn_NoWish, sub_NoWish, ab_NoWish, col_NoWish, dd_NoWish, m0_NoWish, m1_NoWish, m2_NoWish, m3_NoWish, m5_NoWish, _, xL_NoWish⟩
  have V_NoWish : L2.ExcC K C_NoWish := ⟨ga_NoWish, gg_NoWish, X_NoWish.bex 18 (by decide), X_NoWish.dct, hcl_NoWish, hsp, htk, X_NoWish.obj 18 (by decide)⟩
  have T_NoWish : Eb.ErrB K mg "NoWish" "index" C_NoWish := { cls := ⟨nm_NoWish, q_NoWish, N_NoWish, bs_NoWish, _, sn_NoWish, sub_NoWish, ab_NoWish, col_NoWish, dd_NoWish, m0_NoWish, m1_NoWish, m2_NoWish, m3_NoWish, m5_NoWish, _, _, _, _, xL_NoWish, PySem.F.excBase_ValueError, above0.up⟩, sa := sa_NoWish, kC := kC_NoWish, xf := ⟨ga_NoWish, gg_NoWish, X_NoWish.bex 18 (by decide), X_NoWish.dct⟩, ic := V_NoWish, no := nf_NoWish, g := PySem.W.mg_of X G aC_NoWish }
  have FI_NoWish := fun_mk (st := sInit_NoWish) lI_NoWish cI_NoWish kI_NoWish
  have X_NoChoice : ClsX K CA 19 C_NoChoice := ⟨nm_NoChoice, q_NoChoice, N_NoChoice, bs_NoChoice, sn_NoChoice, sub_NoChoice, ab_NoChoice, col_NoChoice, dd_NoChoice, m0_NoChoice, m1_NoChoice, m2_NoChoice, m3_NoChoice, m5_NoChoice, _, xL_NoChoice⟩
  have V_NoChoice : L2.ExcC K C_NoChoice := ⟨ga_NoChoice, gg_NoChoice, X_NoChoice.bex 19 (by decide), X_NoChoice.dct, hcl_NoChoice, hsp, htk, X_NoChoice.obj 19 (by decide)⟩
  have T_NoChoice : Eb.ErrB K mg "NoChoice" "value" C_NoChoice := { cls := ⟨nm_NoChoice, q_NoChoice, N_NoChoice, bs_NoChoice, _, sn_NoChoice, sub_NoChoice, ab_NoChoice, col_NoChoice, dd_NoChoice, m0_NoChoice, m1_NoChoice, m2_NoChoice, m3_NoChoice, m5_NoChoice, _, _, _, _, xL_NoChoice, PySem.F.excBase_ValueError, above0.up⟩, sa := sa_NoChoice, kC := kC_NoChoice, xf := ⟨ga_NoChoice, gg_NoChoice, X_NoChoice.bex 19 (by decide), X_NoChoice.dct⟩, ic := V_NoChoice, no := nf_NoChoice, g := PySem.W.mg_of X G aC_NoChoice }
  have FI_NoChoice := fun_mk (st := sInit_NoChoice) lI_NoChoice cI_NoChoice kI_NoChoice
  have X_NoEdit : ClsX K CA 20 C_NoEdit := ⟨nm_NoEdit, q_NoEdit, N_NoEdit, bs_NoEdit, sn_NoEdit, sub_NoEdit, ab_NoEdit, col_NoEdit, dd_NoEdit, m0_NoEdit, m1_NoEdit, m2_NoEdit, m3_NoEdit, m5_NoEdit, _, xL_NoEdit⟩
  have V_NoEdit : L2.ExcC K C_NoEdit := ⟨ga_NoEdit, gg_NoEdit, X_NoEdit.bex 20 (by decide), X_NoEdit.dct, hcl_NoEdit, hsp, htk, X_NoEdit.obj 20 (by decide)⟩
  have T_NoEdit : Eb.ErrB K mg "NoEdit" "index" C_NoEdit := { cls := ⟨nm_NoEdit, q_NoEdit, N_NoEdit, bs_NoEdit, _, sn_NoEdit, sub_NoEdit, ab_NoEdit, col_NoEdit, dd_NoEdit, m0_NoEdit, m1_NoEdit, m2_NoEdit, m3_NoEdit, m5_NoEdit, _, _, _, _, xL_NoEdit, PySem.F.excBase_ValueError, above0.up⟩, sa := sa_NoEdit, kC := kC_NoEdit, xf := ⟨ga_NoEdit, gg_NoEdit, X_NoEdit.bex 20 (by decide), X_NoEdit.dct⟩, ic := V_NoEdit, no := nf_NoEdit, g := PySem.W.mg_of X G aC_NoEdit }
  have FI_NoEdit := fun_mk (st := sInit_NoEdit) lI_NoEdit cI_NoEdit kI_NoEdit
  have X_NoNote : ClsX K CA 21 C_NoNote := ⟨nm_NoNote, q_NoNote, N_NoNote, bs_NoNote, sn_NoNote, sub_NoNote, ab_NoNote, col_NoNote, dd_NoNote, m0_NoNote, m1_NoNote, m2_NoNote, m3_NoNote, m5_NoNote, _, xL_NoNote⟩
  have V_NoNote : L2.ExcC K C_NoNote := ⟨ga_NoNote, gg_NoNote, X_NoNote.bex 21 (by decide), X_NoNote.dct, hcl_NoNote, hsp, htk, X_NoNote.obj 21 (by decide)⟩
  have T_NoNote : Eb.ErrB K mg "NoNote" "line" C_NoNote := { cls := ⟨nm_NoNote, q_NoNote, N_NoNote, bs_NoNote, _, sn_NoNote, sub_NoNote, ab_NoNote, col_NoNote, dd_NoNote, m0_NoNote, m1_NoNote, m2_NoNote, m3_NoNote, m5_NoNote, _, _, _, _, xL_NoNote, PySem.F.excBase_ValueError, above0.up⟩, sa := sa_NoNote, kC := kC_NoNote, xf := ⟨ga_NoNote, gg_NoNote, X_NoNote.bex 21 (by decide), X_NoNote.dct⟩, ic := V_NoNote, no := nf_NoNote, g := PySem.W.mg_of X G aC_NoNote }
  have FI_NoNote := fun_mk (st := sInit_NoNote) lI_NoNote cI_NoNote kI_NoNote
  have X_NoClass : ClsX K CA 22 C_NoClass := ⟨nm_NoClass, q_NoClass, N_NoClass, bs_NoClass, sn_NoClass, sub_NoClass, ab_NoClass, col_NoClass, dd_NoClass, m0_NoClass, m1_NoClass, m2_NoClass, m3_NoClass, m5_NoClass, _, xL_NoClass⟩
  have V_NoClass : L2.ExcC K C_NoClass := ⟨ga_NoClass, gg_NoClass, X_NoClass.bex 22 (by decide), X_NoClass.dct, hcl_NoClass, hsp, htk, X_NoClass.obj 22 (by decide)⟩
  have T_NoClass : Eb.ErrB K mg "NoClass" "name" C_NoClass := { cls := ⟨nm_NoClass, q_NoClass, N_NoClass, bs_NoClass, _, sn_NoClass, sub_NoClass, ab_NoClass, col_NoClass, dd_NoClass, m0_NoClass, m1_NoClass, m2_NoClass, m3_NoClass, m5_NoClass, _, _, _, _, xL_NoClass, PySem.F.excBase_LookupError, above1⟩, sa := sa_NoClass, kC := kC_NoClass, xf := ⟨ga_NoClass, gg_NoClass, X_NoClass.bex 22 (by decide), X_NoClass.dct⟩, ic := V_NoClass, no := nf_NoClass, g := PySem.W.mg_of X G aC_NoClass }
  have FI_NoClass := fun_mk (st := sInit_NoClass) lI_NoClass cI_NoClass kI_NoClass
  have X_Unanswered : ClsX K CA 23 C_Unanswered := ⟨nm_Unanswered, q_Unanswered, N_Unanswered, bs_Unanswered, sn_Unanswered, sub_Unanswered, ab_Unanswered, col_Unanswered, dd_Unanswered, m0_Unanswered, m1_Unanswered, m2_Unanswered, m3_Unanswered, m5_Unanswered, _, xL_Unanswered⟩
  have V_Unanswered : L2.ExcC K C_Unanswered := ⟨ga_Unanswered, gg_Unanswered, X_Unanswered.bex 23 (by decide), X_Unanswered.dct, hcl_Unanswered, hsp, htk, X_Unanswered.obj 23 (by decide)⟩
  have T_Unanswered : Eb.ErrB K mg "Unanswered" "asked" C_Unanswered := { cls := ⟨nm_Unanswered, q_Unanswered, N_Unanswered, bs_Unanswered, _, sn_Unanswered, sub_Unanswered, ab_Unanswered, col_Unanswered, dd_Unanswered, m0_Unanswered, m1_Unanswered, m2_Unanswered, m3_Unanswered, m5_Unanswered, _, _, _, _, xL_Unanswered, PySem.F.excBase_LookupError, above1⟩, sa := sa_Unanswered, kC := kC_Unanswered, xf := ⟨ga_Unanswered, gg_Unanswered, X_Unanswered.bex 23 (by decide), X_Unanswered.dct⟩, ic := V_Unanswered, no := nf_Unanswered, g := PySem.W.mg_of X G aC_Unanswered }
  have FI_Unanswered := fun_mk (st := sInit_Unanswered) lI_Unanswered cI_Unanswered kI_Unanswered
  have X_NoOrder : ClsX K CA 24 C_NoOrder := ⟨nm_NoOrder, q_NoOrder, N_NoOrder, bs_NoOrder, sn_NoOrder, sub_NoOrder, ab_NoOrder, col_NoOrder, dd_NoOrder, m0_NoOrder, m1_NoOrder, m2_NoOrder, m3_NoOrder, m5_NoOrder, _, xL_NoOrder⟩
  have V_NoOrder : L2.ExcC K C_NoOrder := ⟨ga_NoOrder, gg_NoOrder, X_NoOrder.bex 24 (by decide), X_NoOrder.dct, hcl_NoOrder, hsp, htk, X_NoOrder.obj 24 (by decide)⟩
  have T_NoOrder : Eb.ErrB K mg "NoOrder" "name" C_NoOrder := { cls := ⟨nm_NoOrder, q_NoOrder, N_NoOrder, bs_NoOrder, _, sn_NoOrder, sub_NoOrder, ab_NoOrder, col_NoOrder, dd_NoOrder, m0_NoOrder, m1_NoOrder, m2_NoOrder, m3_NoOrder, m5_NoOrder, _, _, _, _, xL_NoOrder, PySem.F.excBase_LookupError, above2⟩, sa := sa_NoOrder, kC := kC_NoOrder, xf := ⟨ga_NoOrder, gg_NoOrder, X_NoOrder.bex 24 (by decide), X_NoOrder.dct⟩, ic := V_NoOrder, no := nf_NoOrder, g := PySem.W.mg_of X G aC_NoOrder }
  have FI_NoOrder := fun_mk (st := sInit_NoOrder) lI_NoOrder cI_NoOrder kI_NoOrder
  have X_Parted : ClsX K CA 25 C_Parted := ⟨nm_Parted, q_Parted, N_Parted, bs_Parted, sn_Parted, sub_Parted, ab_Parted, col_Parted, dd_Parted, m0_Parted, m1_Parted, m2_Parted, m3_Parted, m5_Parted, _, xL_Parted⟩
  have V_Parted : L2.ExcC K C_Parted := ⟨ga_Parted, gg_Parted, X_Parted.bex 25 (by decide), X_Parted.dct, hcl_Parted, hsp, htk, X_Parted.obj 25 (by decide)⟩
  have T_Parted : Eb.ErrB K mg "Parted" "script" C_Parted := { cls := ⟨nm_Parted, q_Parted, N_Parted, bs_Parted, _, sn_Parted, sub_Parted, ab_Parted, col_Parted, dd_Parted, m0_Parted, m1_Parted, m2_Parted, m3_Parted, m5_Parted, _, _, _, _, xL_Parted, PySem.F.excBase_LookupError, above2⟩, sa := sa_Parted, kC := kC_Parted, xf := ⟨ga_Parted, gg_Parted, X_Parted.bex 25 (by decide), X_Parted.dct⟩, ic := V_Parted, no := nf_Parted, g := PySem.W.mg_of X G aC_Parted }
  have FI_Parted := fun_mk (st := sInit_Parted) lI_Parted cI_Parted kI_Parted
  have X_Used : ClsX K CA 26 C_Used := ⟨nm_Used, q_Used, N_Used, bs_Used, sn_Used, sub_Used, ab_Used, col_Used, dd_Used, m0_Used, m1_Used, m2_Used, m3_Used, m5_Used, _, xL_Used⟩
  have V_Used : L2.ExcC K C_Used := ⟨ga_Used, gg_Used, X_Used.bex 26 (by decide), X_Used.dct, hcl_Used, hsp, htk, X_Used.obj 26 (by decide)⟩
  have T_Used : Eb.ErrB K mg "Used" "name" C_Used := { cls := ⟨nm_Used, q_Used, N_Used, bs_Used, _, sn_Used, sub_Used, ab_Used, col_Used, dd_Used, m0_Used, m1_Used, m2_Used, m3_Used, m5_Used, _, _, _, _, xL_Used, PySem.F.excBase_RuntimeError, above3⟩, sa := sa_Used, kC := kC_Used, xf := ⟨ga_Used, gg_Used, X_Used.bex 26 (by decide), X_Used.dct⟩, ic := V_Used, no := nf_Used, g := PySem.W.mg_of X G aC_Used }
  have FI_Used := fun_mk (st := sInit_Used) lI_Used cI_Used kI_Used
  have X_OutOfStep : ClsX K CA 27 C_OutOfStep := ⟨nm_OutOfStep, q_OutOfStep, N_OutOfStep, bs_OutOfStep, sn_OutOfStep, sub_OutOfStep, ab_OutOfStep, col_OutOfStep, dd_OutOfStep, m0_OutOfStep, m1_OutOfStep, m2_OutOfStep, m3_OutOfStep, m5_OutOfStep, _, xL_OutOfStep⟩
  have V_OutOfStep : L2.ExcC K C_OutOfStep := ⟨ga_OutOfStep, gg_OutOfStep, X_OutOfStep.bex 27 (by decide), X_OutOfStep.dct, hcl_OutOfStep, hsp, htk, X_OutOfStep.obj 27 (by decide)⟩
  have T_OutOfStep : Eb.ErrB K mg "OutOfStep" "asked" C_OutOfStep := { cls := ⟨nm_OutOfStep, q_OutOfStep, N_OutOfStep, bs_OutOfStep, _, sn_OutOfStep, sub_OutOfStep, ab_OutOfStep, col_OutOfStep, dd_OutOfStep, m0_OutOfStep, m1_OutOfStep, m2_OutOfStep, m3_OutOfStep, m5_OutOfStep, _, _, _, _, xL_OutOfStep, PySem.F.excBase_RuntimeError, above3⟩, sa := sa_OutOfStep, kC := kC_OutOfStep, xf := ⟨ga_OutOfStep, gg_OutOfStep, X_OutOfStep.bex 27 (by decide), X_OutOfStep.dct⟩, ic := V_OutOfStep, no := nf_OutOfStep, g := PySem.W.mg_of X G aC_OutOfStep }
  have FI_OutOfStep := fun_mk (st := sInit_OutOfStep) lI_OutOfStep cI_OutOfStep kI_OutOfStep
  have X_EditFailed : ClsX K CA 28 C_EditFailed := ⟨nm_EditFailed, q_EditFailed, N_EditFailed, bs_EditFailed, sn_EditFailed, sub_EditFailed, ab_EditFailed, col_EditFailed, dd_EditFailed, m0_EditFailed, m1_EditFailed, m2_EditFailed, m3_EditFailed, m5_EditFailed, _, xL_EditFailed⟩
  have V_EditFailed : L2.ExcC K C_EditFailed := ⟨ga_EditFailed, gg_EditFailed, X_EditFailed.bex 28 (by decide), X_EditFailed.dct, hcl_EditFailed, hsp, htk, X_EditFailed.obj 28 (by decide)⟩
  have T_EditFailed : Eb.ErrB K mg "EditFailed" "index" C_EditFailed := { cls := ⟨nm_EditFailed, q_EditFailed, N_EditFailed, bs_EditFailed, _, sn_EditFailed, sub_EditFailed, ab_EditFailed, col_EditFailed, dd_EditFailed, m0_EditFailed, m1_EditFailed, m2_EditFailed, m3_EditFailed, m5_EditFailed, _, _, _, _, xL_EditFailed, PySem.F.excBase_RuntimeError, above3⟩, sa := sa_EditFailed, kC := kC_EditFailed, xf := ⟨ga_EditFailed, gg_EditFailed, X_EditFailed.bex 28 (by decide), X_EditFailed.dct⟩, ic := V_EditFailed, no := nf_EditFailed, g := PySem.W.mg_of X G aC_EditFailed }
  have FI_EditFailed := fun_mk (st := sInit_EditFailed) lI_EditFailed cI_EditFailed kI_EditFailed
  have X_TooMany : ClsX K CA 29 C_TooMany := ⟨nm_TooMany, q_TooMany, N_TooMany, bs_TooMany, sn_TooMany, sub_TooMany, ab_TooMany, col_TooMany, dd_TooMany, m0_TooMany, m1_TooMany, m2_TooMany, m3_TooMany, m5_TooMany, _, xL_TooMany⟩
  have V_TooMany : L2.ExcC K C_TooMany := ⟨ga_TooMany, gg_TooMany, X_TooMany.bex 29 (by decide), X_TooMany.dct, hcl_TooMany, hsp, htk, X_TooMany.obj 29 (by decide)⟩
  have T_TooMany : Eb.ErrB K mg "TooMany" "limit" C_TooMany := { cls := ⟨nm_TooMany, q_TooMany, N_TooMany, bs_TooMany, _, sn_TooMany, sub_TooMany, ab_TooMany, col_TooMany, dd_TooMany, m0_TooMany, m1_TooMany, m2_TooMany, m3_TooMany, m5_TooMany, _, _, _, _, xL_TooMany, PySem.F.excBase_OverflowError, above4⟩, sa := sa_TooMany, kC := kC_TooMany, xf := ⟨ga_TooMany, gg_TooMany, X_TooMany.bex 29 (by decide), X_TooMany.dct⟩, ic := V_TooMany, no := nf_TooMany, g := PySem.W.mg_of X G aC_TooMany }
  have FI_TooMany := fun_mk (st := sInit_TooMany) lI_TooMany cI_TooMany kI_TooMany
  have ic : ∀ i, i < 30 → L2.ExcC K (C i) := all30 ⟨V_NoName, V_NoWays, V_NoFlag, V_NoBook, V_NoBody, V_NoEntry, V_NoTable, V_NoOperand, V_NoScene, V_NoScript, V_NoNumber, V_NoMachine, V_NoPair, V_NoPaper, V_NotNamed, V_NoRelation, V_NoAgreement, V_NoStock, V_NoWish, V_NoChoice, V_NoEdit, V_NoNote, V_NoClass, V_Unanswered, V_NoOrder, V_Parted, V_Used, V_OutOfStep, V_EditFailed, V_TooMany⟩
  have xs : ∀ i, i < 30 → ClsX K CA i (C i) := all30 ⟨X_NoName, X_NoWays, X_NoFlag, X_NoBook, X_NoBody, X_NoEntry, X_NoTable, X_NoOperand, X_NoScene, X_NoScript, X_NoNumber, X_NoMachine, X_NoPair, X_NoPaper, X_NotNamed, X_NoRelation, X_NoAgreement, X_NoStock, X_NoWish, X_NoChoice, X_NoEdit, X_NoNote, X_NoClass, X_Unanswered, X_NoOrder, X_Parted, X_Used, X_OutOfStep, X_EditFailed, X_TooMany⟩
  have inj : ∀ i j, i < 30 → j < 30 → C i = C j → i = j := getD_inj nd.1 rfl
  have nA : ∀ i, i < 30 → C i ≠ CA := getD_ne nd.2 rfl
  have kk : Kits K CA C := kits_of xs cC_A tC_A inj nA
  refine ⟨PySem.W.fnOf "law" "law" (defArgs sLaw) (defBody sLaw) (defScope sLaw) .none kV10 dc10 pm10 an10 cd10 ct10, fun s v => .of_eq rfl, fun base _ _ => ?_⟩
  have Y : YS l.prog w K mg base C := {
    NoName := ⟨T_NoName, fI_NoName, _, iI_NoName, tI_NoName, ok_init_NoName T_NoName FI_NoName, fun s o u _ => .of_eq rfl, fun s o u _ => .of_eq rfl⟩
    NoWays := ⟨T_NoWays, fI_NoWays, _, iI_NoWays, tI_NoWays, ok_init_NoWays T_NoWays FI_NoWays, fun s o u _ => .of_eq rfl, fun s o u _ => .of_eq rfl⟩
    NoFlag := ⟨T_NoFlag, fI_NoFlag, _, iI_NoFlag, tI_NoFlag, ok_init_NoFlag T_NoFlag FI_NoFlag, fun s o u _ => .of_eq rfl, fun s o u _ => .of_eq rfl⟩
    NoBook := ⟨T_NoBook, fI_NoBook, _, iI_NoBook, tI_NoBook, ok_init_NoBook T_NoBook FI_NoBook, fun s o u _ => .of_eq rfl, fun s o u _ => .of_eq rfl⟩
    NoBody := ⟨T_NoBody, fI_NoBody, _, iI_NoBody, tI_NoBody, ok_init_NoBody T_NoBody FI_NoBody, fun s o u _ => .of_eq rfl, fun s o u _ => .of_eq rfl⟩
    NoEntry := ⟨T_NoEntry, fI_NoEntry, _, iI_NoEntry, tI_NoEntry, ok_init_NoEntry T_NoEntry FI_NoEntry, fun s o u _ => .of_eq rfl, fun s o u _ => .of_eq rfl⟩
    NoTable := ⟨T_NoTable, fI_NoTable, _, iI_NoTable, tI_NoTable, ok_init_NoTable T_NoTable FI_NoTable, fun s o u _ => .of_eq rfl, fun s o u _ => .of_eq rfl⟩
    NoOperand := ⟨T_NoOperand, fI_NoOperand, _, iI_NoOperand, tI_NoOperand, ok_init_NoOperand T_NoOperand FI_NoOperand, fun s o u _ => .of_eq rfl, fun s o u _ => .of_eq rfl⟩
    NoScene := ⟨T_NoScene, fI_NoScene, _, iI_NoScene, tI_NoScene, ok_init_NoScene T_NoScene FI_NoScene, fun s o u _ => .of_eq rfl, fun s o u _ => .of_eq rfl⟩
    NoScript := ⟨T_NoScript, fI_NoScript, _, iI_NoScript, tI_NoScript, ok_init_NoScript T_NoScript FI_NoScript, fun s o u _ => .of_eq rfl, fun s o u _ => .of_eq rfl⟩
    NoNumber := ⟨T_NoNumber, fI_NoNumber, _, iI_NoNumber, tI_NoNumber, ok_init_NoNumber T_NoNumber FI_NoNumber, fun s o u _ => .of_eq rfl, fun s o u _ => .of_eq rfl⟩
    NoMachine := ⟨T_NoMachine, fI_NoMachine, _, iI_NoMachine, tI_NoMachine, ok_init_NoMachine T_NoMachine FI_NoMachine, fun s o u _ => .of_eq rfl, fun s o u _ => .of_eq rfl⟩
    NoPair := ⟨T_NoPair, fI_NoPair, _, iI_NoPair, tI_NoPair, ok_init_NoPair T_NoPair FI_NoPair, fun s o u _ => .of_eq rfl, fun s o u _ => .of_eq rfl⟩
    NoPaper := ⟨T_NoPaper, fI_NoPaper, _, iI_NoPaper, tI_NoPaper, ok_init_NoPaper T_NoPaper FI_NoPaper, fun s o u _ => .of_eq rfl, fun s o u _ => .of_eq rfl⟩
    NotNamed := ⟨T_NotNamed, fI_NotNamed, _, iI_NotNamed, tI_NotNamed, ok_init_NotNamed T_NotNamed FI_NotNamed, fun s o u _ => .of_eq rfl, fun s o u _ => .of_eq rfl⟩
    NoRelation := ⟨T_NoRelation, fI_NoRelation, _, iI_NoRelation, tI_NoRelation, ok_init_NoRelation T_NoRelation FI_NoRelation, fun s o u _ => .of_eq rfl, fun s o u _ => .of_eq rfl⟩
    NoAgreement := ⟨T_NoAgreement, fI_NoAgreement, _, iI_NoAgreement, tI_NoAgreement, ok_init_NoAgreement T_NoAgreement FI_NoAgreement, fun s o u _ => .of_eq rfl, fun s o u _ => .of_eq rfl⟩
    NoStock := ⟨T_NoStock, fI_NoStock, _, iI_NoStock, tI_NoStock, ok_init_NoStock T_NoStock FI_NoStock, fun s o u _ => .of_eq rfl, fun s o u _ => .of_eq rfl⟩
    NoWish := ⟨T_NoWish, fI_NoWish, _, iI_NoWish, tI_NoWish, ok_init_NoWish T_NoWish FI_NoWish, fun s o u _ => .of_eq rfl, fun s o u _ => .of_eq rfl⟩
    NoChoice := ⟨T_NoChoice, fI_NoChoice, _, iI_NoChoice, tI_NoChoice, ok_init_NoChoice T_NoChoice FI_NoChoice, fun s o u _ => .of_eq rfl, fun s o u _ => .of_eq rfl⟩
    NoEdit := ⟨T_NoEdit, fI_NoEdit, _, iI_NoEdit, tI_NoEdit, ok_init_NoEdit T_NoEdit FI_NoEdit, fun s o u _ => .of_eq rfl, fun s o u _ => .of_eq rfl⟩
    NoNote := ⟨T_NoNote, fI_NoNote, _, iI_NoNote, tI_NoNote, ok_init_NoNote T_NoNote FI_NoNote, fun s o u _ => .of_eq rfl, fun s o u _ => .of_eq rfl⟩
    NoClass := ⟨T_NoClass, fI_NoClass, _, iI_NoClass, tI_NoClass, ok_init_NoClass T_NoClass FI_NoClass, fun s o u _ => .of_eq rfl, fun s o u _ => .of_eq rfl⟩
    Unanswered := ⟨T_Unanswered, fI_Unanswered, _, iI_Unanswered, tI_Unanswered, ok_init_Unanswered T_Unanswered FI_Unanswered, fun s o u _ => .of_eq rfl, fun s o u _ => .of_eq rfl⟩
    NoOrder := ⟨T_NoOrder, fI_NoOrder, _, iI_NoOrder, tI_NoOrder, ok_init_NoOrder T_NoOrder FI_NoOrder, fun s o u _ => .of_eq rfl, fun s o u _ => .of_eq rfl⟩
    Parted := ⟨T_Parted, fI_Parted, _, iI_Parted, tI_Parted, ok_init_Parted T_Parted FI_Parted, fun s o u _ => .of_eq rfl, fun s o u _ => .of_eq rfl⟩
    Used := ⟨T_Used, fI_Used, _, iI_Used, tI_Used, ok_init_Used T_Used FI_Used, fun s o u _ => .of_eq rfl, fun s o u _ => .of_eq rfl⟩
    OutOfStep := ⟨T_OutOfStep, fI_OutOfStep, _, iI_OutOfStep, tI_OutOfStep, ok_init_OutOfStep T_OutOfStep FI_OutOfStep, fun s o u _ => .of_eq rfl, fun s o u _ => .of_eq rfl⟩
    EditFailed := ⟨T_EditFailed, fI_EditFailed, _, iI_EditFailed, tI_EditFailed, ok_init_EditFailed T_EditFailed FI_EditFailed, fun s o u _ => .of_eq rfl, fun s o u _ => .of_eq rfl⟩
    TooMany := ⟨T_TooMany, fI_TooMany, _, iI_TooMany, tI_TooMany, ok_init_TooMany T_TooMany FI_TooMany, fun s o u _ => .of_eq rfl, fun s o u _ => .of_eq rfl⟩ }
  have E_pool := ok_pool (P := l.prog) (w := w) (base := base) T D_L_pool
  have E_take := ok_take (P := l.prog) (w := w) (base := base) T D_L_take
  have E_one := ok_one T D_L_one E_take
  have gA := PySem.W.mg_of X G aA
  exact ok_law (CA := CA) T Y E_pool E_one (ok_placed T Y D_L_placed) (ok_called T Y D_L_called) (ok_fields T Y D_L_fields) (ok_kinds T gA Y ic kk D_L_kinds) (ok_above T gA Y ic kk D_L_above) (ok_due T D_L_due) FL
end Ab
open PySem PySem.W PyProof.Rows
set_option maxRecDepth 100000 in
set_option maxHeartbeats 0 in
theorem PySem.Challenge.cw_answersby_k34_refusals_apart_holds : PySem.Challenge.rw_answersby_k34_refusals_apart.Holds := by
  w_on; o_law; k_head; (case hw => w_witness2)
  k_fill
  refine Gk.walkG (l := PySem.Challenge.rw_answersby_k34_refusals_apart) (n := 63) (k := 4) (x := "_law_script") (sp := fun w => Ab.spLaw _) rfl (by decide) rfl ⟨rfl, by decide, by decide⟩ (fun w h Y => PySem.W.kIn_of Y) ?F (fun w H a ns hl _ hS => ⟨a, ns, rfl, hS, hl, fun _ => rfl⟩)
  case F =>
    intro w mg fa h KX G hmg
    refine' Ab.all_mk KX G hmg ?a1 ?l1 ?c1 ?k1 ?a2 ?l2 ?c2 ?k2 ?a3 ?l3 ?c3 ?k3 ?a4 ?l4 ?c4 ?k4 ?a5 ?l5 ?c5 ?k5 ?a6 ?l6 ?c6 ?k6 ?a7 ?l7 ?c7 ?k7 ?a8 ?l8 ?c8 ?k8 ?a9 ?l9 ?c9 ?k9 ?a10 ?l10 ?c10 ?k10 ?z_int ?z_len ?z_max ?z_min ?z_isinstance ?z_range ?z_list ?z_dict ?z_tuple ?z_str ?z_repr ?z_enumerate ?z_ValueError ?z_KeyError ?z_LookupError ?z_RuntimeError ?z_OverflowError ?z_ArithmeticError ?z_IndexError ?aA ?hsp ?htk ?cC_A ?tC_A ?aC_NoName ?xL_NoName ?sa_NoName ?kC_NoName ?ga_NoName ?gg_NoName ?hcl_NoName ?nf_NoName ?iI_NoName ?tI_NoName ?lI_NoName ?cI_NoName ?kI_NoName ?aC_NoWays ?xL_NoWays ?sa_NoWays ?kC_NoWays ?ga_NoWays ?gg_NoWays ?hcl_NoWays ?nf_NoWays ?iI_NoWays ?tI_NoWays ?lI_NoWays ?cI_NoWays ?kI_NoWays ?aC_NoFlag ?xL_NoFlag ?sa_NoFlag ?kC_NoFlag ?ga_NoFlag ?gg_NoFlag ?hcl_NoFlag ?nf_NoFlag ?iI_NoFlag ?tI_NoFlag ?lI_NoFlag ?cI_NoFlag ?kI_NoFlag ?aC_NoBook ?xL_NoBook ?sa_NoBook ?kC_NoBook ?ga_NoBook ?gg_NoBook ?hcl_NoBook ?nf_NoBook ?iI_NoBook ?tI_NoBook ?lI_NoBook ?cI_NoBook ?kI_NoBook ?aC_NoBody ?xL_NoBody ?sa_NoBody ?kC_NoBody ?ga_NoBody ?gg_NoBody ?hcl_NoBody ?nf_NoBody ?iI_NoBody ?tI_NoBody ?lI_NoBody ?cI_NoBody ?kI_NoBody ?aC_NoEntry ?xL_NoEntry ?sa_NoEntry ?kC_NoEntry ?ga_NoEntry ?gg_NoEntry ?hcl_NoEntry ?nf_NoEntry ?iI_NoEntry ?tI_NoEntry ?lI_NoEntry ?cI_NoEntry ?kI_NoEntry ?aC_NoTable ?xL_NoTable ?sa_NoTable ?kC_NoTable ?ga_NoTable ?gg_NoTable ?hcl_NoTable ?nf_NoTable ?iI_NoTable ?tI_NoTable ?lI_NoTable ?cI_NoTable ?kI_NoTable ?aC_NoOperand ?xL_NoOperand ?sa_NoOperand ?kC_NoOperand ?ga_NoOperand ?gg_NoOperand ?hcl_NoOperand ?nf_NoOperand ?iI_NoOperand ?tI_NoOperand ?lI_NoOperand ?cI_NoOperand ?kI_NoOperand ?aC_NoScene ?xL_NoScene ?sa_NoScene ?kC_NoScene ?ga_NoScene ?gg_NoScene ?hcl_NoScene ?nf_NoScene ?iI_NoScene ?tI_NoScene ?lI_NoScene ?cI_NoScene ?kI_NoScene ?aC_NoScript ?xL_NoScript ?sa_NoScript ?kC_NoScript ?ga_NoScript ?gg_NoScript ?hcl_NoScript ?nf_NoScript ?iI_NoScript ?tI_NoScript ?lI_NoScript ?cI_NoScript ?kI_NoScript ?aC_NoNumber ?xL_NoNumber ?sa_NoNumber ?kC_NoNumber ?ga_NoNumber ?gg_NoNumber ?hcl_NoNumber ?nf_NoNumber ?iI_NoNumber ?tI_NoNumber ?lI_NoNumber ?cI_NoNumber ?kI_NoNumber ?aC_NoMachine ?xL_NoMachine ?sa_NoMachine ?kC_NoMachine ?ga_NoMachine ?gg_NoMachine ?hcl_NoMachine ?nf_NoMachine ?iI_NoMachine ?tI_NoMachine ?lI_NoMachine ?cI_NoMachine ?kI_NoMachine ?aC_NoPair ?xL_NoPair ?sa_NoPair ?kC_NoPair ?ga_NoPair ?gg_NoPair ?hcl_NoPair ?nf_NoPair ?iI_NoPair ?tI_NoPair ?lI_NoPair ?cI_NoPair ?kI_NoPair ?aC_NoPaper ?xL_NoPaper ?sa_NoPaper ?kC_NoPaper ?ga_NoPaper ?gg_NoPaper ?hcl_NoPaper ?nf_NoPaper ?iI_NoPaper ?tI_NoPaper ?lI_NoPaper ?cI_NoPaper ?kI_NoPaper ?aC_NotNamed ?xL_NotNamed ?sa_NotNamed ?kC_NotNamed ?ga_NotNamed ?gg_NotNamed ?hcl_NotNamed ?nf_NotNamed ?iI_NotNamed ?tI_NotNamed ?lI_NotNamed ?cI_NotNamed ?kI_NotNamed ?aC_NoRelation ?xL_NoRelation ?sa_NoRelation ?kC_NoRelation ?ga_NoRelation ?gg_NoRelation ?hcl_NoRelation ?nf_NoRelation ?iI_NoRelation ?tI_NoRelation ?lI_NoRelation ?cI_NoRelation ?kI_NoRelation ?aC_NoAgreement ?xL_NoAgreement ?sa_NoAgreement ?kC_NoAgreement ?ga_NoAgreement ?gg_NoAgreement ?hcl_NoAgreement ?nf_NoAgreement ?iI_NoAgreement ?tI_NoAgreement ?lI_NoAgreement ?cI_NoAgreement ?kI_NoAgreement ?aC_NoStock ?xL_NoStock ?sa_NoStock ?kC_NoStock ?ga_NoStock ?gg_NoStock ?hcl_NoStock ?nf_NoStock ?iI_NoStock ?tI_NoStock ?lI_NoStock ?cI_NoStock ?kI_NoStock ?aC_NoWish ?xL_NoWish ?sa_NoWish ?kC_NoWish ?ga_NoWish ?gg_NoWish ?hcl_NoWish ?nf_NoWish ?iI_NoWish ?tI_NoWish ?lI_NoWish ?cI_NoWish ?kI_NoWish ?aC_NoChoice ?xL_NoChoice ?sa_NoChoice ?kC_NoChoice ?ga_NoChoice ?gg_NoChoice ?hcl_NoChoice ?nf_NoChoice ?iI_NoChoice ?tI_NoChoice ?lI_NoChoice ?cI_NoChoice ?kI_NoChoice ?aC_NoEdit ?xL_NoEdit ?sa_NoEdit ?kC_NoEdit ?ga_NoEdit ?gg_NoEdit ?hcl_NoEdit ?nf_NoEdit ?iI_NoEdit ?tI_NoEdit ?lI_NoEdit ?cI_NoEdit ?kI_NoEdit ?aC_NoNote ?xL_NoNote ?sa_NoNote ?kC_NoNote ?ga_NoNote ?gg_NoNote ?hcl_NoNote ?nf_NoNote ?iI_NoNote ?tI_NoNote ?lI_NoNote ?cI_NoNote ?kI_NoNote ?aC_NoClass ?xL_NoClass ?sa_NoClass ?kC_NoClass ?ga_NoClass ?gg_NoClass ?hcl_NoClass ?nf_NoClass ?iI_NoClass ?tI_NoClass ?lI_NoClass ?cI_NoClass ?kI_NoClass ?aC_Unanswered ?xL_Unanswered ?sa_Unanswered ?kC_Unanswered ?ga_Unanswered ?gg_Unanswered ?hcl_Unanswered ?nf_Unanswered ?iI_Unanswered ?tI_Unanswered ?lI_Unanswered ?cI_Unanswered ?kI_Unanswered ?aC_NoOrder ?xL_NoOrder ?sa_NoOrder ?kC_NoOrder ?ga_NoOrder ?gg_NoOrder ?hcl_NoOrder ?nf_NoOrder ?iI_NoOrder ?tI_NoOrder ?lI_NoOrder ?cI_NoOrder ?kI_NoOrder ?aC_Parted ?xL_Parted ?sa_Parted ?kC_Parted ?ga_Parted ?gg_Parted ?hcl_Parted ?nf_Parted ?iI_Parted ?tI_Parted ?lI_Parted ?cI_Parted ?kI_Parted ?aC_Used ?xL_Used ?sa_Used ?kC_Used ?ga_Used ?gg_Used ?hcl_Used ?nf_Used ?iI_Used ?tI_Used ?lI_Used ?cI_Used ?kI_Used ?aC_OutOfStep ?xL_OutOfStep ?sa_OutOfStep ?kC_OutOfStep ?ga_OutOfStep ?gg_OutOfStep ?hcl_OutOfStep ?nf_OutOfStep ?iI_OutOfStep ?tI_OutOfStep ?lI_OutOfStep ?cI_OutOfStep ?kI_OutOfStep ?aC_EditFailed ?xL_EditFailed ?sa_EditFailed ?kC_EditFailed ?ga_EditFailed ?gg_EditFailed ?hcl_EditFailed ?nf_EditFailed ?iI_EditFailed ?tI_EditFailed ?lI_EditFailed ?cI_EditFailed ?kI_EditFailed ?aC_TooMany ?xL_TooMany ?sa_TooMany ?kC_TooMany ?ga_TooMany ?gg_TooMany ?hcl_TooMany ?nf_TooMany ?iI_TooMany ?tI_TooMany ?lI_TooMany ?cI_TooMany ?kI_TooMany ?nd
    (case a1 => k_is)
    (case l1 => k_is)
    (case c1 => k_is)
    (case k1 => k_is)
    (case a2 => k_is)
    (case l2 => k_is)
    (case c2 => k_is)
    (case k2 => k_is)
    (case a3 => k_is)
    (case l3 => k_is)
    (case c3 => k_is)
    (case k3 => k_is)
    (case a4 => k_is)
    (case l4 => k_is)
    (case c4 => k_is)
    (case k4 => k_is)
    (case a5 => k_is)
    (case l5 => k_is)
    (case c5 => k_is)
    (case k5 => k_is)
    (case a6 => k_is)
    (case l6 => k_is)
    (case c6 => k_is)
    (case k6 => k_is)
    (case a7 => k_is)
    (case l7 => k_is)
    (case c7 => k_is)
    (case k7 => k_is)
    (case a8 => k_is)
    (case l8 => k_is)
    (case c8 => k_is)
    (case k8 => k_is)
    (case a9 => k_is)
    (case l9 => k_is)
    (case c9 => k_is)
    (case k9 => k_is)
    (case a10 => k_is)
    (case l10 => k_is)
    (case c10 => k_is)
    (case k10 => k_is)
    (case z_int => k_is)
    (case z_len => k_is)
    (case z_max => k_is)
    (case z_min => k_is)
    (case z_isinstance => k_is)
    (case z_range => k_is)
    (case z_list => k_is)
    (case z_dict => k_is)
    (case z_tuple => k_is)
    (case z_str => k_is)
    (case z_repr => k_is)
    (case z_enumerate => k_is)
    (case z_ValueError => k_is)
    (case z_KeyError => k_is)
    (case z_LookupError => k_is)
    (case z_RuntimeError => k_is)
    (case z_OverflowError => k_is)
    (case z_ArithmeticError => k_is)
    (case z_IndexError => k_is)
    (case aA => k_is)
    (case hsp => k_is)
    (case htk => k_is)
    (case cC_A => k_is)
    (case tC_A => k_is)
    (case aC_NoName => k_is)
    (case xL_NoName => k_is)
    (case sa_NoName => k_is)
    (case kC_NoName => k_is)
    (case ga_NoName => k_is)
    (case gg_NoName => k_is)
    (case hcl_NoName => k_is)
    (case nf_NoName => k_is)
    (case iI_NoName => k_is)
    (case tI_NoName => k_is)
    (case lI_NoName => k_is)
    (case cI_NoName => k_is)
    (case kI_NoName => k_is)
    (case aC_NoWays => k_is)
    (case xL_NoWays => k_is)
    (case sa_NoWays => k_is)
    (case kC_NoWays => k_is)
    (case ga_NoWays => k_is)
    (case gg_NoWays => k_is)
    (case hcl_NoWays => k_is)
    (case nf_NoWays => k_is)
    (case iI_NoWays => k_is)
    (case tI_NoWays => k_is)
    (case lI_NoWays => k_is)
    (case cI_NoWays => k_is)
    (case kI_NoWays => k_is)
    (case aC_NoFlag => k_is)
    (case xL_NoFlag => k_is)
    (case sa_NoFlag => k_is)
    (case kC_NoFlag => k_is)
    (case ga_NoFlag => k_is)
    (case gg_NoFlag => k_is)
    (case hcl_NoFlag => k_is)
    (case nf_NoFlag => k_is)
    (case iI_NoFlag => k_is)
    (case tI_NoFlag => k_is)
    (case lI_NoFlag => k_is)
    (case cI_NoFlag => k_is)
    (case kI_NoFlag => k_is)
    (case aC_NoBook => k_is)
    (case xL_NoBook => k_is)
    (case sa_NoBook => k_is)
    (case kC_NoBook => k_is)
    (case ga_NoBook => k_is)
    (case gg_NoBook => k_is)
    (case hcl_NoBook => k_is)
    (case nf_NoBook => k_is)
    (case iI_NoBook => k_is)
    (case tI_NoBook => k_is)
    (case lI_NoBook => k_is)
    (case cI_NoBook => k_is)
    (case kI_NoBook => k_is)
    (case aC_NoBody => k_is)
    (case xL_NoBody => k_is)
    (case sa_NoBody => k_is)
    (case kC_NoBody => k_is)
    (case ga_NoBody => k_is)
    (case gg_NoBody => k_is)
    (case hcl_NoBody => k_is)
    (case nf_NoBody => k_is)
    (case iI_NoBody => k_is)
    (case tI_NoBody => k_is)
    (case lI_NoBody => k_is)
    (case cI_NoBody => k_is)
    (case kI_NoBody => k_is)
    (case aC_NoEntry => k_is)
    (case xL_NoEntry => k_is)
    (case sa_NoEntry => k_is)
    (case kC_NoEntry => k_is)
    (case ga_NoEntry => k_is)
    (case gg_NoEntry => k_is)
    (case hcl_NoEntry => k_is)
    (case nf_NoEntry => k_is)
    (case iI_NoEntry => k_is)
    (case tI_NoEntry => k_is)
    (case lI_NoEntry => k_is)
    (case cI_NoEntry => k_is)
    (case kI_NoEntry => k_is)
    (case aC_NoTable => k_is)
    (case xL_NoTable => k_is)
    (case sa_NoTable => k_is)
    (case kC_NoTable => k_is)
    (case ga_NoTable => k_is)
    (case gg_NoTable => k_is)
    (case hcl_NoTable => k_is)
    (case nf_NoTable => k_is)
    (case iI_NoTable => k_is)
    (case tI_NoTable => k_is)
    (case lI_NoTable => k_is)
    (case cI_NoTable => k_is)
    (case kI_NoTable => k_is)
    (case aC_NoOperand => k_is)
    (case xL_NoOperand => k_is)
    (case sa_NoOperand => k_is)
    (case kC_NoOperand => k_is)
    (case ga_NoOperand => k_is)
    (case gg_NoOperand => k_is)
    (case hcl_NoOperand => k_is)
    (case nf_NoOperand => k_is)
    (case iI_NoOperand => k_is)
    (case tI_NoOperand => k_is)
    (case lI_NoOperand => k_is)
    (case cI_NoOperand => k_is)
    (case kI_NoOperand => k_is)
    (case aC_NoScene => k_is)
    (case xL_NoScene => k_is)
    (case sa_NoScene => k_is)
    (case kC_NoScene => k_is)
    (case ga_NoScene => k_is)
    (case gg_NoScene => k_is)
    (case hcl_NoScene => k_is)
    (case nf_NoScene => k_is)
    (case iI_NoScene => k_is)
    (case tI_NoScene => k_is)
    (case lI_NoScene => k_is)
    (case cI_NoScene => k_is)
    (case kI_NoScene => k_is)
    (case aC_NoScript => k_is)
    (case xL_NoScript => k_is)
    (case sa_NoScript => k_is)
    (case kC_NoScript => k_is)
    (case ga_NoScript => k_is)
    (case gg_NoScript => k_is)
    (case hcl_NoScript => k_is)
    (case nf_NoScript => k_is)
    (case iI_NoScript => k_is)
    (case tI_NoScript => k_is)
    (case lI_NoScript => k_is)
    (case cI_NoScript => k_is)
    (case kI_NoScript => k_is)
    (case aC_NoNumber => k_is)
    (case xL_NoNumber => k_is)
    (case sa_NoNumber => k_is)
    (case kC_NoNumber => k_is)
    (case ga_NoNumber => k_is)
    (case gg_NoNumber => k_is)
    (case hcl_NoNumber => k_is)
    (case nf_NoNumber => k_is)
    (case iI_NoNumber => k_is)
    (case tI_NoNumber => k_is)
    (case lI_NoNumber => k_is)
    (case cI_NoNumber => k_is)
    (case kI_NoNumber => k_is)
    (case aC_NoMachine => k_is)
    (case xL_NoMachine => k_is)
    (case sa_NoMachine => k_is)
    (case kC_NoMachine => k_is)
    (case ga_NoMachine => k_is)
    (case gg_NoMachine => k_is)
    (case hcl_NoMachine => k_is)
    (case nf_NoMachine => k_is)
    (case iI_NoMachine => k_is)
    (case tI_NoMachine => k_is)
    (case lI_NoMachine => k_is)
    (case cI_NoMachine => k_is)
    (case kI_NoMachine => k_is)
    (case aC_NoPair => k_is)
    (case xL_NoPair => k_is)
    (case sa_NoPair => k_is)
    (case kC_NoPair => k_is)
    (case ga_NoPair => k_is)
    (case gg_NoPair => k_is)
    (case hcl_NoPair => k_is)
    (case nf_NoPair => k_is)
    (case iI_NoPair => k_is)
    (case tI_NoPair => k_is)
    (case lI_NoPair => k_is)
    (case cI_NoPair => k_is)
    (case kI_NoPair => k_is)
    (case aC_NoPaper => k_is)
    (case xL_NoPaper => k_is)
    (case sa_NoPaper => k_is)
    (case kC_NoPaper => k_is)
    (case ga_NoPaper => k_is)
    (case gg_NoPaper => k_is)
    (case hcl_NoPaper => k_is)
    (case nf_NoPaper => k_is)
    (case iI_NoPaper => k_is)
    (case tI_NoPaper => k_is)
    (case lI_NoPaper => k_is)
    (case cI_NoPaper => k_is)
    (case kI_NoPaper => k_is)
    (case aC_NotNamed => k_is)
    (case xL_NotNamed => k_is)
    (case sa_NotNamed => k_is)
    (case kC_NotNamed => k_is)
    (case ga_NotNamed => k_is)
    (case gg_NotNamed => k_is)
    (case hcl_NotNamed => k_is)
    (case nf_NotNamed => k_is)
    (case iI_NotNamed => k_is)
    (case tI_NotNamed => k_is)
    (case lI_NotNamed => k_is)
    (case cI_NotNamed => k_is)
    (case kI_NotNamed => k_is)
    (case aC_NoRelation => k_is)
    (case xL_NoRelation => k_is)
    (case sa_NoRelation => k_is)
    (case kC_NoRelation => k_is)
    (case ga_NoRelation => k_is)
    (case gg_NoRelation => k_is)
    (case hcl_NoRelation => k_is)
    (case nf_NoRelation => k_is)
    (case iI_NoRelation => k_is)
    (case tI_NoRelation => k_is)
    (case lI_NoRelation => k_is)
    (case cI_NoRelation => k_is)
    (case kI_NoRelation => k_is)
    (case aC_NoAgreement => k_is)
    (case xL_NoAgreement => k_is)
    (case sa_NoAgreement => k_is)
    (case kC_NoAgreement => k_is)
    (case ga_NoAgreement => k_is)
    (case gg_NoAgreement => k_is)
    (case hcl_NoAgreement => k_is)
    (case nf_NoAgreement => k_is)
    (case iI_NoAgreement => k_is)
    (case tI_NoAgreement => k_is)
    (case lI_NoAgreement => k_is)
    (case cI_NoAgreement => k_is)
    (case kI_NoAgreement => k_is)
    (case aC_NoStock => k_is)
    (case xL_NoStock => k_is)
    (case sa_NoStock => k_is)
    (case kC_NoStock => k_is)
    (case ga_NoStock => k_is)
    (case gg_NoStock => k_is)
    (case hcl_NoStock => k_is)
    (case nf_NoStock => k_is)
    (case iI_NoStock => k_is)
    (case tI_NoStock => k_is)
    (case lI_NoStock => k_is)
    (case cI_NoStock => k_is)
    (case kI_NoStock => k_is)
    (case aC_NoWish => k_is)
    (case xL_NoWish => k_is)
    (case sa_NoWish => k_is)
    (case kC_NoWish => k_is)
    (case ga_NoWish => k_is)
    (case gg_NoWish => k_is)
    (case hcl_NoWish => k_is)
    (case nf_NoWish => k_is)
    (case iI_NoWish => k_is)
    (case tI_NoWish => k_is)
    (case lI_NoWish => k_is)
    (case cI_NoWish => k_is)
    (case kI_NoWish => k_is)
    (case aC_NoChoice => k_is)
    (case xL_NoChoice => k_is)
    (case sa_NoChoice => k_is)
    (case kC_NoChoice => k_is)
    (case ga_NoChoice => k_is)
    (case gg_NoChoice => k_is)
    (case hcl_NoChoice => k_is)
    (case nf_NoChoice => k_is)
    (case iI_NoChoice => k_is)
    (case tI_NoChoice => k_is)
    (case lI_NoChoice => k_is)
    (case cI_NoChoice => k_is)
    (case kI_NoChoice => k_is)
    (case aC_NoEdit => k_is)
    (case xL_NoEdit => k_is)
    (case sa_NoEdit => k_is)
    (case kC_NoEdit => k_is)
    (case ga_NoEdit => k_is)
    (case gg_NoEdit => k_is)
    (case hcl_NoEdit => k_is)
    (case nf_NoEdit => k_is)
    (case iI_NoEdit => k_is)
    (case tI_NoEdit => k_is)
    (case lI_NoEdit => k_is)
    (case cI_NoEdit => k_is)
    (case kI_NoEdit => k_is)
    (case aC_NoNote => k_is)
    (case xL_NoNote => k_is)
    (case sa_NoNote => k_is)
    (case kC_NoNote => k_is)
    (case ga_NoNote => k_is)
    (case gg_NoNote => k_is)
    (case hcl_NoNote => k_is)
    (case nf_NoNote => k_is)
    (case iI_NoNote => k_is)
    (case tI_NoNote => k_is)
    (case lI_NoNote => k_is)
    (case cI_NoNote => k_is)
    (case kI_NoNote => k_is)
    (case aC_NoClass => k_is)
    (case xL_NoClass => k_is)
    (case sa_NoClass => k_is)
    (case kC_NoClass => k_is)
    (case ga_NoClass => k_is)
    (case gg_NoClass => k_is)
    (case hcl_NoClass => k_is)
    (case nf_NoClass => k_is)
    (case iI_NoClass => k_is)
    (case tI_NoClass => k_is)
    (case lI_NoClass => k_is)
    (case cI_NoClass => k_is)
    (case kI_NoClass => k_is)
    (case aC_Unanswered => k_is)
    (case xL_Unanswered => k_is)
    (case sa_Unanswered => k_is)
    (case kC_Unanswered => k_is)
    (case ga_Unanswered => k_is)
    (case gg_Unanswered => k_is)
    (case hcl_Unanswered => k_is)
    (case nf_Unanswered => k_is)
    (case iI_Unanswered => k_is)
    (case tI_Unanswered => k_is)
    (case lI_Unanswered => k_is)
    (case cI_Unanswered => k_is)
    (case kI_Unanswered => k_is)
    (case aC_NoOrder => k_is)
    (case xL_NoOrder => k_is)
    (case sa_NoOrder => k_is)
    (case kC_NoOrder => k_is)
    (case ga_NoOrder => k_is)
    (case gg_NoOrder => k_is)
    (case hcl_NoOrder => k_is)
    (case nf_NoOrder => k_is)
    (case iI_NoOrder => k_is)
    (case tI_NoOrder => k_is)
    (case lI_NoOrder => k_is)
    (case cI_NoOrder => k_is)
    (case kI_NoOrder => k_is)
    (case aC_Parted => k_is)
    (case xL_Parted => k_is)
    (case sa_Parted => k_is)
    (case kC_Parted => k_is)
    (case ga_Parted => k_is)
    (case gg_Parted => k_is)
    (case hcl_Parted => k_is)
    (case nf_Parted => k_is)
    (case iI_Parted => k_is)
    (case tI_Parted => k_is)
    (case lI_Parted => k_is)
    (case cI_Parted => k_is)
    (case kI_Parted => k_is)
    (case aC_Used => k_is)
    (case xL_Used => k_is)
    (case sa_Used => k_is)
    (case kC_Used => k_is)
    (case ga_Used => k_is)
    (case gg_Used => k_is)
    (case hcl_Used => k_is)
    (case nf_Used => k_is)
    (case iI_Used => k_is)
    (case tI_Used => k_is)
    (case lI_Used => k_is)
    (case cI_Used => k_is)
    (case kI_Used => k_is)
    (case aC_OutOfStep => k_is)
    (case xL_OutOfStep => k_is)
    (case sa_OutOfStep => k_is)
    (case kC_OutOfStep => k_is)
    (case ga_OutOfStep => k_is)
    (case gg_OutOfStep => k_is)
    (case hcl_OutOfStep => k_is)
    (case nf_OutOfStep => k_is)
    (case iI_OutOfStep => k_is)
    (case tI_OutOfStep => k_is)
    (case lI_OutOfStep => k_is)
    (case cI_OutOfStep => k_is)
    (case kI_OutOfStep => k_is)
    (case aC_EditFailed => k_is)
    (case xL_EditFailed => k_is)
    (case sa_EditFailed => k_is)
    (case kC_EditFailed => k_is)
    (case ga_EditFailed => k_is)
    (case gg_EditFailed => k_is)
    (case hcl_EditFailed => k_is)
    (case nf_EditFailed => k_is)
    (case iI_EditFailed => k_is)
    (case tI_EditFailed => k_is)
    (case lI_EditFailed => k_is)
    (case cI_EditFailed => k_is)
    (case kI_EditFailed => k_is)
    (case aC_TooMany => k_is)
    (case xL_TooMany => k_is)
    (case sa_TooMany => k_is)
    (case kC_TooMany => k_is)
    (case ga_TooMany => k_is)
    (case gg_TooMany => k_is)
    (case hcl_TooMany => k_is)
    (case nf_TooMany => k_is)
    (case iI_TooMany => k_is)
    (case tI_TooMany => k_is)
    (case lI_TooMany => k_is)
    (case cI_TooMany => k_is)
    (case kI_TooMany => k_is)
    (case nd => decide +kernel)
