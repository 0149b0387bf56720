import PyProof.Rows.All
import Wide.All
import OpenK.AllK
import Wide.FinOn
import HandS.ForMost
import PyProof.ReprReads
import PyProof.ReprRoads
import HandS.Codes
import HandS.ForExc
import HandS.ExcInit
import HandS.ExcField
import HandS.ExcIs
import KE.KExcIs
import HandS.IsInst
import HandS.WrittenGet
import HandS.Star
import HandS.Conv
import HandS.More
import HandS.Small
import PyProof.StrOps2
import HandS.Deep
import PyProof.EqKinds
import PySem.Challenge.RW_answersby_k01_kinds_and_outcomes
set_option Elab.async false
set_option linter.all false
set_option maxRecDepth 100000
set_option maxHeartbeats 8000000
/-! repr of data; defs that are called where no container is being shown -/
namespace Gk
open PySem L2 PySem.Spec PyProof.Rows

/-! ### a def's promise, kept where no list, tuple or dict is being shown -/
structure FnG (P : Program) (w : World) (K : PySem.W.Frag) (mg : Str → Option Value) (base : Heap) (CX : CXT) (k : Nat) (f : Addr) (fd : FuncData) (ps : List Str) (sp : Sp) : Prop where
  len : ∀ vs H Q E, sp vs H Q E → vs.length = ps.length
  go : ∀ (A : Around), A.guards = some [] → ∀ (outer : List Env) (s : Shared) (H : Hp) (args : Args) (us : List Value) (vs : List V) (Q : VK) (E : XK),
    Room k A → Env0 P w K mg base A outer s H → BindsTo s fd args (ps.zip us) → Vals vs us → sp vs H Q E → codeAny (model P w) A (.call (.ref f) args) (CR CX outer P w H s Q E) s

section
variable {P : Program} {w : World} {K : PySem.W.Frag} {mg : Str → Option Value} {base : Heap} {CX : CXT} {j k : Nat} {f : Addr} {fd : FuncData} {ps : List Str} {sp : Sp}
theorem FnG.up (F : FnG P w K mg base CX j f fd ps sp) (h : j ≤ k) : FnG P w K mg base CX k f fd ps sp :=
  ⟨F.len, fun A g outer s H args us vs Q E hr => F.go A g outer s H args us vs Q E (hr.mono h)⟩
end

section
variable {X : Cx} {CX : CXT} {k : Nat} {f : Addr} {fd : FuncData} {ps : List Str} {sp : Sp} {dvs : List V} {ds : List Value} {E : XK} {x : Str} {p pos : Pos} {e : Expr} {es : List Expr} {t : TA}
theorem runG {pins : List (Addr × Obj)} {σ : L2.St} {H : Hp} {s : Shared} {Q : VK} {us : List Value} {vs : List V} (F : FnG X.prog X.w X.K X.mg X.base CX k f fd ps sp) (g : X.A.guards = some [])
    (hr : Room k X.A) (hb : Binds X.K fd ps ds) (hd : Vals dvs ds) (hx : Passes CX X E) (I : Inv X pins σ H s) (r : Vals vs us) (h : sp (vs ++ dvs) H Q E) :
    wpAny (model X.prog X.w) X.A (call (.ref f) us) (EP X pins σ Q) X.xe s := by
  have rr := r.append hd
  have lens : (us ++ ds).length = ps.length := (rr.length).symm.trans (F.len _ _ _ _ h)
  have body := F.go X.A g X.stack s H ⟨us, []⟩ (us ++ ds) (vs ++ dvs) Q E hr I.env0 (hb s us I.kIn lens) rr h
  refine wpAny_call (codeAny_mono body ?_)
  intro res s' hres
  match res, hres with
  | .error e, z => exact hx pins σ H s e s' I z
  | .ok (.ret u), z => exact I.after z
  | .ok .next, z => exact z.elim
  | .ok .brk, z => exact z.elim
  | .ok .cont, z => exact z.elim
theorem pe_callG (F : FnG X.prog X.w X.K X.mg X.base CX k f fd ps sp) (g : X.A.guards = some []) (hr : Room k X.A) (hg : Gl X x) (hm : X.mg x = some (.ref f))
    (hk : PySem.W.keepIn X.K (.ref f) = true) (hb : Binds X.K fd ps ds) (hd : Vals dvs ds) (hx : Passes CX X E) (ha : PA X (e :: es) t)
    (hdb : (x == ("__debug__" : Str)) = false := by decide)
    (he : starEach (e :: es) X.env = (false, eval e X.env) :: starEach es X.env := by rfl)
    (hpl : (backTo pos (starEach es X.env)).any (·.1) = false := by rfl) :
    PE X (.Call (.Name x p) (e :: es) [] pos) (tCall sp dvs E t) := by
  refine ⟨fun pins s σ H Q I h => wpAny_Call_Name_kw (ld_glob I hg hm ?_ hdb)⟩
  have args := ha.run pos pins s σ H _ I h
  refine PySem.W.callWith_K (h₀ := X.base) I.ok.mod.kin hk (thn args ?_) he hpl
  rintro us s1 ⟨vs, H1, I1, r, q⟩
  exact ⟨I1.kIn, runG F g hr hb hd hx I1 r q⟩
end

/-! ### a def of the text, and the law's own call -/
section
variable {CX : CXT} {P : Program} {w : World} {K : PySem.W.Frag} {mg : Str → Option Value} {base : Heap}
theorem defG {k : Nat} {f : Addr} {x qual : Str} {st : Stmt} {fd : FuncData} {N ps : List Str} {sp : Sp}
    (F : Fun K x qual st f fd) (S : FnScope N ps (defScope st)) (len : ∀ vs H Q E, sp vs H Q E → vs.length = ps.length)
    (inner : ∀ (cd : Value) (A : Around), A.guards = some [] → ∀ (outer : List Env) (s : Shared) (H : Hp) (vs : List V) (Q : VK) (E : XK),
      Room k (A.deeper (envOfC qual (defScope st) s.heap.objs.size f cd)) → sp vs H Q E →
      ∃ t, PSs (cxOf CX P w K mg base N qual (defScope st) f cd A outer s H E) (defBody st) t ∧ t { nx := fun _ H' => Q .non H', rt := Q } (start N vs) H) :
    FnG P w K mg base CX (k + 1) f fd ps sp := by
  obtain ⟨oc, od, kV, doc, pm, an, cd, ct, osl, rfl, lk, hcd⟩ := F.ex
  refine ⟨len, ?_⟩
  intro A g outer s H args us vs Q E hr e0 hb r hsp
  have kept : ∀ b o, base.get? b = some o → s.heap.get? b = some o := fun b o z => (e0.bs b o z).1
  have KX : K.In s.heap := e0.mod.kin.keeps kept
  have lim : s.heap.NoLimit := e0.mod.nolimit.keeps kept
  have slots : ∀ y ∈ ps.zip us, (defScope st).names.lookup y.1 = some .local ∨
      ((defScope st).names.lookup y.1 = some .cell ∧ ((cellsFrom (s.heap.objs.size + 1) (defScope st).names []).lookup y.1).isSome = true) := by
    rintro ⟨n, v⟩ hy
    have hp := S.par n (List.of_mem_zip hy).1
    exact hp.imp id fun q => ⟨q, PySem.W.cellsFrom_some _ _ _ (.inl q)⟩
  refine codeAny_call_function hr.depth (KX _ _ lk) rfl S.co S.gen rfl (PySem.W.codeRec_of KX hcd) (hb _ _ _ _ ?_)
  refine wpAny_newFunctionEnv_cells S.kind slots ?_
  rintro env rfl s1 x
  refine ⟨lim.keeps x.toInCall.keep, codeAny_func ?_⟩
  obtain ⟨t, ht, hq⟩ := inner cd A g outer s H vs Q E (hr.deeper _) hsp
  have I := inv_start (CX := CX) (mg := mg) (E := E) S hr.hd e0 (len _ _ _ _ hsp) r x
  refine wpAny_mono (ht.run [] s1 (start N vs) H _ I hq) ?_ fun _ _ z => z
  intro fl s' hs
  match fl, hs with
  | .ret u, ⟨v, σ', H', J, rv, q⟩ => exact ⟨v, H', J.os, J.bare, J.base, J.hok, rv, q⟩
  | .next, ⟨σ', H', J, q⟩ => exact ⟨V.non, H', J.os, J.bare, J.base, J.hok, rfl, q⟩
  | .brk, ⟨_, _, _, q⟩ => exact q.elim
  | .cont, ⟨_, _, _, q⟩ => exact q.elim
/-- no exception leaves the def -/
theorem defG0 {k : Nat} {f : Addr} {x qual : Str} {st : Stmt} {fd : FuncData} {N ps : List Str} {sp : Sp}
    (F : Fun K x qual st f fd) (S : FnScope N ps (defScope st)) (len : ∀ vs H Q E, sp vs H Q E → vs.length = ps.length)
    (inner : ∀ (cd : Value) (A : Around), A.guards = some [] → ∀ (outer : List Env) (s : Shared) (H : Hp) (vs : List V) (Q : VK) (E : XK),
      Room k (A.deeper (envOfC qual (defScope st) s.heap.objs.size f cd)) → sp vs H Q E →
      ∃ t, PSs (cxOf CX0 P w K mg base N qual (defScope st) f cd A outer s H E).nox (defBody st) t ∧ t { nx := fun _ H' => Q .non H', rt := Q } (start N vs) H) :
    FnG P w K mg base CX0 (k + 1) f fd ps sp :=
  defG F S len fun cd A g outer s H vs Q E hr h => let ⟨t, a, b⟩ := inner cd A g outer s H vs Q E hr h; ⟨t, a.nox, b⟩
end

/-! ### repr -/
section
variable {X : Cx}
def rRepr (K : PySem.W.Frag) : List V → Hp → VK → Prop := fun xs H Q =>
  ∃ v d, xs = [v] ∧ Dp K H v d ∧ d.showable = true ∧ d.hasDict = false ∧ d.depth ≤ 60 ∧ d.shown.length ≤ sizeLine ∧ Q (.str d.shown) H
theorem call_reprD (hg : X.A.guards = some []) (hu : X.A.units + 64 < cLine) : CallR X (.builtin "repr") (rRepr X.K) := by
  intro pins s σ H xs us Q I r h
  obtain ⟨v, d, rfl, hd, h1, h2, h3, h4, q⟩ := h
  obtain ⟨u, rfl, ru⟩ := vals1 r
  obtain ⟨as, rd⟩ := Dp.reads I d v u hd ru
  have out : ∀ h' u' tk, (∀ b o, s.heap.get? b = some o → h'.get? b = some o) → EP X pins σ Q (.str d.shown u') { s with heap := h', toks := tk } :=
    fun h' u' tk hk => ⟨.str d.shown, H, I.kept hk, ⟨u', rfl⟩, q⟩
  cases rd with
  | none => exact P.repr_of_none (by simpa only [PyData.shown] using out s.heap s.toks (s.toks + 1) fun _ _ z => z)
  | bool b => exact P.repr_of_bool (by simpa only [PyData.shown] using out s.heap s.toks (s.toks + 1) fun _ _ z => z)
  | int i t => exact P.repr_of_int (by simpa [PyData.showable] using h1) (by simpa only [PyData.shown] using out s.heap _ _ fun _ _ z => z)
  | str x t => exact P.repr_of_str (by simpa only [PyData.shown] using out s.heap _ _ fun _ _ z => z) (by simpa only [PyData.shown] using h4)
  | list a1 a2 a3 a4 => exact repr_of_reads' (.list a1 a2 a3 a4) h1 (fun z => by rw [h2] at z; cases z) hg (by omega) (fun _ _ z => z) out h4
  | tuple a1 a2 a3 a4 => exact repr_of_reads' (.tuple a1 a2 a3 a4) h1 (fun z => by rw [h2] at z; cases z) hg (by omega) (fun _ _ z => z) out h4
  | dict a1 a2 a3 a4 a5 => simp [PyData.hasDict] at h2
end
end Gk
/-! the law's own call, by a promise of the kind FnG -/
namespace Gk
open PySem L2 PySem.Spec PyProof.Rows
abbrev AllTrue (s₁ : Shared) (r : Result) (s' : Shared) : Prop := r = .ok (.ret (.bool true)) ∧ OldK s₁.heap s'.heap ∧ s'.os = s₁.os ∧ AllBare s'.gens
section
variable {P : Program} {w : World} {K : PySem.W.Frag} {mg mb : Str → Option Value} {k : Nat} {fa a : Addr} {fd : FuncData} {x : Str} {sp : Sp} {s₁ : Shared} {vs : List Value} {ns : List Int}
/-- what is hidden by H stands at a alone, and that is the script's list -/
structure Hid (K : PySem.W.Frag) (s₁ : Shared) (a : Addr) (vs : List Value) (H : Hp) : Prop where
  only : Only H
  at_a : ∀ b, H b ≠ none → b = a
  new : H a ≠ none → K.lookup a = none
  scr : s₁.heap.get? a = some { cls := .type "list", data := .seq vs.toArray }
theorem Hid.free {H : Hp} (h : Hid K s₁ a vs H) {b : Addr} {o : Obj} (e : s₁.heap.get? b = some o) (hd : ∀ z n, o.data ≠ .seq z n) : H b = none := by
  cases q : H b with
  | none => rfl
  | some u =>
    obtain rfl : b = a := h.at_a b (by simp [q])
    rw [h.scr] at e
    cases e
    exact absurd rfl (hd _ _)
theorem Hid.nsp {H : Hp} (h : Hid K s₁ a vs H) {b : Addr} {m : Str → Option Value} : s₁.heap.Ns b m → (hidT s₁.heap H).Ns b m := by
  rintro ⟨o, es, ep, e, d, r⟩
  exact ⟨o, es, ep, hidT_get e (h.free e fun z n q => by rw [d] at q; cases q), d, r⟩
theorem Hid.kin {H : Hp} (h : Hid K s₁ a vs H) (KX : K.In s₁.heap) : K.In (hidT s₁.heap H) := by
  intro b o e
  refine hidT_get (KX b o e) ?_
  cases q : H b with
  | none => rfl
  | some u =>
    obtain rfl : b = a := h.at_a b (by simp [q])
    rw [h.new (by simp [q])] at e
    cases e
theorem run_law {H : Hp} (h : Hid K s₁ a vs H) (KX : K.In s₁.heap) (hns : s₁.heap.Ns mainGlobals mg) (hb : s₁.heap.Ns builtinsNs mb) (hbb : ∀ x : Str, x ≠ "__name__" → mb x = bootBuiltins x) (hlim : s₁.heap.NoLimit)
    (hg : s₁.gens = #[]) (hr : Room k callerA) (F : ∀ base : Heap, K.In base → base.Ns mainGlobals mg → FnG P w K mg base CX0 k fa fd [x] sp)
    (hbind : ∀ (s : Shared) (u : Value), BindsTo s fd ⟨[u], []⟩ [(x, u)]) (hok : HOk P w H s₁.heap) (hsp : sp [.ref a] H (fun v _ => v = .bl true) fun _ _ _ => False) :
    codeAny (model P w) callerA (.call (.ref fa) ⟨[.ref a], []⟩) (AllTrue s₁) s₁ := by
  obtain ⟨mc, l1, l2⟩ := hlim
  have md : Mod K mg (hidT s₁.heap H) := ⟨h.kin KX, h.nsp hns, ⟨mb, h.nsp hb, hbb⟩, ⟨mc, h.nsp l1, l2⟩⟩
  have ev : Env0 P w K mg (hidT s₁.heap H) callerA [] s₁ H :=
    ⟨rfl, md, fun b o e => of_hidT e, Nat.le_of_eq (hidT_size _ _), trivial, fun b hb => (List.not_mem_nil hb).elim, hok, .of_eq hg⟩
  have go := (F _ (h.kin KX) (h.nsp hns)).go callerA rfl [] s₁ H ⟨[.ref a], []⟩ [.ref a] [.ref a] _ _ hr ev (hbind s₁ (.ref a)) (.cons rfl .nil) hsp
  refine codeAny_mono go ?_
  intro res s' hres
  match res, hres with
  | .error e, z => exact z.elim
  | .ok .next, z => exact z.elim
  | .ok .brk, z => exact z.elim
  | .ok .cont, z => exact z.elim
  | .ok (.ret u), ⟨v, H', os, bare, un, hok', rv, q⟩ =>
    obtain rfl : v = .bl true := q
    obtain rfl : u = Value.bool true := rv
    refine ⟨rfl, OldK.of_keep ?_, os, bare⟩
    intro b o e
    rcases h.only b with z | ⟨ob, xs, z⟩
    · exact un.keep b o e z (fun m => (List.not_mem_nil m).elim) (fun m => (List.not_mem_nil m).elim)
    · obtain ⟨e1, _⟩ := hok b _ z
      obtain ⟨e2, _⟩ := hok' b _ (un.frzs b ob _ z)
      rw [e] at e1
      cases e1
      exact e2
theorem law_callG (KX : K.In s₁.heap) (hns : s₁.heap.Ns mainGlobals mg) (hb : s₁.heap.Ns builtinsNs mb) (hbb : ∀ x : Str, x ≠ "__name__" → mb x = bootBuiltins x) (hlim : s₁.heap.NoLimit) (hg : s₁.gens = #[])
    (scr : s₁.heap.get? a = some { cls := .type "list", data := .seq vs.toArray }) (hi : IntsAre vs ns) (hl : ns.length ≤ sizeLine) (hr : Room k callerA)
    (F : ∀ base : Heap, K.In base → base.Ns mainGlobals mg → FnG P w K mg base CX0 k fa fd [x] sp) (hbind : ∀ (s : Shared) (u : Value), BindsTo s fd ⟨[u], []⟩ [(x, u)])
    (hsp : ∀ H : Hp, Only H → SqL K H a (ns.map V.int) → sp [.ref a] H (fun v _ => v = .bl true) fun _ _ _ => False) :
    codeAny (model P w) callerA (.call (.ref fa) ⟨[.ref a], []⟩) (AllTrue s₁) s₁ := by
  have rv := vals_ints hi
  cases hk : K.lookup a with
  | some o =>
    have e := KX a o hk
    rw [scr] at e
    cases e
    have on : Only (fun _ => none) := fun _ => .inl rfl
    refine run_law (H := fun _ => none) ⟨on, fun b z => absurd rfl z, fun z => absurd rfl z, scr⟩ KX hns hb hbb hlim hg hr F hbind (fun b u z => nomatch z) (hsp _ on ?_)
    exact .inr ⟨_, vs.toArray, _, hk, rfl, rfl, rfl, by rw [List.size_toArray, hi.length]; exact hl, by simpa using rv⟩
  | none =>
    let L : HO := .frz { cls := .type "list", data := .seq vs.toArray } (.lst (ns.map V.int))
    have la : (fun b => if b = a then some L else none : Hp) a = some L := if_pos rfl
    have on : Only (fun b => if b = a then some L else none) := by
      intro b
      by_cases hb : b = a
      · exact .inr ⟨_, _, if_pos hb⟩
      · exact .inl (if_neg hb)
    refine run_law ⟨on, fun b z => ?_, fun _ => hk, scr⟩ KX hns hb hbb hlim hg hr F hbind (fun b u z => ?_) (hsp _ on (.inl (.inr ⟨_, la⟩)))
    · by_cases hb : b = a
      · exact hb
      · exact absurd (if_neg hb) z
    · by_cases hb : b = a
      · subst hb
        have z' := la.symm.trans z
        cases z'
        exact ⟨scr, by rw [List.length_map]; exact hl, vs, _, rv, scr⟩
      · have z' := (if_neg hb).symm.trans z
        cases z'
end
theorem walkG {l : PySem.W.OpenLaw} {n k : Nat} {q : Program} {loose : List Str} {XP : (Str → Option Value) → Heap → Prop} {YP : World → Heap → Prop} {d : DefRec} {K : Params → PySem.W.Frag} {sp : World → Sp} {x : Str}
    (hn : l.most = some n) (hn2 : n ≤ sizeLine) (hdf : d.params.defaults = []) (hr : Room k callerA) (hY : ∀ (w : World) (h : Heap), YP w h → (K w.params).In h)
    (F : ∀ (w : World) (mg : Str → Option Value) (fa : Addr) (h : Heap), (K w.params).In h → h.Ns mainGlobals mg → mg d.name = some (.ref fa) →
      ∃ fd : FuncData, (∀ (s : Shared) (u : Value), BindsTo s fd ⟨[u], []⟩ [(x, u)]) ∧
        ∀ base : Heap, (K w.params).In base → base.Ns mainGlobals mg → FnG l.prog w (K w.params) mg base CX0 k fa fd [x] (sp w))
    (hsp : ∀ (w : World) (H : Hp) (a : Addr) (ns : List Int), ns.length ≤ n → Only H → SqL (K w.params) H a (ns.map V.int) → sp w [.ref a] H (fun v _ => v = .bl true) fun _ _ _ => False) :
    PySem.W.WalkO q loose XP YP l.row.toRowW d [] (fun f vs => PySem.call f vs) := by
  refine Att.attach_call hn hdf ?_
  intro w s₀ s₁ mg mb fa o pm cd doc a vs ns G Y ho hd hcd hmg hobj hints hlen hg
  obtain ⟨fd, hb, hF⟩ := F w mg fa _ (hY w _ Y) G.T.g hmg
  exact law_callG (hY w _ Y) G.T.g G.T.b G.T.builtins G.T.nolimit hg hobj hints (Nat.le_trans hlen hn2) hr hF hb fun H hO hS => hsp w H a ns hlen hO hS
end Gk
namespace Gk
open PySem L2 PySem.Spec PyProof.Rows
/-- a def of the module's top, by its name, with its promise -/
def CalG (P : Program) (w : World) (K : PySem.W.Frag) (mg : Str → Option Value) (base : Heap) (k : Nat) (x : Str) (sp : Sp) : Prop :=
  ∃ (f : Addr) (fd : FuncData) (ps : List Str), FnG P w K mg base CX0 k f fd ps sp ∧ mg x = some (.ref f) ∧ PySem.W.keepIn K (.ref f) = true ∧ Binds K fd ps []
/-- a def as the top has left it -/
def DefAt (K : PySem.W.Frag) (mg : Str → Option Value) (x : Str) (st : Stmt) (ps : List Str) : Prop :=
  ∃ (f : Addr) (fd : FuncData), mg x = some (.ref f) ∧ Fun K x x st f fd ∧ Binds K fd ps []
theorem defAt {K : PySem.W.Frag} {h : Heap} {mg : Str → Option Value} {x : Str} {st : Stmt} {ps : List Str} {f : Addr} {oc : Value} {od an : Option Addr} {osl : Array (Option Value)} {kV doc pm cdv ct : Value} (X : K.In h) (G : h.Ns mainGlobals mg)
    (hb : ∀ (kV doc pm : Value) (an : Option Addr) (cdv ct : Value) (us : List Value), us.length = ps.length → bindArgs (PySem.W.fnOf x x (defArgs st) (defBody st) (defScope st) .none kV doc pm an cdv ct) ⟨us, []⟩ = pure (ps.zip us))
    (a : PySem.W.nsIn K mainGlobals x = some (some (.ref f)))
    (l : K.lookup f = some ⟨oc, od, .func (PySem.W.fnOf x x (defArgs st) (defBody st) (defScope st) .none kV doc pm an cdv ct), osl⟩)
    (c : PySem.W.codeIn K cdv x = true) (k : PySem.W.keepIn K (.ref f) = true) : DefAt K mg x st ps :=
  ⟨f, _, PySem.W.mg_of X G a, fun_mk l c k, (fun_mk (st := st) l c k).binds hb⟩
section
variable {P : Program} {w : World} {K : PySem.W.Frag} {mg : Str → Option Value} {base : Heap}
/-- a def by its body -/
theorem DefAt.by {x : Str} {st : Stmt} {ps N : List Str} {k : Nat} {sp : Sp} (D : DefAt K mg x st ps) (S : FnScope N ps (defScope st)) (len : ∀ vs H Q E, sp vs H Q E → vs.length = ps.length)
    (inner : ∀ (f : Addr) (cd : Value) (A : Around), A.guards = some [] → ∀ (outer : List Env) (s : Shared) (H : Hp) (vs : List V) (Q : VK) (E : XK),
      Room k (A.deeper (envOfC x (defScope st) s.heap.objs.size f cd)) → sp vs H Q E →
      ∃ t, PSs (cxOf CX0 P w K mg base N x (defScope st) f cd A outer s H E).nox (defBody st) t ∧ t { nx := fun _ H' => Q .non H', rt := Q } (start N vs) H) :
    CalG P w K mg base (k + 1) x sp := by
  obtain ⟨f, fd, hm, F, hb⟩ := D
  exact ⟨f, fd, ps, defG0 F S len (inner f), hm, F.kp, hb⟩
end
section
variable {X : Cx} {k j : Nat} {sp : Sp} {x : Str} {p pos : Pos} {e : Expr} {es : List Expr} {t : TA}
theorem pe_cG (c : CalG X.prog X.w X.K X.mg X.base k x sp) (g : X.A.guards = some []) (hr : Room j X.A) (hk : k ≤ j) (ha : PA X (e :: es) t) (hg : Gl X x := by rfl)
    (hdb : (x == ("__debug__" : Str)) = false := by decide) (he : starEach (e :: es) X.env = (false, eval e X.env) :: starEach es X.env := by rfl)
    (hpl : (backTo pos (starEach es X.env)).any (·.1) = false := by rfl) : PE X (.Call (.Name x p) (e :: es) [] pos) (tCall sp [] E0 t) := by
  obtain ⟨f, fd, ps, F, hm, hkp, hb⟩ := c
  exact pe_callG F g (hr.mono hk) hg hm hkp hb .nil pass0 ha hdb he hpl
end
end Gk
/-! readings, one construct a lemma: what a term of the layer asks, from the value -/
namespace Rd
open PySem L2 PySem.Spec PyProof.Rows Gk
section
variable {K : PySem.W.Frag} {σ : L2.St} {H : Hp} {Q : VK} {QA : List V → Hp → Prop} {QB : Bool → Hp → Prop} {QH : Hp → Prop} {D : Ends} {i j : Int} {n : Nat} {v x y : V} {ta tb te : TE} {tt tu : TT} {t u : TS} {as ar : TA} {p q : Addr} {xs ys : List V} {z s : Str} {b c : Bool}
theorem var (h : σ[n]? = some (some v)) (k : Q v H) : tVar n σ H Q := ⟨v, h, k⟩
theorem cst (k : Q v H) : tC v σ H Q := k
theorem op {r : R2} (k : ta σ H fun x H1 => tb σ H1 fun y H2 => r x y H2 Q) : tOp r ta tb σ H Q := k
theorem un {r : V → Hp → VK → Prop} (k : ta σ H fun x H1 => r x H1 Q) : tUn r ta σ H Q := k
theorem i0 {g : Int → Int → V} (k : Q (g i j) H) : rI0 g (.int i) (.int j) H Q := ⟨i, j, rfl, rfl, k⟩
theorem ic {C : Int → Int → Prop} {g : Int → Int → V} (h : C i j) (k : Q (g i j) H) : rI C g (.int i) (.int j) H Q := ⟨i, j, rfl, rfl, h, k⟩
theorem u1 {g : Int → V} (k : Q (g i) H) : rU g (.int i) H Q := ⟨i, rfl, k⟩
theorem eq (h : scal x y = true) (k : Q (.bl (decide (x = y))) H) : rEq x y H Q := ⟨h, k⟩
theorem ne (h : scal x y = true) (k : Q (.bl (!decide (x = y))) H) : rNe x y H Q := ⟨h, k⟩
theorem ixL (h : SqL K H p xs) (a : atI xs i = some v) (k : Q v H) : rIxL K (.ref p) (.int i) H Q := ⟨p, xs, i, v, rfl, rfl, h, a, k⟩
theorem ixT (h : SqT K H p xs) (a : atI xs i = some v) (k : Q v H) : rIxT K (.ref p) (.int i) H Q := ⟨p, xs, i, v, rfl, rfl, h, a, k⟩
theorem ixS {m : Nat} (h : z.length ≤ sizeLine) (a : atI z.cps.toList i = some m) (k : Q (.str ⟨#[m]⟩) H) : rIxS (.str z) (.int i) H Q := ⟨z, i, m, rfl, rfl, h, a, k⟩
theorem setL {m : Nat} (h : H p = some (.lst xs)) (a : ixN xs.length i = some m) (k : QH (upd H p (.lst (xs.set m v)))) : rSetL (.ref p) (.int i) v H QH := ⟨p, xs, i, m, rfl, rfl, h, a, k⟩
theorem inL {neg : Bool} (h : SqL K H p xs) (hx : flatV x = true) (ha : xs.all flatV = true) (k : Q (.bl (if neg then !inV x xs else inV x xs)) H) : rIn K neg x (.ref p) H Q := ⟨p, xs, rfl, .inl h, hx, ha, k⟩
theorem slL {lo hi : Option Int} (h : SqL K H p xs) (k : ∀ q, H q = none → Q (.ref q) (upd H q (.lst (cutV xs lo hi)))) : rSlL K (.ref p) lo hi H Q := ⟨p, xs, rfl, h, k⟩
theorem slS {lo hi : Option Int} (h : z.length ≤ sizeLine) (k : Q (.str (cutS z lo hi)) H) : rSlS (.str z) lo hi H Q := ⟨z, rfl, h, k⟩
theorem cat (h : H p = some (.lst xs)) (h' : H q = some (.lst ys)) (l : xs.length + ys.length ≤ sizeLine) (k : ∀ r, H r = none → Q (.ref r) (upd H r (.lst (xs ++ ys)))) : rCat (.ref p) (.ref q) H Q := ⟨p, q, xs, ys, rfl, rfl, h, h', l, k⟩
theorem sl {r : V → Option Int → Option Int → Hp → VK → Prop} {tl th : TO} (k : te σ H fun x H1 => tl σ H1 fun l H2 => th σ H2 fun u H3 => r x l u H3 Q) : tSl r te tl th σ H Q := k
theorem noPart {QO : Option Int → Hp → Prop} (k : QO none H) : tNoPart σ H QO := k
theorem part {QO : Option Int → Hp → Prop} (k : te σ H fun x H1 => ∃ i, x = .int i ∧ QO (some i) H1) : tPart te σ H QO := k
theorem int_ {R : Int → Prop} (k : R i) : ∃ i', V.int i = .int i' ∧ R i' := ⟨i, rfl, k⟩
theorem bl_ {R : Bool → Prop} (k : R b) : ∃ c, V.bl b = .bl c ∧ R c := ⟨b, rfl, k⟩
theorem nil (k : QA [] H) : tNil σ H QA := k
theorem cons (k : te σ H fun x H1 => ar σ H1 fun xs H2 => QA (x :: xs) H2) : tCons te ar σ H QA := k
theorem cb {r : List V → Hp → VK → Prop} (k : as σ H fun vs H1 => r vs H1 Q) : tCB r as σ H Q := k
theorem call {sp : Sp} {dvs : List V} {E : XK} (k : as σ H fun vs H1 => sp (vs ++ dvs) H1 Q E) : tCall sp dvs E as σ H Q := k
theorem lst (k : as σ H fun xs H1 => xs.length ≤ sizeLine ∧ ∀ p, H1 p = none → Q (.ref p) (upd H1 p (.lst xs))) : tLst as σ H Q := k
theorem tup (k : as σ H fun xs H1 => xs.length ≤ sizeLine ∧ ∀ p, H1 p = none → Q (.ref p) (upd H1 p (.tup xs))) : tTup as σ H Q := k
theorem test (k : te σ H fun x H' => ∃ k, x = .bl k ∧ QB k H') : tTest te σ H QB := k
theorem tb_ (k : te σ H fun x H' => ∃ k, x = .bl k ∧ QB k H') : tB te σ H QB := k
theorem not_ (k : tt σ H fun c H1 => QB (!c) H1) : tNot tt σ H QB := k
theorem or_ (k : tt σ H fun c H1 => if c = true then QB true H1 else tu σ H1 QB) : tOr tt tu σ H QB := k
theorem and_ (k : tt σ H fun c H1 => if c = true then tu σ H1 QB else QB false H1) : tAnd tt tu σ H QB := k
theorem orV (k : ta σ H fun x H1 => ∃ c, x = .bl c ∧ if c = true then Q (.bl true) H1 else tb σ H1 Q) : tOrV ta tb σ H Q := k
theorem andV (k : ta σ H fun x H1 => ∃ c, x = .bl c ∧ if c = true then tb σ H1 Q else Q (.bl false) H1) : tAndV ta tb σ H Q := k
theorem notV (k : ta σ H fun x H1 => ∃ c, x = .bl c ∧ Q (.bl (!c)) H1) : tNotV ta σ H Q := k
theorem tif (k : tt σ H fun c H1 => if c = true then ta σ H1 Q else tb σ H1 Q) : tIf tt ta tb σ H Q := k
theorem yes (k : QB true H) : tYes σ H QB := k
theorem next (k : D.nx σ H) : tNext D σ H := k
theorem seq (k : t { D with nx := u D } σ H) : tSeq t u D σ H := k
theorem drop (k : te σ H fun _ H1 => D.nx σ H1) : tDrop te D σ H := k
theorem ret (k : te σ H D.rt) : tRet te D σ H := k
theorem retN (k : D.rt .non H) : tRetN D σ H := k
theorem ifs (k : tt σ H fun b H1 => if b = true then t D σ H1 else u D σ H1) : tIfS tt t u D σ H := k
theorem asg {g : TG} (k : te σ H fun x H1 => g x σ H1 D.nx) : tAsg te g D σ H := k
theorem gname {QS : L2.St → Hp → Prop} (k : QS (σ.set n (some v)) H) : gName n v σ H QS := k
theorem gsub {QS : L2.St → Hp → Prop} {st : V → V → V → Hp → (Hp → Prop) → Prop} (k : ta σ H fun o H1 => tb σ H1 fun i H2 => st o i v H2 fun H3 => QS σ H3) : gSub ta tb st v σ H QS := k
theorem par {m l : Nat} (k : as σ H fun vs H1 => ∃ v w, vs = [v, w] ∧ D.nx ((σ.set m (some v)).set l (some w)) H1) : tPar m l as D σ H := k
theorem bm {T : String} {r : V → List V → Hp → VK → Prop} (k : te σ H fun x H1 => tyV K T x H1 ∧ as σ H1 fun xs H2 => r x xs H2 Q) : tBM K T r te as σ H Q := k
theorem bm0 {T : String} {r : V → List V → Hp → VK → Prop} (k : te σ H fun x H1 => tyV K T x H1 ∧ r x [] H1 Q) : tBM0 K T r te σ H Q := k
theorem app (h : H p = some (.lst xs)) (l : xs.length < sizeLine) (k : Q .non (upd H p (.lst (xs ++ [v])))) : rAppend (.ref p) [v] H Q := ⟨p, xs, v, rfl, rfl, h, l, k⟩
theorem ty_list (h : H p = some (.lst xs)) : tyV K "list" (.ref p) H := .inl ⟨rfl, xs, SqL.of h⟩
theorem int1 {R : Int → Prop} {R2 : Bool → Prop} (k : R i) : (∃ j, [V.int i] = [.int j] ∧ R j) ∨ ∃ k, [V.int i] = [.bl k] ∧ R2 k := .inl ⟨i, rfl, k⟩
theorem intB {R : Int → Prop} {R2 : Bool → Prop} (k : R2 b) : (∃ j, [V.bl b] = [.int j] ∧ R j) ∨ ∃ k, [V.bl b] = [.bl k] ∧ R2 k := .inr ⟨b, rfl, k⟩
theorem two {R : Int → Int → Prop} (k : R i j) : ∃ i' j', [V.int i, .int j] = [.int i', .int j'] ∧ R i' j' := ⟨i, j, rfl, k⟩
theorem one {R : Int → Prop} (k : R i) : ∃ i', [V.int i] = [.int i'] ∧ R i' := ⟨i, rfl, k⟩
theorem lenL {R : List V → Prop} (h : SqL K H p xs) (k : R xs) : ∃ p' ys, [V.ref p] = [.ref p'] ∧ (SqL K H p' ys ∨ SqT K H p' ys) ∧ R ys := ⟨p, xs, rfl, .inl h, k⟩
theorem lenS {R : Str → Prop} (h : z.length ≤ sizeLine) (k : R z) : ∃ z', [V.str z] = [.str z'] ∧ z'.length ≤ sizeLine ∧ R z' := ⟨z, rfl, h, k⟩
theorem andr {R : Prop} (k : R) : x = x ∧ R := ⟨rfl, k⟩
theorem str_ {R : Str → Prop} (k : R z) : ∃ c, V.str z = .str c ∧ R c := ⟨z, rfl, k⟩
theorem dec {c A B : Prop} [Decidable c] (h1 : c → A) (h2 : ¬ c → B) : if decide c = true then A else B := by
  by_cases h : c
  · rw [decide_eq_true h]; exact h1 h
  · rw [decide_eq_false h, if_neg Bool.false_ne_true]; exact h2 h
theorem ndec {c A B : Prop} [Decidable c] (h1 : ¬ c → A) (h2 : c → B) : if (!decide c) = true then A else B := by
  by_cases h : c
  · rw [decide_eq_true h]; exact h2 h
  · rw [decide_eq_false h]; exact h1 h
theorem tt_ {A B : Prop} (h : A) : if true = true then A else B := h
theorem ff_ {A B : Prop} (h : B) : if false = true then A else B := iteF h
theorem bool {b : Bool} {A B : Prop} (h1 : b = true → A) (h2 : b = false → B) : if b = true then A else B := by
  cases b with
  | true => exact h1 rfl
  | false => rw [if_neg Bool.false_ne_true]; exact h2 rfl
theorem fm {i m : Int} (m0 : 0 < m) : 0 ≤ i.fmod m ∧ i.fmod m < m := by
  rw [Int.fmod_eq_emod_of_nonneg i (Int.le_of_lt m0)]
  exact ⟨Int.emod_nonneg i (by omega), Int.emod_lt_of_pos i m0⟩
theorem atN {α : Type} {xs : List α} {i : Int} {v : α} (h0 : 0 ≤ i) (h : xs[i.toNat]? = some v) : atI xs i = some v := by
  have e : ((i.toNat : Nat) : Int) = i := Int.toNat_of_nonneg h0
  rw [← e]
  exact atI_nat h
theorem at0 {α : Type} {xs : List α} {v : α} : atI (v :: xs) 0 = some v := atN (Int.le_refl 0) rfl
theorem at_int {ns : List Int} {i : Int} (h0 : 0 ≤ i) (h : i < ((ns.map V.int).length : Int)) : ∃ c, atI (ns.map V.int) i = some (.int c) := by
  rw [List.length_map] at h
  have hk : i.toNat < ns.length := by omega
  exact ⟨ns[i.toNat], atN h0 (by simp [hk])⟩
theorem sz {n : Nat} (h : n ≤ 100000) : n ≤ sizeLine := Nat.le_trans h (by decide)
theorem szl {n : Nat} (h : n < 100000) : n < sizeLine := Nat.lt_of_lt_of_le h (by decide)
end
section
variable {X : Cx}
def rLenK (K : PySem.W.Frag) : List V → Hp → VK → Prop := fun xs H Q => ∃ p ys, xs = [.ref p] ∧ (SqL K H p ys ∨ SqT K H p ys) ∧ Q (.int ys.length) H
theorem callLen : CallR X (.builtin "len") (rLenK X.K) := call_len_seq
def rListK (K : PySem.W.Frag) : List V → Hp → VK → Prop := fun xs H Q => ∃ p ys, xs = [.ref p] ∧ (SqL K H p ys ∨ SqT K H p ys) ∧ ∀ l, H l = none → Q (.ref l) (upd H l (.lst ys))
theorem callList : CallR X (.type "list") (rListK X.K) := call_list_of
def tTru (K : PySem.W.Frag) (ta : TE) : TT := fun σ H Q => ta σ H fun x H' => ∃ k, TruV K x H' k ∧ Q k H'
theorem ptTru {K : PySem.W.Frag} {e : Expr} {ta : TE} (h : X.K = K) (p : PT X e fun σ H Q => ta σ H fun x H' => ∃ k, TruV X.K x H' k ∧ Q k H') : PT X e (tTru K ta) := by
  subst h
  exact p
variable {K : PySem.W.Frag} {σ : L2.St} {H : Hp} {Q : VK} {QB : Bool → Hp → Prop} {p : Addr} {xs : List V} {ta : TE}
theorem lenK (h : SqL K H p xs) (k : Q (.int xs.length) H) : rLenK K [.ref p] H Q := ⟨p, xs, rfl, .inl h, k⟩
theorem lenT (h : SqT K H p xs) (k : Q (.int xs.length) H) : rLenK K [.ref p] H Q := ⟨p, xs, rfl, .inr h, k⟩
theorem listK (h : SqL K H p xs) (k : ∀ l, H l = none → Q (.ref l) (upd H l (.lst xs))) : rListK K [.ref p] H Q := ⟨p, xs, rfl, .inl h, k⟩
theorem tru (k : ta σ H fun x H' => ∃ k, TruV K x H' k ∧ QB k H') : tTru K ta σ H QB := k
theorem truL {R : Bool → Prop} (h : SqL K H p xs) (k : R (!xs.isEmpty)) : ∃ k, TruV K (.ref p) H k ∧ R k := ⟨_, .inl ⟨xs, h, rfl⟩, k⟩
theorem any_ {bs : List Bool} (h : SqL K H p (bs.map V.bl)) (k : Q (.bl (bs.any id)) H) : rAny K [.ref p] H Q := ⟨p, bs, rfl, h, k⟩
theorem all_ {bs : List Bool} (h : SqL K H p (bs.map V.bl)) (k : Q (.bl (bs.all id)) H) : rAll K [.ref p] H Q := ⟨p, bs, rfl, h, k⟩
theorem repr_ {v : V} {d : PyData} (h : Dp K H v d) (h1 : d.showable = true) (h2 : d.hasDict = false) (h3 : d.depth ≤ 60) (h4 : d.shown.length ≤ sizeLine) (k : Q (.str d.shown) H) : rRepr K [v] H Q := ⟨v, d, rfl, h, h1, h2, h3, h4, k⟩
theorem eqD {x y : V} {d e : PyData} (hd : Dp K H x d) (he : Dp K H y e) (h1 : SeqAt.shaped d = true) (h2 : SeqAt.shaped e = true) (k : Q (.bl (PyData.eqv d e)) H) : rEqD K x y H Q := ⟨d, e, hd, he, h1, h2, k⟩
theorem neD {x y : V} {d e : PyData} (hd : Dp K H x d) (he : Dp K H y e) (h1 : SeqAt.shaped d = true) (h2 : SeqAt.shaped e = true) (k : Q (.bl (!PyData.eqv d e)) H) : rNeD K x y H Q := ⟨d, e, hd, he, h1, h2, k⟩
end
end Rd
set_option Elab.async false
set_option linter.all false
set_option maxRecDepth 100000
set_option maxHeartbeats 8000000
open PySem L2 Gk
local macro_rules | `(tactic| walk_at "look") => `(tactic| first
  | assumption
  | exact upd_same
  | exact SqL.of (by assumption)
  | exact SqL.of upd_same)
local macro_rules | `(tactic| walk_at "cond") => `(tactic| first | decide | (show _ ∨ _; right; split <;> decide) | (show _ ∧ _; constructor <;> omega) | (show _ ∨ _; left; constructor <;> omega) | (show _ ∨ _; right; constructor <;> omega) | (show _ ≠ _; omega) | (show _ < _; omega))
local macro_rules | `(tactic| walk_at "rd") => `(tactic| (with_reducible first
  | refine Rd.var rfl ?_ | refine Rd.cst ?_ | refine Rd.op ?_ | refine Rd.un ?_ | refine Rd.i0 ?_ | refine Rd.u1 ?_ | refine Rd.cons ?_ | refine Rd.nil ?_
  | refine Rd.seq ?_ | refine Rd.ifs ?_ | refine Rd.asg ?_ | refine Rd.gname ?_ | refine Rd.gsub ?_ | refine Rd.ret ?_ | refine Rd.retN ?_ | refine Rd.drop ?_ | refine Rd.next ?_
  | refine Rd.test ?_ | refine Rd.tb_ ?_ | refine Rd.not_ ?_ | refine Rd.or_ ?_ | refine Rd.and_ ?_ | refine Rd.orV ?_ | refine Rd.andV ?_ | refine Rd.notV ?_ | refine Rd.tif ?_ | refine Rd.yes ?_
  | refine Rd.cb ?_ | refine Rd.call ?_ | refine Rd.sl ?_ | refine Rd.noPart ?_ | refine Rd.part ?_ | refine Rd.int_ ?_ | refine Rd.bl_ ?_
  | refine Rd.eq rfl ?_ | refine Rd.ne rfl ?_ | refine Rd.lst ?_ | refine Rd.tup ?_ | refine Rd.par ?_ | refine Rd.bm ?_ | refine Rd.bm0 ?_
  | refine Rd.int1 ?_ | refine Rd.intB ?_ | refine Rd.two ?_ | refine Rd.one ?_ | refine Rd.andr ?_ | refine Rd.str_ ?_
  | (refine Rd.ic ?k1 ?_; (case k1 => with_unfolding_all walk_at "cond"))
  | (refine' Rd.ixL ?k1 ?k2 ?_; (case k1 => with_unfolding_all walk_at "look"); (case k2 => with_unfolding_all (first | rfl | exact Rd.at0)))
  | (refine' Rd.setL ?k1 ?k2 ?_; (case k1 => with_unfolding_all walk_at "look"); (case k2 => with_unfolding_all rfl))
  | (refine' Rd.lenL ?k1 ?_; (case k1 => with_unfolding_all walk_at "look"))
  | (refine' Rd.lenK ?k1 ?_; (case k1 => with_unfolding_all walk_at "look"))
  | refine Rd.tru ?_ | (refine' Rd.truL ?k1 ?_; (case k1 => with_unfolding_all walk_at "look"))))
namespace Rd
open PySem.Spec PyProof.Rows
section
variable {K : PySem.W.Frag} {σ : L2.St} {H H' : Hp} {α β : Type}
theorem sNew {p : Addr} {o : HO} (hp : H p = none) : Same H (upd H p o) := fun b u e => by
  rw [upd_ne (ne_of_none e hp)]
  exact e
theorem sMut {p : Addr} {o : HO} (h : Same H H') (hp : H p = none) : Same H (upd H' p o) := fun b u e => by
  rw [upd_ne (ne_of_none e hp)]
  exact h b u e
theorem pair_get {F : α → β → Prop} : ∀ {as : List α} {bs : List β} {i : Nat} {b : β}, Paired F as bs → bs[i]? = some b → ∃ a, as[i]? = some a ∧ F a b
  | _, _, i, b, .nil, h => by simp at h
  | a :: as, c :: bs, 0, b, .cons h hs, e => by
    obtain rfl : c = b := by simpa using e
    exact ⟨a, rfl, h⟩
  | a :: as, c :: bs, i + 1, b, .cons h hs, e => by
    have := pair_get hs (i := i) (b := b) (by simpa using e)
    simpa using this
theorem pair_len {F : α → β → Prop} : ∀ {as : List α} {bs : List β}, Paired F as bs → as.length = bs.length
  | _, _, .nil => rfl
  | _, _, .cons _ t => by simp [pair_len t]
theorem pair_imp {F G : α → β → Prop} (f : ∀ a b, F a b → G a b) : ∀ {as : List α} {bs : List β}, Paired F as bs → Paired G as bs
  | _, _, .nil => .nil
  | _, _, .cons h t => .cons (f _ _ h) (pair_imp f t)
theorem pair_map {f : α → V} : ∀ {as : List α} {ys : List V}, Paired (fun a y => y = f a) as ys → ys = as.map f
  | _, _, .nil => rfl
  | _, _, .cons h t => by rw [h, pair_map t]; rfl
/-- a relation of what is meant to a value in a heap that stays true as the heap grows -/
def Stays (B : β → V → Hp → Prop) : Prop := ∀ b x H H', Same H H' → B b x H → B b x H'
theorem take_succ {xs : List α} {i : Nat} {x : α} (h : xs[i]? = some x) : xs.take (i + 1) = xs.take i ++ [x] := by
  rw [List.take_succ, h]
  rfl
theorem sUpd {D : Addr} {o : HO} (s : Same H H') : Same (upd H D o) (upd H' D o) := fun b u e => by
  by_cases hb : b = D
  · subst hb; rw [upd_same] at e ⊢; exact e
  · rw [upd_ne hb] at e ⊢; exact s b u e
theorem upd_id {D : Addr} {o : HO} (h : H D = some o) : upd H D o = H := by
  funext b
  by_cases hb : b = D
  · subst hb; rw [upd_same, h]
  · rw [upd_ne hb]
/-- what holds of y in the heap behind, whatever the list in the making (which the heap ahead, H, does not know, and H1 does) holds -/
def Off (H H1 H2 : Hp) (B : V → Hp → Prop) (y : V) : Prop := ∀ D o, H D = none → H1 D ≠ none → B y (L2.upd H2 D o)
theorem off_old {H1 H2 : Hp} {B : V → Hp → Prop} {y : V} (hB : ∀ x H H', Same H H' → B x H → B x H') (s : Same H H2) (h : B y H) : Off H H1 H2 B y :=
  fun D o hD _ => hB _ _ _ (sMut s hD) h
theorem off_any {H1 H2 : Hp} {B : V → Prop} {y : V} (h : B y) : Off H H1 H2 (fun y _ => B y) y := fun D o hD _ => h
/-- a comprehension over a list of things -/
theorem lcL {tl te : TE} {tt : TT} {vs : List Nat} {j : Nat} {Q : VK} {a : Addr} {xs : List V} {bs : List α} (A : α → V → Hp → Prop) (B : β → V → Hp → Prop) (f : α → Bool) (g : α → β)
    (htl : ∀ R : V → Hp → Prop, R (.ref a) H → tl σ H R) (hl : SqL K H a xs) (hA : Stays A) (hB : Stays B) (pr : Paired (fun b x => A b x H) bs xs) (hz : xs.length ≤ 10000)
    (hw : ∀ x, wipe ((wipe σ vs).set j (some x)) vs = wipe σ vs)
    (turn : ∀ b x H1 (R : Bool → Hp → Prop), b ∈ bs → A b x H → A b x H1 → Same H H1 → (∀ H2, Same H1 H2 → R (f b) H2) → tt ((wipe σ vs).set j (some x)) H1 R)
    (elem : ∀ b x H1 (R : VK), b ∈ bs → f b = true → A b x H → A b x H1 → Same H H1 → (∀ y H2, Same H1 H2 → Off H H1 H2 (B (g b)) y → R y H2) → te ((wipe σ vs).set j (some x)) H1 R)
    (fin : ∀ D ys H1, H D = none → Same H H1 → H1 D = some (.lst ys) → Paired (fun c y => B c y H1) ((bs.filter f).map g) ys → Q (.ref D) H1) :
    tLc (iList K tl) (gName j) tt te vs σ H Q := by
  have hlen := pair_len pr
  refine htl _ ⟨a, rfl, ⟨xs, hl⟩, fun D hD => ?_⟩
  refine lc_list (K := K) (a := a) (xs := xs) (fun i H1 => ∃ ys, H1 D = some (.lst ys) ∧ ys.length ≤ i ∧ Same H H1 ∧ ∀ o, Paired (fun c y => B c y (upd H1 D o)) (((bs.take i).filter f).map g) ys) ?_ ?_ ?_ ?_
  · exact ⟨[], upd_same, Nat.le_refl _, sNew hD, fun _ => .nil⟩
  · rintro i H1 hi ⟨ys, _, _, s, _⟩
    exact s.seq hl
  · rintro i x H1 hx ⟨ys, hd, hy, s, pq⟩
    have hi : i < xs.length := (List.getElem?_eq_some_iff.mp hx).1
    obtain ⟨b, hb, hab⟩ := pair_get pr hx
    have mem : b ∈ bs := List.mem_of_getElem? hb
    have tk : bs.take (i + 1) = bs.take i ++ [b] := take_succ hb
    show wipe ((wipe σ vs).set j (some x)) vs = wipe σ vs ∧ _
    refine ⟨hw x, turn b x H1 _ mem hab (hA _ _ _ _ s hab) s fun H2 s2 => ?_⟩
    cases hf : f b with
    | false =>
      rw [if_neg Bool.false_ne_true]
      refine ⟨ys, s2 _ _ hd, by omega, s.trans s2, fun o => ?_⟩
      rw [tk, List.filter_append, List.filter_cons_of_neg (by simp [hf]), List.filter_nil, List.append_nil]
      exact pair_imp (fun c y => hB c y _ _ (sUpd s2)) (pq o)
    | true =>
      rw [if_pos rfl]
      refine elem b x H2 _ mem hf hab (hA _ _ _ _ (s.trans s2) hab) (s.trans s2) fun y H3 s3 hy3 => ?_
      have hd3 := s3 _ _ (s2 _ _ hd)
      have s4 : Same H H3 := (s.trans s2).trans s3
      refine ⟨ys, hd3, szl (by omega), ys ++ [y], upd_same, by rw [List.length_append]; simp; omega, sMut s4 hD, fun o => ?_⟩
      rw [tk, List.filter_append, List.filter_cons_of_pos (by simp [hf]), List.filter_nil, List.map_append, upd_upd]
      exact (pair_imp (fun c z h => hB c z _ _ (sUpd (s2.trans s3)) h) (pq o)).snoc (hy3 D o hD (by rw [s2 _ _ hd]; simp))
  · rintro H1 ⟨ys, hd, hy, s, pq⟩
    refine fin D ys H1 hD s hd ?_
    have pq := pq (.lst ys)
    rw [← hlen, List.take_length, upd_id hd] at pq
    exact pq
end
end Rd
namespace Rd
open PySem.Spec PyProof.Rows
section
variable {K : PySem.W.Frag} {σ : L2.St} {H H' : Hp} {Q : VK} {D : Ends} {z : Str}
/-! ### comprehensions and loops over ranges -/
def LcGo (J : It) (g : TG) (tt : TT) (te : TE) (vs : List Nat) (σ : L2.St) (Q : VK) (H1 : Hp) : Prop := ∀ D, H1 D = none → ∃ W : Nat → Nat → Hp → Prop, (∃ m, W 0 m (upd H1 D (.lst []))) ∧ ∀ i m H, W i m H →
  (J.stop i H ∧ Q (.ref D) H) ∨ (J.go i H ∧ ∃ Nx : Hp → Prop, (∀ H', Nx H' → ∃ m', m' < m ∧ W (i + 1) m' H') ∧ ∀ x H', J.yld i H x H' → g x (wipe σ vs) H' fun σ2 H2 => wipe σ2 vs = wipe σ vs ∧ tt σ2 H2 fun b H3 =>
    if b = true then te σ2 H3 fun y H4 => ∃ acc, H4 D = some (.lst acc) ∧ acc.length < sizeLine ∧ Nx (upd H4 D (.lst (acc ++ [y]))) else Nx H3)
theorem lcR {ta : TA} {g : TG} {tt : TT} {te : TE} {vs : List Nat} (k : ta σ H fun xs H1 => ∃ j : Int, xs = [.int j] ∧ -(2 ^ 62) ≤ j ∧ j < 2 ^ 62 ∧ LcGo (Itr 0 j.toNat) g tt te vs σ Q H1) : tLc (iRng1 ta) g tt te vs σ H Q := k
theorem rng {i : Int} {R : Prop} (h0 : 0 ≤ i) (h1 : i ≤ 100000) (k : R) : -(2 ^ 62) ≤ i ∧ i < 2 ^ 62 ∧ R := ⟨by omega, by omega, k⟩
/-- no test; each turn adds one thing -/
theorem goR {n j : Nat} {te : TE} {vs : List Nat} (Pv : Addr → Nat → List V → Hp → Prop) (h0 : ∀ D, H D = none → Pv D 0 [] (upd H D (.lst []))) (hw : ∀ x, wipe ((wipe σ vs).set j (some x)) vs = wipe σ vs) (hn : n ≤ 100000)
    (turn : ∀ D i acc H1, H D = none → i < n → acc.length = i → H1 D = some (.lst acc) → Pv D i acc H1 → ∀ R : VK, (∀ y H2, H2 D = some (.lst acc) → Pv D (i + 1) (acc ++ [y]) (upd H2 D (.lst (acc ++ [y]))) → R y H2) → te ((wipe σ vs).set j (some (.int (i : Int)))) H1 R)
    (fin : ∀ D acc H1, H D = none → acc.length = n → H1 D = some (.lst acc) → Pv D n acc H1 → Q (.ref D) H1) : LcGo (Itr 0 n) (gName j) tYes te vs σ Q H := by
  intro D hD
  refine lc_range (lo := 0) (n := n) (fun i H1 => ∃ acc, acc.length = i ∧ H1 D = some (.lst acc) ∧ Pv D i acc H1) ⟨[], rfl, upd_same, h0 D hD⟩ ?_ ?_
  · rintro i H1 hi ⟨acc, ha, hd, p⟩
    have e0 : (0 : Int) + (i : Int) = (i : Int) := Int.zero_add _
    rw [e0]
    refine ⟨hw _, ?_⟩
    refine turn D i acc H1 hD hi ha hd p _ fun y H2 h1 h2 => ?_
    exact ⟨acc, h1, szl (by omega), acc ++ [y], by simp [ha], upd_same, h2⟩
  · rintro H1 ⟨acc, ha, hd, p⟩
    exact fin D acc H1 hD ha hd p
def ForGo (J : It) (g : TG) (tb : TS) (D : Ends) (σ : L2.St) (H1 : Hp) : Prop := ∃ W : Nat → Nat → L2.St → Hp → Prop, (∃ m, W 0 m σ H1) ∧ ∀ i m σ H, W i m σ H →
  (J.stop i H ∧ D.nx σ H) ∨ (J.go i H ∧ ∃ N : L2.St → Hp → Prop, (∀ σ' H', N σ' H' → ∃ m', m' < m ∧ W (i + 1) m' σ' H') ∧ ∀ x H', J.yld i H x H' → g x σ H' fun σ2 H2 => tb { D with nx := N, ct := N, bk := D.nx } σ2 H2)
theorem forR {ta : TA} {g : TG} {tb : TS} (k : ta σ H fun xs H1 => ∃ j : Int, xs = [.int j] ∧ -(2 ^ 62) ≤ j ∧ j < 2 ^ 62 ∧ ForGo (Itr 0 j.toNat) g tb D σ H1) : tFor (iRng1 ta) g tb D σ H := k
theorem forGo {n j : Nat} {tb : TS} (Pv : Nat → L2.St → Hp → Prop) (h0 : Pv 0 σ H)
    (turn : ∀ i σ1 H1, i < n → Pv i σ1 H1 → tb { D with nx := Pv (i + 1), ct := Pv (i + 1), bk := D.nx } (σ1.set j (some (.int (i : Int)))) H1) (fin : ∀ σ1 H1, Pv n σ1 H1 → D.nx σ1 H1) : ForGo (Itr 0 n) (gName j) tb D σ H :=
  for_range (lo := 0) (n := n) Pv h0 (fun i σ1 H1 hi p => by
    show tb _ (σ1.set j (some (.int (0 + (i : Int))))) H1
    rw [Int.zero_add]
    exact turn i σ1 H1 hi p) fin
theorem adds {a b : Str} {R : Str → Str → Prop} (h : a.length + b.length ≤ 100000) (k : R a b) : ∃ i j, V.str a = .str i ∧ V.str b = .str j ∧ i.length + j.length ≤ sizeLine ∧ R i j := ⟨a, b, rfl, rfl, sz h, k⟩
theorem gtup {n : Nat} {t : TGs} {a : Addr} {xs : List V} {QS : L2.St → Hp → Prop} (h : SqT K H a xs) (hl : xs.length = n) (k : t xs σ H QS) : gTup K n t (.ref a) σ H QS := ⟨a, xs, rfl, h, hl, k⟩
theorem gcons {v : V} {r : List V} {t : TG} {u : TGs} {QS : L2.St → Hp → Prop} (k : t v σ H fun σ' H' => u r σ' H' QS) : gCons t u (v :: r) σ H QS := ⟨v, r, rfl, k⟩
theorem gnil {QS : L2.St → Hp → Prop} (k : QS σ H) : gNil [] σ H QS := ⟨rfl, k⟩
theorem cut {t u : TS} (Mid : L2.St → Hp → Prop) (h1 : t { D with nx := Mid } σ H) (h2 : ∀ σ' H', Mid σ' H' → u D σ' H') : C8.tCut t u D σ H := ⟨Mid, h1, h2⟩
/-- a method of a text -/
theorem m1 {r : V → List V → Hp → VK → Prop} {to te : TE} (k : to σ H fun x H1 => (∃ a, x = .str a) ∧ te σ H1 fun y H2 => r x [y] H2 Q) : tM1 r to te σ H Q := k
theorem isStr {R : Prop} (k : R) : (∃ a, V.str z = .str a) ∧ R := ⟨⟨z, rfl⟩, k⟩
end
end Rd
namespace W6
open L2 TL
/-! ### texts with a bound -/
structure W (n : Nat) (w : Str) : Prop where
  len : w.length ≤ n
  low : ∀ c ∈ tl w, c < 1000
theorem tl_len (w : Str) : (tl w).length = w.length := by show w.cps.toList.length = w.cps.size; simp
theorem W.app {n m : Nat} {a b : Str} (ha : W n a) (hb : W m b) : W (n + m) (a ++ b) := by
  have e : tl (a ++ b) = tl a ++ tl b := by show (a.cps ++ b.cps).toList = _; simp
  refine ⟨?_, fun c hc => ?_⟩
  · rw [← tl_len, e, List.length_append, tl_len, tl_len]
    exact Nat.add_le_add ha.len hb.len
  · rw [e, List.mem_append] at hc
    exact hc.elim (ha.low c) (hb.low c)
theorem W.cut {n : Nat} {a : Str} (ha : W n a) (lo hi : Option Int) : W n (cutS a lo hi) :=
  ⟨Nat.le_trans (cutS_length a lo hi) ha.len, fun c hc => ha.low c (by
    have hc : c ∈ ((a.cps.toList.drop (HT.sIx a.length 0 lo)).take (HT.sIx a.length a.length hi - HT.sIx a.length 0 lo)) := by simpa [cutS] using hc
    exact List.mem_of_mem_drop (List.mem_of_mem_take hc))⟩
theorem joinL_nil : ∀ ps : List (List Nat), joinL [] ps = ps.flatten
  | [] => rfl
  | [p] => by simp [joinL]
  | p :: q :: r => by rw [joinL, joinL_nil (q :: r)]; simp
theorem W.join {cs : List Str} (h : ∀ c ∈ cs, W 1 c) : W cs.length (Txt.join "" cs) := by
  have e : tl (Txt.join "" cs) = (cs.map tl).flatten := by
    rw [join_eq, tl_join]
    exact joinL_nil _
  refine ⟨?_, fun c hc => ?_⟩
  · rw [← tl_len, e]
    clear e
    induction cs with
    | nil => simp
    | cons a cs ih =>
      rw [List.map_cons, List.flatten_cons, List.length_append, List.length_cons, tl_len]
      have := ih fun c hc => h c (List.mem_cons_of_mem _ hc)
      have := (h a List.mem_cons_self).len
      omega
  · rw [e, List.mem_flatten] at hc
    obtain ⟨l, hl, hc⟩ := hc
    obtain ⟨s, hs, rfl⟩ := List.mem_map.mp hl
    exact (h s hs).low c hc
theorem W.mono {n m : Nat} {a : Str} (h : W n a) (l : n ≤ m) : W m a := ⟨Nat.le_trans h.len l, h.low⟩
theorem W.sum {cs : List Str} (h : ∀ c ∈ cs, W 1 c) : (cs.map (·.length)).sum ≤ cs.length := by
  induction cs with
  | nil => exact Nat.le_refl _
  | cons a cs ih =>
    rw [List.map_cons, List.sum_cons, List.length_cons]
    have := ih fun c hc => h c (List.mem_cons_of_mem _ hc)
    have := (h a List.mem_cons_self).len
    omega
theorem W.sign {n : Nat} {z : Str} {i : Int} (h : W n z) (h0 : 0 ≤ i) (h1 : i < (z.length : Int)) : ∃ c, atI z.cps.toList i = some c ∧ W 1 ⟨#[c]⟩ := by
  have l : i.toNat < z.cps.toList.length := by
    have e : z.cps.toList.length = z.length := tl_len z
    omega
  refine ⟨z.cps.toList[i.toNat], Rd.atN h0 (List.getElem?_eq_getElem l), Nat.le_refl _, fun c hc => ?_⟩
  have e : c = z.cps.toList[i.toNat] := by simpa using hc
  rw [e]
  exact h.low _ (List.getElem_mem l)
end W6
local macro_rules | `(tactic| walk_at "look") => `(tactic| first
  | assumption
  | exact upd_same
  | exact SqL.of (by assumption)
  | exact SqL.of upd_same)
local macro_rules | `(tactic| walk_at "cond") => `(tactic| first | decide | (show _ ∨ _; right; split <;> decide) | (show _ ∧ _; constructor <;> omega) | (show _ ∨ _; left; constructor <;> omega) | (show _ ∨ _; right; constructor <;> omega) | (show _ ≠ _; omega) | (show _ < _; omega))
local macro_rules | `(tactic| walk_at "rd") => `(tactic| (with_reducible first
  | refine Rd.var rfl ?_ | refine Rd.cst ?_ | refine Rd.op ?_ | refine Rd.un ?_ | refine Rd.i0 ?_ | refine Rd.u1 ?_ | refine Rd.cons ?_ | refine Rd.nil ?_
  | refine Rd.seq ?_ | refine Rd.ifs ?_ | refine Rd.asg ?_ | refine Rd.gname ?_ | refine Rd.gsub ?_ | refine Rd.ret ?_ | refine Rd.retN ?_ | refine Rd.drop ?_ | refine Rd.next ?_
  | refine Rd.test ?_ | refine Rd.tb_ ?_ | refine Rd.not_ ?_ | refine Rd.or_ ?_ | refine Rd.and_ ?_ | refine Rd.orV ?_ | refine Rd.andV ?_ | refine Rd.notV ?_ | refine Rd.tif ?_ | refine Rd.yes ?_
  | refine Rd.cb ?_ | refine Rd.call ?_ | refine Rd.sl ?_ | refine Rd.noPart ?_ | refine Rd.part ?_ | refine Rd.int_ ?_ | refine Rd.bl_ ?_
  | refine Rd.eq rfl ?_ | refine Rd.ne rfl ?_ | refine Rd.lst ?_ | refine Rd.tup ?_ | refine Rd.par ?_ | refine Rd.bm ?_ | refine Rd.bm0 ?_ | refine Rd.m1 ?_ | refine Rd.isStr ?_ | refine Rd.lcR ?_ | refine Rd.forR ?_ | refine Rd.gcons ?_ | refine Rd.gnil ?_
  | refine Rd.int1 ?_ | refine Rd.intB ?_ | refine Rd.two ?_ | refine Rd.one ?_ | refine Rd.andr ?_ | refine Rd.str_ ?_
  | (refine Rd.ic ?k1 ?_; (case k1 => with_unfolding_all walk_at "cond"))
  | (refine' Rd.ixL ?k1 ?k2 ?_; (case k1 => with_unfolding_all walk_at "look"); (case k2 => with_unfolding_all (first | rfl | exact Rd.at0)))
  | (refine' Rd.setL ?k1 ?k2 ?_; (case k1 => with_unfolding_all walk_at "look"); (case k2 => with_unfolding_all rfl))
  | (refine' Rd.lenL ?k1 ?_; (case k1 => with_unfolding_all walk_at "look"))
  | (refine' Rd.lenK ?k1 ?_; (case k1 => with_unfolding_all walk_at "look"))
  | refine Rd.tru ?_ | (refine' Rd.truL ?k1 ?_; (case k1 => with_unfolding_all walk_at "look"))))

namespace Ab
open PySem L2 Gk
def top (i : Nat) : Stmt := PySem.Challenge.pw_answersby_k01_kinds_and_outcomes.main.body.getD i (.Pass ⟨0, 0, 0, 0⟩)
structure PoolOk (x y : Int) : Prop where
  x0 : 0 ≤ x
  y0 : 0 ≤ y
  y1 : y < 2147483647
def spTake : Sp := fun vs H Q _ => ∃ (p : Addr) (x y m : Int), vs = [.ref p, .int m] ∧ H p = some (.lst [.int x, .int y]) ∧ PoolOk x y ∧ 0 < m ∧ m < 1000 ∧
  ∀ r x' y' : Int, PoolOk x' y' → 0 ≤ r → r < m → Q (.int r) (upd H p (.lst [.int x', .int y']))
structure Txt (K : PySem.W.Frag) (mg : Str → Option Value) : Prop where
  int : mg "int" = none
  len : mg "len" = none
  max : mg "max" = none
  min : mg "min" = none
  isinstance : mg "isinstance" = none
  repr : mg "repr" = none
  tuple : mg "tuple" = none
  range : mg "range" = none
  list : mg "list" = none
  dict : mg "dict" = none
  str : mg "str" = none
  bool : mg "bool" = none
  ValueError : mg "ValueError" = none
  sorted : mg "sorted" = none
  any : mg "any" = none

section
variable {P : Program} {w : World} {K : PySem.W.Frag} {mg : Str → Option Value} {base : Heap}
abbrev sL_take : Stmt := top 26
abbrev nL_take : List Str := ["_law_pool_here", "_law_many", "_law_found"]
theorem scL_take : FnScope nL_take ["_law_pool_here", "_law_many"] (defScope sL_take) := ⟨rfl, rfl, rfl, by decide +kernel, rfl, by decide +kernel, by decide +kernel⟩
theorem ok_take (T : Txt K mg) (D : DefAt K mg "_law_take" sL_take ["_law_pool_here", "_law_many"]) : CalG P w K mg base 1 "_law_take" spTake := by
  refine D.by scL_take (fun vs H Q E h => ?_) (fun f cd A hg outer s H vs Q E hr h => ?_)
  · obtain ⟨p, x, y, m, rfl, _⟩ := h
    rfl
  · obtain ⟨p, x, y, m, rfl, hp, ok, m0, m1, k⟩ := h
    refine ⟨_, (pss_cons (ps_if (pt_cmpR op_gt (pe_ix (r := rIxL K) ix_list (pv 0) pe_int (fun _ _ => rfl)) pe_int (nomark _))
  (pss_cons (ps_set (i := 2) scL_take.nd rfl (Or.inl rfl) (pe_op op_modN (pe_callTy call_int1 (by rfl) T.int (by decide +kernel) (pa_cons (pe_ix (r := rIxL K) ix_list (pv 0) pe_int (fun _ _ => rfl)) pa_nil)) (pv 1)))
  (pss_cons (ps_asg (pe_op op_fdivN (pe_ix (r := rIxL K) ix_list (pv 0) pe_int (fun _ _ => rfl)) (pv 1)) (pg_sub (pv 0) pe_int set_list))
  (pss_one (ps_ret (pv 2)))))
  pss_nil)
  (pss_cons (ps_asg (pe_op op_modN (pe_callTy call_int1 (by rfl) T.int (by decide +kernel) (pa_cons (pe_op op_add (pe_op op_mul (pe_ix (r := rIxL K) ix_list (pv 0) pe_int (fun _ _ => rfl)) pe_int) pe_int) pa_nil)) pe_int) (pg_sub (pv 0) pe_int set_list))
  (pss_one (ps_ret (pe_op op_modN (pe_op op_fdivN (pe_op op_modN (pe_callTy call_int1 (by rfl) T.int (by decide +kernel) (pa_cons (pe_op op_mul (pe_ix (r := rIxL K) ix_list (pv 0) pe_int (fun _ _ => rfl)) (pe_ix (r := rIxL K) ix_list (pv 0) pe_int (fun _ _ => rfl))) pa_nil)) pe_int) pe_int) (pv 1)))))), ?_⟩
    repeat walk_at "rd"
    refine Rd.dec (fun c => ?_) (fun c => ?_)
    · repeat walk_at "rd"
      have e := Int.fdiv_eq_ediv_of_nonneg x (Int.le_of_lt m0)
      have e' := Int.fmod_eq_emod_of_nonneg x (Int.le_of_lt m0)
      have a := Int.emod_nonneg x (show m ≠ 0 by omega)
      have b := Int.emod_lt_of_pos x m0
      have d := Int.ediv_nonneg (a := x) (b := m) (by omega) (by omega)
      exact k _ _ _ ⟨by omega, ok.y0, ok.y1⟩ (by omega) (by omega)
    · have y0 := ok.y0
      have y1 := ok.y1
      obtain ⟨z0, z1⟩ := Rd.fm (i := y * 48271 + 11) (m := 2147483647) (by decide)
      repeat walk_at "rd"
      obtain ⟨r0, r1⟩ := Rd.fm (i := ((((y * 48271 + 11).fmod 2147483647) * ((y * 48271 + 11).fmod 2147483647)).fmod 2147483629).fdiv 64) m0
      exact k _ _ _ ⟨ok.x0, z0, z1⟩ r0 r1
def spPool (K : PySem.W.Frag) : Sp := fun vs H Q _ => ∃ (a : Addr) (ns : List Int) (k : Int), vs = [.ref a, .int k] ∧ SqL K H a (ns.map V.int) ∧ 0 ≤ k ∧ k < 1000 ∧
  ∀ (p : Addr) (x y : Int), H p = none → PoolOk x y → Q (.ref p) (upd H p (.lst [.int x, .int y]))
abbrev sL_pool : Stmt := top 25
abbrev nL_pool : List Str := ["_law_script", "_law_k", "_law_cell", "_law_size", "_law_seed"]
theorem scL_pool : FnScope nL_pool ["_law_script", "_law_k"] (defScope sL_pool) := ⟨rfl, rfl, rfl, by decide +kernel, rfl, by decide +kernel, by decide +kernel⟩
theorem ok_pool (T : Txt K mg) (D : DefAt K mg "_law_pool" sL_pool ["_law_script", "_law_k"]) : CalG P w K mg base 1 "_law_pool" (spPool K) := by
  refine D.by scL_pool (fun vs H Q E h => ?_) (fun f cd A hg outer s H vs Q E hr h => ?_)
  · obtain ⟨a, ns, k, rfl, _⟩ := h
    rfl
  · obtain ⟨a, ns, k, rfl, hS, k0, k1, q⟩ := h
    refine ⟨_, (pss_cons (ps_set (i := 2) scL_pool.nd rfl (Or.inl rfl) pe_int)
  (pss_cons (ps_if (pt_cmpR op_lt (pv 1) (pe_callB (r := Rd.rLenK K) Rd.callLen (by rfl) T.len PySem.boot_len (pa_cons (pv 0) pa_nil)) (nomark _))
  (pss_one (ps_set (i := 2) scL_pool.nd rfl (Or.inl rfl) (pe_ix (r := rIxL K) ix_list (pv 0) (pv 1) (fun _ _ => rfl))))
  pss_nil)
  (pss_cons (ps_set (i := 3) scL_pool.nd rfl (Or.inl rfl) (pe_callB (call_max2 rfl) (by rfl) T.max (by decide +kernel) (pa_cons (pv 2) (pa_cons (pe_op op_sub (pe_un un_neg pe_int) (pv 2)) pa_nil))))
  (pss_cons (ps_set (i := 4) scL_pool.nd rfl (Or.inl rfl) (pe_callTy call_int1 (by rfl) T.int (by decide +kernel) (pa_cons (pe_op op_add (pe_op op_add (pe_op op_modN (pe_callTy call_int1 (by rfl) T.int (by decide +kernel) (pa_cons (pv 3) pa_nil)) pe_int) (pe_op op_mul pe_int (pv 1))) pe_int) pa_nil)))
  (pss_one (ps_ret (pe_lst (pa_cons (pe_op op_mul (pv 3) (pe_callTy call_int1 (by rfl) T.int (by decide +kernel) (pa_cons (pe_cmpR op_ge (pv 3) (pe_op op_pow pe_int pe_int) (nomark _)) pa_nil))) (pa_cons (pe_op op_modN (pe_op op_mul (pv 4) pe_int) pe_int) pa_nil))))))))), ?_⟩
    repeat walk_at "rd"
    have fin : ∀ (sz : Int) (k1 : Int), 0 ≤ sz → 0 ≤ k1 → k1 < 1000 → PoolOk (sz * (if decide ((10 : Int) ^ (Int.toNat 18) ≤ sz) = true then 1 else 0)) (((sz.fmod 2147483629 + 7919 * k1 + 104729) * 48271).fmod 2147483647) := by
      intro sz k1 h0 h1 h2
      obtain ⟨y0, y1⟩ := Rd.fm (i := (sz.fmod 2147483629 + 7919 * k1 + 104729) * 48271) (m := 2147483647) (by decide)
      refine ⟨?_, y0, y1⟩
      split
      · omega
      · omega
    refine Rd.dec (fun c => ?_) (fun c => ?_)
    · repeat walk_at "rd"
      obtain ⟨cell, ix⟩ := Rd.at_int k0 c
      refine Rd.ixL hS ix ?_
      have sz0 : 0 ≤ (if (-1 : Int) - cell > cell then -1 - cell else cell) := by split <;> omega
      have fmz := Rd.fm (i := (if (-1 : Int) - cell > cell then -1 - cell else cell)) (m := 2147483629) (by decide)
      repeat walk_at "rd"
      refine ⟨Rd.sz (by simp), fun p hp => ?_⟩
      exact q p _ _ hp (fin _ _ sz0 k0 k1)
    · have sz0 : 0 ≤ (if (-1 : Int) - 0 > 0 then -1 - 0 else (0 : Int)) := by split <;> omega
      have fmz := Rd.fm (i := (if (-1 : Int) - 0 > 0 then -1 - 0 else (0 : Int))) (m := 2147483629) (by decide)
      repeat walk_at "rd"
      refine ⟨Rd.sz (by simp), fun p hp => ?_⟩
      exact q p _ _ hp (fin _ _ sz0 k0 k1)
/-- one of a list's items, by the pool -/
def spOne (K : PySem.W.Frag) : Sp := fun vs H Q _ => ∃ (p l : Addr) (x y : Int) (xs : List V), vs = [.ref p, .ref l] ∧ H p = some (.lst [.int x, .int y]) ∧ SqL K H l xs ∧ (∀ o, SqL K (upd H p o) l xs) ∧ PoolOk x y ∧ 0 < xs.length ∧ xs.length < 1000 ∧
  ∀ (v : V) (x' y' : Int), v ∈ xs → PoolOk x' y' → Q v (upd H p (.lst [.int x', .int y']))
abbrev sL_one : Stmt := top 27
abbrev nL_one : List Str := ["_law_pool_here", "_law_some"]
theorem scL_one : FnScope nL_one ["_law_pool_here", "_law_some"] (defScope sL_one) := ⟨rfl, rfl, rfl, by decide +kernel, rfl, by decide +kernel, by decide +kernel⟩
theorem ok_one (T : Txt K mg) (D : DefAt K mg "_law_one" sL_one ["_law_pool_here", "_law_some"]) (CL_take : CalG P w K mg base 1 "_law_take" spTake) : CalG P w K mg base 2 "_law_one" (spOne K) := by
  refine D.by scL_one (fun vs H Q E h => ?_) (fun f cd A hg outer s H vs Q E hr h => ?_)
  · obtain ⟨a, ns, k, _, _, rfl, _⟩ := h
    rfl
  · obtain ⟨p, l, x, y, xs, rfl, hp, hl, hl2, ok, l0, l1, q⟩ := h
    refine ⟨_, (pss_one (ps_ret (pe_ix (r := rIxL K) ix_list (pv 1) (pe_cG CL_take hg hr (by decide) (pa_cons (pv 0) (pa_cons (pe_callB (r := Rd.rLenK K) Rd.callLen (by rfl) T.len PySem.boot_len (pa_cons (pv 1) pa_nil)) pa_nil))) (fun _ _ => rfl)))), ?_⟩
    repeat walk_at "rd"
    refine ⟨p, x, y, _, rfl, hp, ok, by omega, by omega, fun r x' y' ok' r0 r1 => ?_⟩
    have hr : r.toNat < xs.length := by omega
    exact Rd.ixL (hl2 _) (Rd.atN r0 (List.getElem?_eq_getElem hr)) (q _ _ _ (List.getElem_mem hr) ok')
end
end Ab
namespace Ex
open PySem.Spec PyProof.Rows
/-! ### an own error with one field, f: def __init__(self, f): self.f = f -/
def spInit (C : Addr) (f : Str) : Sp := fun vs H Q _ => ∃ (a : Addr) (v : V), vs = [.ref a, v] ∧ H a = some (exo a C none) ∧ ∀ dx, H dx = none → dx ≠ a → Q .non (upd (upd H dx (exd dx [(f, v)])) a (exo a C (some dx)))
structure ErrC (K : PySem.W.Frag) (mg : Str → Option Value) (x f : Str) (C : Addr) : Prop where
  t : OexC K C
  xf : XfC K C
  ic : ExcC K C
  no : PySem.W.findIn K (.ref C) f = some none
  g : mg x = some (.ref C)
  te : PySem.W.exmOne K (.ref C) (.ref C) = some true
/-- its __init__ as a def that keeps its promise -/
def InitOk (P : Program) (w : World) (K : PySem.W.Frag) (mg : Str → Option Value) (base : Heap) (f : Str) (C : Addr) : Prop :=
  ∃ (fI : Addr) (fd : FuncData), PySem.W.findIn K (.ref C) "__init__" = some (some (.ref fI)) ∧ PySem.W.typeIn K (.ref fI) = some (.type "function") ∧ FnOk P w K mg base CX0 1 fI fd ["self", f] (spInit C f) ∧ Binds K fd ["self", f] []
theorem made_heap {H : Hp} {a d : Addr} {f : Str} {v : V} {C : Addr} (ha : H a = none) (hda : d ≠ a) :
    upd (L2.del (upd (upd (upd H a (exo a C none)) d (exd d [(f, v)])) a (exo a C (some d))) a) d (.xd [(f, v)]) = upd H d (.xd [(f, v)]) := by
  funext b
  by_cases hb : b = d
  · subst hb; rw [upd_same, upd_same]
  · rw [upd_ne hb, upd_ne hb]
    by_cases hba : b = a
    · subst hba; rw [del_same, ha]
    · rw [del_ne hba, upd_ne hba, upd_ne hb, upd_ne hba]
section
variable {X : Cx} {σ : L2.St} {H : Hp}
theorem pmkE {x f : Str} {C : Addr} {k : Nat} {e : Expr} {es : List Expr} {p pos : Pos} {ta : TA} (T : ErrC X.K X.mg x f C) (M : InitOk X.prog X.w X.K X.mg X.base f C) (hr : Room k X.A) (hk : 2 ≤ k) (ha : PA X (e :: es) ta) (hg : Gl X x := by rfl)
    (hdb : (x == ("__debug__" : Str)) = false := by decide) (he : starEach (e :: es) X.env = (false, eval e X.env) :: starEach es X.env := by rfl) (hpl : (backTo pos (starEach es X.env)).any (·.1) = false := by rfl) :
    PMk X (.Call (.Name x p) (e :: es) [] pos) (tMkO C (spInit C f) [] ta) := by
  obtain ⟨fI, fd, iC, tI, F, hb⟩ := M
  exact pmk_oex T.t iC tI F (hr.mono hk) hb .nil pass0 hg T.g ha hdb he hpl
theorem mk {C : Addr} {sp : Sp} {dvs : List V} {ta : TA} {Q : XK} (k : ta σ H fun vs H1 => vs.length ≤ 1000 ∧ ∀ a, H1 a = none → sp (.ref a :: (vs ++ dvs)) (upd H1 a (exo a C none)) (fun v H2 => v = .non ∧ ∃ (d : Addr) (fs : List (Str × V)), H2 a = some (exo a C (some d)) ∧ H2 d = some (exd d fs) ∧ H1 d = none ∧ Q (.ref C) (some d) (upd (L2.del (H2) a) d (.xd fs))) (fun _ _ _ => False)) :
    tMkO C sp dvs ta σ H Q := k
theorem made {C : Addr} {f : Str} {v : V} {Q : XK} (h : ∀ d, H d = none → Q (.ref C) (some d) (upd H d (.xd [(f, v)]))) :
    [v].length ≤ 1000 ∧ ∀ a, H a = none → spInit C f (.ref a :: ([v] ++ [])) (upd H a (exo a C none)) (fun u H2 => u = .non ∧ ∃ (d : Addr) (fs : List (Str × V)), H2 a = some (exo a C (some d)) ∧ H2 d = some (exd d fs) ∧ H d = none ∧ Q (.ref C) (some d) (upd (L2.del H2 a) d (.xd fs))) (fun _ _ _ => False) := by
  refine ⟨by simp, fun a ha => ⟨a, v, rfl, upd_same, fun d hd hda => ⟨rfl, d, [(f, v)], upd_same, ?_, ?_, ?_⟩⟩⟩
  · rw [upd_ne hda, upd_same]
  · rw [upd_ne hda] at hd; exact hd
  · rw [upd_ne hda] at hd
    rw [made_heap ha hda]
    exact h d hd
end
/-! ### defs that may raise -/
def CalX (P : Program) (w : World) (K : PySem.W.Frag) (mg : Str → Option Value) (base : Heap) (k : Nat) (x : Str) (sp : Sp) : Prop :=
  ∃ (f : Addr) (fd : FuncData) (ps : List Str), FnG P w K mg base (L2.CX P w) k f fd ps sp ∧ mg x = some (.ref f) ∧ PySem.W.keepIn K (.ref f) = true ∧ Binds K fd ps []
section
variable {P : Program} {w : World} {K : PySem.W.Frag} {mg : Str → Option Value} {base : Heap}
theorem byX {x : Str} {st : Stmt} {ps N : List Str} {k : Nat} {sp : Sp} (D : DefAt K mg x st ps) (S : FnScope N ps (defScope st)) (len : ∀ vs H Q E, sp vs H Q E → vs.length = ps.length)
    (inner : ∀ (f : Addr) (cd : Value) (A : Around), A.guards = some [] → ∀ (outer : List Env) (s : Shared) (H : Hp) (vs : List V) (Q : VK) (E : XK),
      Room k (A.deeper (envOfC x (defScope st) s.heap.objs.size f cd)) → sp vs H Q E →
      ∃ t, PSs (cxOf (L2.CX P w) P w K mg base N x (defScope st) f cd A outer s H E) (defBody st) t ∧ t { nx := fun _ H' => Q .non H', rt := Q } (start N vs) H) :
    CalX P w K mg base (k + 1) x sp := by
  obtain ⟨f, fd, hm, F, hb⟩ := D
  exact ⟨f, fd, ps, defG F S len (inner f), hm, F.kp, hb⟩
end
section
variable {X : Cx} {k j : Nat} {sp : Sp} {x : Str} {p pos : Pos} {e : Expr} {es : List Expr} {t : TA}
/-- called in a def that lets the same out -/
theorem pe_x {E : XK} (c : CalX X.prog X.w X.K X.mg X.base k x sp) (g : X.A.guards = some []) (hr : Room j X.A) (hk : k ≤ j) (tk : Takes X fun cls d _ H => E cls d H) (ha : PA X (e :: es) t) (hg : Gl X x := by rfl)
    (hdb : (x == ("__debug__" : Str)) = false := by decide) (he : starEach (e :: es) X.env = (false, eval e X.env) :: starEach es X.env := by rfl)
    (hpl : (backTo pos (starEach es X.env)).any (·.1) = false := by rfl) : PE X (.Call (.Name x p) (e :: es) [] pos) (tCall sp [] E t) := by
  obtain ⟨f, fd, ps, F, hm, hkp, hb⟩ := c
  exact pe_callG F g (hr.mono hk) hg hm hkp hb .nil (passes_call tk fun _ _ _ _ h => h) ha hdb he hpl
/-- called where nothing is raised -/
theorem pe_x0 (c : CalX X.prog X.w X.K X.mg X.base k x sp) (g : X.A.guards = some []) (hr : Room j X.A) (hk : k ≤ j) (ha : PA X (e :: es) t) (hg : Gl X x := by rfl)
    (hdb : (x == ("__debug__" : Str)) = false := by decide) (he : starEach (e :: es) X.env = (false, eval e X.env) :: starEach es X.env := by rfl)
    (hpl : (backTo pos (starEach es X.env)).any (·.1) = false := by rfl) : PE X (.Call (.Name x p) (e :: es) [] pos) (tCall sp [] E0 t) := by
  obtain ⟨f, fd, ps, F, hm, hkp, hb⟩ := c
  refine pe_callG F g (hr.mono hk) hg hm hkp hb .nil (fun pins σ H s u s' I z => ?_) ha hdb he hpl
  obtain ⟨_, _, _, _, _, _, _, _, _, _, _, _, z⟩ := z
  exact z.elim
/-- called in a try -/
theorem pe_xS {W : WX} (c : CalX X.prog X.w X.K X.mg X.base k x sp) (g : X.A.guards = some []) (hr : Room j X.A) (hk : k ≤ j) (tk : Takes X W) (ha : PA X (e :: es) t) (hg : Gl X x := by rfl)
    (hdb : (x == ("__debug__" : Str)) = false := by decide) (he : starEach (e :: es) X.env = (false, eval e X.env) :: starEach es X.env := by rfl)
    (hpl : (backTo pos (starEach es X.env)).any (·.1) = false := by rfl) : PE X (.Call (.Name x p) (e :: es) [] pos) (tCallS sp (WE W) t) := by
  obtain ⟨f, fd, ps, F, hm, hkp, hb⟩ := c
  refine ⟨fun pins s σ H Q I h => wpAny_Call_Name_kw (ld_glob I hg hm ?_ hdb)⟩
  refine PySem.W.callWith_K (h₀ := X.base) I.ok.mod.kin hkp (thn (ha.run pos pins s σ H _ I h) ?_) he hpl
  rintro us s1 ⟨vs, H1, I1, r, q⟩
  refine ⟨I1.kIn, ?_⟩
  have lens : us.length = ps.length := (r.length).symm.trans (F.len _ _ _ _ q)
  have body := F.go X.A g X.stack s1 H1 ⟨us, []⟩ us vs Q (WE W σ) (hr.mono hk) I1.env0 (by simpa using hb s1 us I1.kIn (by simpa using lens)) r q
  refine wpAny_call (codeAny_mono body ?_)
  intro res s' hres
  match res, hres with
  | .error e, z => exact passAt tk σ pins H1 s1 e s' I1 z
  | .ok (.ret u), z => exact I1.after z
  | .ok .next, z => exact z.elim
  | .ok .brk, z => exact z.elim
  | .ok .cont, z => exact z.elim
end
end Ex
namespace PySem.W
open PySem PySem.Calls PyProof.Rows
theorem clsIn_obj {K : Frag} {D : Addr} (h : hasDictIn K D = true) : ∃ c d cd sl, K.lookup D = some ⟨c, d, .cls cd, sl⟩ := by
  obtain ⟨cd, hc, _⟩ := any_some h
  unfold clsIn at hc
  split at hc
  · rename_i c d cd' sl ho
    exact ⟨c, d, cd', sl, ho⟩
  · cases hc
/-- an instance of an own exception class, with whatever dict, as isinstance asks it -/
theorem kitxD {K : Frag} {x D : Addr} {ox : Obj} {od : Option Obj} (C : L2.ExcC K D) : KitX K (.ref x) (.ref D) (fun h => InstAt h x ox D od) where
  ty := fun _ _ _ I => I.type
  it := fun _ _ X _ => by
    obtain ⟨c, d, cd, sl, ho⟩ := clsIn_obj C.hd
    intro A' Q' E' s' k q
    unfold isType loadHead
    exact wpAny_bind (wpAny_loadPart (k _ _ (X _ _ ho)) (wpAny_pure q))
  ne := fun h tp dd its n sl X htp => by
    obtain ⟨c, d, cd, sl', ho⟩ := clsIn_obj C.hd
    cases e : (Value.ref D == .ref tp) with
    | false => rfl
    | true =>
      obtain rfl : D = tp := Value.ref.inj (beq_iff_eq.mp e)
      have z := (X _ _ ho).symm.trans htp
      cases z
  ca := fun X I k => kx_classE X I C.hg C.hk C.hs (findObj_dataE (by obtain ⟨cd, hc, _⟩ := any_some C.hd; rw [hc]; rfl) C.ha C.hn C.ht) C.hm k
end PySem.W
namespace Ex
open PySem.Spec PyProof.Rows
/-- isinstance(e, c), e the exception that the suite holds, with its dict -/
def rIsD (K : PySem.W.Frag) (C a : Addr) (cls : Value) (d : Option Addr) : List V → Hp → VK → Prop := fun xs H Q => ∃ (c : V) (cv : Value) (b : Bool) (dd : Addr) (fs : List (Str × V)), xs = [.ref a, c] ∧ ClsV c cv ∧ cls = .ref C ∧ d = some dd ∧ H dd = some (.xd fs) ∧ PySem.W.kitOne K (.ref C) cv = some b ∧ Q (.bl b) H
theorem call_isD {X : Cx} {a C : Addr} {oe : Obj} {cls : Value} {d : Option Addr} {pn : List (Addr × Obj)} (T : ExcC X.K C) (hz : Zc cls d oe) (hf : ∃ vs, oe.data = .fields vs) : CallR (X.suite a ((a, oe) :: pn)) (.builtin "isinstance") (rIsD X.K C a cls d) := by
  intro pins s σ H xs us Q I r h
  obtain ⟨c, cv, b, dd, fs, rfl, kc, ec, ed, ea, e, q⟩ := h
  obtain ⟨u, t, rfl, ru, rt⟩ := vals2 r
  obtain rfl : u = Value.ref a := ru
  obtain rfl := kc.eq rt
  subst ec ed
  obtain ⟨hget, _⟩ := I.pin (a, oe) (List.mem_append.mpr (.inl List.mem_cons_self))
  obtain ⟨vs, hv⟩ := hf
  have hx : ObjOk X.prog X.w H s.heap dd (.xd fs) := I.hok dd _ ea
  obtain ⟨mA, hns, hr⟩ := hx
  obtain ⟨od, ho, hl⟩ := lookIn_ns hns
  have J : PySem.W.InstAt s.heap a oe C (some od) := ⟨hget, hz.1, by unfold PySem.W.notCls; rw [hv] <;> rfl, by rw [hz.2]; exact ho⟩
  exact PySem.W.kia_one (PySem.W.kitxD T) I.kIn J e (fun z => nomatch z) fun tk => ⟨.bl b, H, I.kept (t' := tk) fun _ _ z => z, rfl, q⟩
end Ex
namespace Gk
open PySem.Spec PyProof.Rows
section
variable {X : Cx}
def rReprX (K : PySem.W.Frag) : List V → Hp → VK → Prop := fun xs H Q => rRepr K xs H Q ∨ ∃ p, xs = [.ref p] ∧ H p = some (.dK []) ∧ Q (.str "{}") H
theorem call_reprX (hg : X.A.guards = some []) (hu : X.A.units + 64 < cLine) : CallR X (.builtin "repr") (rReprX X.K) := by
  intro pins s σ H xs us Q I r h
  rcases h with h | ⟨p, rfl, hp, q⟩
  · exact call_reprD hg hu pins s σ H xs us Q I r h
  · obtain ⟨u, rfl, ru⟩ := vals1 r
    obtain rfl : u = Value.ref p := ru
    obtain ⟨_, ns, vs, kv, dof⟩ := dk_of I.hok hp
    obtain rfl : vs = [] := by cases kv; rfl
    obtain ⟨o, es, ep, h1, h2, h3, _, h4, _⟩ := dof
    have he : es.toList = [] := by
      cases hz : es.toList with
      | nil => rfl
      | cons a l => rw [hz] at h4; cases h4
    have rd : Reads s.heap (.ref p) (.dict []) (p :: [] ++ []) := .dict h1 h2.1 h3 (by rw [he]; exact .nil) (by rw [he]; exact .nil)
    have e : (PyData.dict []).shown = "{}" := by decide +kernel
    have out : ∀ h' u' tk, (∀ b o, s.heap.get? b = some o → h'.get? b = some o) → EP X pins σ Q (.str (PyData.dict []).shown u') { s with heap := h', toks := tk } :=
      fun h' u' tk hk => ⟨.str "{}", H, I.kept hk, ⟨u', by rw [e]⟩, q⟩
    refine repr_of_reads' rd (by rfl) (fun _ m => ?_) hg (by show _ + (PyData.depth (.dict []) + 1) < _; have : PyData.depth (.dict []) = 1 := rfl; omega) (fun _ _ z => z) out (by rw [e]; decide +kernel)
    have : sysModules = p := by simpa using m
    rw [← this] at ns
    simp at ns
end
end Gk
namespace Ab
open PySem.Spec PyProof.Rows
def isStr : V → Bool
  | .str _ => true
  | _ => false
def isBl : V → Bool
  | .bl _ => true
  | _ => false
def isInt : V → Bool
  | .int _ => true
  | .bl _ => true
  | _ => false
/-- a value's own kind, as isinstance tells it -/
structure Kd (K : PySem.W.Frag) (H : Hp) (v : V) (tn : String) : Prop where
  ty : TyX K H v (.type tn)
  s : kitB tn "str" = some (isStr v)
  i : kitB tn "int" = some (isInt v)
  b : kitB tn "bool" = some (isBl v)
def isIn (v : V) (ws : List Str) : Bool := match v with
  | .str s => decide (s ∈ ws)
  | _ => false
def isNum : V → Bool
  | .int _ => true
  | _ => false
theorem isi {K : PySem.W.Frag} {H : Hp} {v : V} {tn c : String} {b : Bool} {Q : VK} (h : TyX K H v (.type tn)) (k : kitB tn c = some b) (q : Q (.bl b) H) : rIsi K [v, .ty c] H Q :=
  ⟨v, .ty c, .type tn, .type c, b, rfl, .ty c, h, kit_ty k, q⟩
theorem inT {K : PySem.W.Frag} {H : Hp} {x : V} {p : Addr} {xs : List V} {Q : VK} {neg : Bool} (h : SqT K H p xs) (hx : flatV x = true) (ha : xs.all flatV = true) (k : Q (.bl (if neg then !inV x xs else inV x xs)) H) : rIn K neg x (.ref p) H Q := ⟨p, xs, rfl, .inr h, hx, ha, k⟩
theorem inV_str (w : Str) (l : List Str) : inV (.str w) (l.map V.str) = decide (w ∈ l) := by
  induction l with
  | nil => rfl
  | cons a l ih =>
    show (eqV (.str a) (.str w) || inV (.str w) (l.map V.str)) = _
    rw [ih]
    show ((a == w) || _) = _
    by_cases e : a = w
    · subst e; simp
    · have e' : ¬ w = a := fun z => e z.symm
      simp [e, e']
theorem flat_strs (l : List Str) : (l.map V.str).all flatV = true := by
  rw [List.all_eq_true]
  intro x hx
  obtain ⟨s, _, rfl⟩ := List.mem_map.mp hx
  rfl
section
variable {P : Program} {w : World} {K : PySem.W.Frag} {mg : Str → Option Value} {base : Heap}
abbrev sIs_number : Stmt := top 4
abbrev nIs_number : List Str := ["value"]
theorem scIs_number : FnScope nIs_number ["value"] (defScope sIs_number) := ⟨rfl, rfl, rfl, by decide +kernel, rfl, by decide +kernel, by decide +kernel⟩
def spNum (K : PySem.W.Frag) : Sp := fun vs H Q _ => ∃ (v : V) (tn : String), vs = [v] ∧ Kd K H v tn ∧ Q (.bl (isNum v)) H
theorem ok_number (T : Txt K mg) (D : DefAt K mg "is_number" sIs_number ["value"]) : CalG P w K mg base 1 "is_number" (spNum K) := by
  refine D.by scIs_number (fun vs H Q E h => ?_) (fun f cd A hg outer s H vs Q E hr h => ?_)
  · obtain ⟨v, tn, rfl, _⟩ := h
    rfl
  · obtain ⟨v, tn, rfl, k, q⟩ := h
    refine ⟨_, (pss_one (ps_ret (pe_and (pe_callB (r := rIsi K) call_isi (by rfl) T.isinstance (by decide +kernel) (pa_cons (pv 0) (pa_cons (pe_bltn (v := .ty "int") (by rfl) T.int (by decide +kernel) rfl) pa_nil))) (pe_one (pe_not (pe_callB (r := rIsi K) call_isi (by rfl) T.isinstance (by decide +kernel) (pa_cons (pv 0) (pa_cons (pe_bltn (v := .ty "bool") (by rfl) T.bool (by decide +kernel) rfl) pa_nil)))))))), ?_⟩
    repeat walk_at "rd"
    refine isi k.ty k.i ?_
    repeat walk_at "rd"
    refine Rd.bool (fun c => ?_) (fun c => ?_)
    · repeat walk_at "rd"
      refine isi k.ty k.b ?_
      repeat walk_at "rd"
      have e : isNum v = !isBl v := by cases v <;> first | rfl | cases c
      rw [← e]
      exact q
    · have e : isNum v = false := by cases v <;> first | rfl | cases c
      rw [e] at q
      exact q
abbrev sIs_one_of : Stmt := top 5
abbrev nIs_one_of : List Str := ["value", "words"]
theorem scIs_one_of : FnScope nIs_one_of ["value", "words"] (defScope sIs_one_of) := ⟨rfl, rfl, rfl, by decide +kernel, rfl, by decide +kernel, by decide +kernel⟩
def spOneOf (K : PySem.W.Frag) : Sp := fun vs H Q _ => ∃ (v : V) (p : Addr) (tn : String) (ws : List Str), vs = [v, .ref p] ∧ Kd K H v tn ∧ SqT K H p (ws.map V.str) ∧ Q (.bl (isIn v ws)) H
theorem ok_one_of (T : Txt K mg) (D : DefAt K mg "is_one_of" sIs_one_of ["value", "words"]) : CalG P w K mg base 1 "is_one_of" (spOneOf K) := by
  refine D.by scIs_one_of (fun vs H Q E h => ?_) (fun f cd A hg outer s H vs Q E hr h => ?_)
  · obtain ⟨v, p, tn, ws, rfl, _⟩ := h
    rfl
  · obtain ⟨v, p, tn, ws, rfl, k, hp, q⟩ := h
    refine ⟨_, (pss_one (ps_ret (pe_and (pe_callB (r := rIsi K) call_isi (by rfl) T.isinstance (by decide +kernel) (pa_cons (pv 0) (pa_cons (pe_bltn (v := .ty "str") (by rfl) T.str (by decide +kernel) rfl) pa_nil))) (pe_one (pe_cmpR (r := rIn K false) op_in_seq (pv 0) (pv 1) (by rfl)))))), ?_⟩
    repeat walk_at "rd"
    refine isi k.ty k.s ?_
    repeat walk_at "rd"
    refine Rd.bool (fun c => ?_) (fun c => ?_)
    · obtain ⟨z, rfl⟩ : ∃ z, v = .str z := by cases v <;> first | exact ⟨_, rfl⟩ | cases c
      repeat walk_at "rd"
      refine inT hp rfl (flat_strs _) ?_
      have e : (if (false : Bool) = true then !inV (.str z) (ws.map V.str) else inV (.str z) (ws.map V.str)) = decide (z ∈ ws) := by rw [inV_str]; rfl
      rw [e]
      exact q
    · have e : isIn v ws = false := by cases v <;> first | rfl | cases c
      rw [e] at q
      exact q
abbrev sCheck_method : Stmt := top 16
abbrev nCheck_method : List Str := ["method"]
theorem scCheck_method : FnScope nCheck_method ["method"] (defScope sCheck_method) := ⟨rfl, rfl, rfl, by decide +kernel, rfl, by decide +kernel, by decide +kernel⟩
def spCheck (K : PySem.W.Frag) (C : Addr) (ws : List Str) : Sp := fun vs H Q E => ∃ (v : V) (tn : String), vs = [v] ∧ Kd K H v tn ∧ (isIn v ws = true → Q .non H) ∧ (isIn v ws = false → ∀ d, H d = none → E (.ref C) (some d) (upd H d (.xd [(("value" : Str), v)])))
theorem ok_check_method (T : Txt K mg) {C p_METHODS : Addr} {ws : List Str} (g_METHODS : mg "METHODS" = some (.ref p_METHODS)) (tM : ∀ H, SqT K H p_METHODS (ws.map V.str)) (T_NoName : Ex.ErrC K mg "NoName" "value" C) (M_NoName : Ex.InitOk P w K mg base "value" C)
    (D : DefAt K mg "check_method" sCheck_method ["method"]) (CIs_one_of : CalG P w K mg base 1 "is_one_of" (spOneOf K)) : Ex.CalX P w K mg base 3 "check_method" (spCheck K C ws) := by
  refine Ex.byX D scCheck_method (fun vs H Q E h => ?_) (fun f cd A hg outer s H vs Q E hr h => ?_)
  · obtain ⟨v, tn, rfl, _⟩ := h
    rfl
  · obtain ⟨v, tn, rfl, k, q1, q2⟩ := h
    refine ⟨_, (pss_one (ps_if (pt_not (pt_val (pe_cG CIs_one_of hg hr (by decide) (pa_cons (pv 0) (pa_cons (pe_glob (v := .ref p_METHODS) (by rfl) g_METHODS rfl) pa_nil)))))
  (pss_one (ps_raise rfl (takes_of rfl rfl rfl rfl) (Ex.pmkE T_NoName M_NoName hr (by decide) (pa_cons (pv 0) pa_nil))))
  pss_nil)), ?_⟩
    repeat walk_at "rd"
    refine ⟨v, p_METHODS, tn, ws, rfl, k, tM H, ?_⟩
    repeat walk_at "rd"
    refine Rd.bool (fun c => ?_) (fun c => ?_)
    · have c' : isIn v ws = false := by simpa using c
      refine Ex.mk ?_
      repeat walk_at "rd"
      exact Ex.made (q2 c')
    · have c' : isIn v ws = true := by simpa using c
      repeat walk_at "rd"
      exact q1 c'
end
end Ab
namespace Ab
open PySem.Spec PyProof.Rows
/-! ### the table of the document -/
def methods : List Str := ["truth", "length", "item", "walk", "back", "has", "like", "unlike", "before", "behind", "hash", "grow", "plus", "call"]
def operations : List Str := ["truth", "size", "each", "turned", "hash", "call", "member", "like", "unlike", "before", "behind", "grow"]
def kinds : List (Str × Str) := [("truth", "flag"), ("length", "count"), ("item", "item"), ("walk", "walker"), ("back", "walker"), ("has", "flag"), ("like", "flag"), ("unlike", "flag"), ("before", "flag"), ("behind", "flag"), ("hash", "count"), ("grow", "any"), ("plus", "any"), ("call", "any")]
def kindOf (s : Str) : Str := (kinds.lookup s).getD Str.empty
def others : List Str := ["has", "like", "unlike", "before", "behind", "grow", "plus"]
def decliners : List Str := ["like", "unlike", "before", "behind", "grow", "plus"]
def ones : List Str := ["truth", "size", "each", "turned", "hash", "call"]
/-- an error out of the class at C, that keeps v -/
def Out (C : Addr) (v : V) (H : Hp) (E : XK) : Prop := ∀ d, H d = none → E (.ref C) (some d) (upd H d (.xd [(("value" : Str), v)]))
section
variable {P : Program} {w : World} {K : PySem.W.Frag} {mg : Str → Option Value} {base : Heap}
abbrev sCheck_operation : Stmt := top 17
abbrev nCheck_operation : List Str := ["operation"]
theorem scCheck_operation : FnScope nCheck_operation ["operation"] (defScope sCheck_operation) := ⟨rfl, rfl, rfl, by decide +kernel, rfl, by decide +kernel, by decide +kernel⟩
theorem ok_check_operation (T : Txt K mg) {C p_OPERATIONS : Addr} {ws : List Str} (g_OPERATIONS : mg "OPERATIONS" = some (.ref p_OPERATIONS)) (tM : ∀ H, SqT K H p_OPERATIONS (ws.map V.str)) (T_NoName : Ex.ErrC K mg "NoName" "value" C) (M_NoName : Ex.InitOk P w K mg base "value" C)
    (D : DefAt K mg "check_operation" sCheck_operation ["operation"]) (CIs_one_of : CalG P w K mg base 1 "is_one_of" (spOneOf K)) : Ex.CalX P w K mg base 3 "check_operation" (spCheck K C ws) := by
  refine Ex.byX D scCheck_operation (fun vs H Q E h => ?_) (fun f cd A hg outer s H vs Q E hr h => ?_)
  · obtain ⟨v, tn, rfl, _⟩ := h
    rfl
  · obtain ⟨v, tn, rfl, k, q1, q2⟩ := h
    refine ⟨_, (pss_one (ps_if (pt_not (pt_val (pe_cG CIs_one_of hg hr (by decide) (pa_cons (pv 0) (pa_cons (pe_glob (v := .ref p_OPERATIONS) (by rfl) g_OPERATIONS rfl) pa_nil)))))
  (pss_one (ps_raise rfl (takes_of rfl rfl rfl rfl) (Ex.pmkE T_NoName M_NoName hr (by decide) (pa_cons (pv 0) pa_nil))))
  pss_nil)), ?_⟩
    repeat walk_at "rd"
    refine ⟨v, p_OPERATIONS, tn, ws, rfl, k, tM H, ?_⟩
    repeat walk_at "rd"
    refine Rd.bool (fun c => ?_) (fun c => ?_)
    · have c' : isIn v ws = false := by simpa using c
      refine Ex.mk ?_
      repeat walk_at "rd"
      exact Ex.made (q2 c')
    · have c' : isIn v ws = true := by simpa using c
      repeat walk_at "rd"
      exact q1 c'
abbrev sKind_of : Stmt := top 18
abbrev nKind_of : List Str := ["method"]
theorem scKind_of : FnScope nKind_of ["method"] (defScope sKind_of) := ⟨rfl, rfl, rfl, by decide +kernel, rfl, by decide +kernel, by decide +kernel⟩
def spKind (K : PySem.W.Frag) (C : Addr) : Sp := fun vs H Q E => ∃ (v : V) (tn : String), vs = [v] ∧ Kd K H v tn ∧ (∀ s, v = .str s → s ∈ methods → Q (.str (kindOf s)) H) ∧ (isIn v methods = false → Out C v H E)
theorem isIn_str {v : V} {ws : List Str} (h : isIn v ws = true) : ∃ s, v = .str s ∧ s ∈ ws := by
  cases v <;> first | (rename_i s; exact ⟨s, rfl, of_decide_eq_true h⟩) | cases h
theorem ok_kind_of (T : Txt K mg) {C p_KINDS : Addr} (g_KINDS : mg "KINDS" = some (.ref p_KINDS)) (tK : ∀ s ∈ methods, KDct K w p_KINDS s (.str (kindOf s)))
    (D : DefAt K mg "kind_of" sKind_of ["method"]) (CCheck_method : Ex.CalX P w K mg base 3 "check_method" (spCheck K C methods)) : Ex.CalX P w K mg base 4 "kind_of" (spKind K C) := by
  refine Ex.byX D scKind_of (fun vs H Q E h => ?_) (fun f cd A hg outer s H vs Q E hr h => ?_)
  · obtain ⟨v, tn, rfl, _⟩ := h
    rfl
  · obtain ⟨v, tn, rfl, k, q1, q2⟩ := h
    refine ⟨_, (pss_cons (ps_expr (Ex.pe_x CCheck_method hg hr (by decide) (takes_of rfl rfl rfl rfl) (pa_cons (pv 0) pa_nil)))
  (pss_one (ps_ret (pe_ix (r := rIxD K w) ix_kdict (pe_glob (v := .ref p_KINDS) (by rfl) g_KINDS rfl) (pv 0) (fun _ _ => rfl))))), ?_⟩
    repeat walk_at "rd"
    refine ⟨v, tn, rfl, k, fun c => ?_, q2⟩
    obtain ⟨s, rfl, hs⟩ := isIn_str c
    repeat walk_at "rd"
    exact ⟨p_KINDS, s, _, rfl, rfl, tK s hs, q1 s rfl hs⟩
def spIn (K : PySem.W.Frag) (C : Addr) (ms ws : List Str) : Sp := fun vs H Q E => ∃ (v : V) (tn : String), vs = [v] ∧ Kd K H v tn ∧ (∀ s, v = .str s → s ∈ ms → Q (.bl (decide (s ∈ ws))) H) ∧ (isIn v ms = false → Out C v H E)
abbrev sTakes_other : Stmt := top 19
abbrev nTakes_other : List Str := ["method"]
theorem scTakes_other : FnScope nTakes_other ["method"] (defScope sTakes_other) := ⟨rfl, rfl, rfl, by decide +kernel, rfl, by decide +kernel, by decide +kernel⟩
theorem ok_takes_other (T : Txt K mg) {C p_OTHER_TAKERS : Addr} {ws : List Str} (g_OTHER_TAKERS : mg "OTHER_TAKERS" = some (.ref p_OTHER_TAKERS)) (tO : ∀ H, SqT K H p_OTHER_TAKERS (ws.map V.str))
    (D : DefAt K mg "takes_other" sTakes_other ["method"]) (CCheck_method : Ex.CalX P w K mg base 3 "check_method" (spCheck K C methods)) : Ex.CalX P w K mg base 4 "takes_other" (spIn K C methods ws) := by
  refine Ex.byX D scTakes_other (fun vs H Q E h => ?_) (fun f cd A hg outer s H vs Q E hr h => ?_)
  · obtain ⟨v, tn, rfl, _⟩ := h
    rfl
  · obtain ⟨v, tn, rfl, k, q1, q2⟩ := h
    refine ⟨_, (pss_cons (ps_expr (Ex.pe_x CCheck_method hg hr (by decide) (takes_of rfl rfl rfl rfl) (pa_cons (pv 0) pa_nil)))
  (pss_one (ps_ret (pe_cmpR (r := rIn K false) op_in_seq (pv 0) (pe_glob (v := .ref p_OTHER_TAKERS) (by rfl) g_OTHER_TAKERS rfl) (by rfl))))), ?_⟩
    repeat walk_at "rd"
    refine ⟨v, tn, rfl, k, fun c => ?_, q2⟩
    obtain ⟨s, rfl, hs⟩ := isIn_str c
    repeat walk_at "rd"
    refine inT (tO H) rfl (flat_strs _) ?_
    have e : (if (false : Bool) = true then !inV (.str s) (ws.map V.str) else inV (.str s) (ws.map V.str)) = decide (s ∈ ws) := by rw [inV_str]; rfl
    rw [e]
    exact q1 s rfl hs
abbrev sMay_decline : Stmt := top 20
abbrev nMay_decline : List Str := ["method"]
theorem scMay_decline : FnScope nMay_decline ["method"] (defScope sMay_decline) := ⟨rfl, rfl, rfl, by decide +kernel, rfl, by decide +kernel, by decide +kernel⟩
theorem ok_may_decline (T : Txt K mg) {C p_DECLINERS : Addr} {ws : List Str} (g_DECLINERS : mg "DECLINERS" = some (.ref p_DECLINERS)) (tO : ∀ H, SqT K H p_DECLINERS (ws.map V.str))
    (D : DefAt K mg "may_decline" sMay_decline ["method"]) (CCheck_method : Ex.CalX P w K mg base 3 "check_method" (spCheck K C methods)) : Ex.CalX P w K mg base 4 "may_decline" (spIn K C methods ws) := by
  refine Ex.byX D scMay_decline (fun vs H Q E h => ?_) (fun f cd A hg outer s H vs Q E hr h => ?_)
  · obtain ⟨v, tn, rfl, _⟩ := h
    rfl
  · obtain ⟨v, tn, rfl, k, q1, q2⟩ := h
    refine ⟨_, (pss_cons (ps_expr (Ex.pe_x CCheck_method hg hr (by decide) (takes_of rfl rfl rfl rfl) (pa_cons (pv 0) pa_nil)))
  (pss_one (ps_ret (pe_cmpR (r := rIn K false) op_in_seq (pv 0) (pe_glob (v := .ref p_DECLINERS) (by rfl) g_DECLINERS rfl) (by rfl))))), ?_⟩
    repeat walk_at "rd"
    refine ⟨v, tn, rfl, k, fun c => ?_, q2⟩
    obtain ⟨s, rfl, hs⟩ := isIn_str c
    repeat walk_at "rd"
    refine inT (tO H) rfl (flat_strs _) ?_
    have e : (if (false : Bool) = true then !inV (.str s) (ws.map V.str) else inV (.str s) (ws.map V.str)) = decide (s ∈ ws) := by rw [inV_str]; rfl
    rw [e]
    exact q1 s rfl hs
abbrev sOperands_of : Stmt := top 23
abbrev nOperands_of : List Str := ["operation"]
theorem scOperands_of : FnScope nOperands_of ["operation"] (defScope sOperands_of) := ⟨rfl, rfl, rfl, by decide +kernel, rfl, by decide +kernel, by decide +kernel⟩
def spOperands (K : PySem.W.Frag) (C : Addr) (ms ws : List Str) : Sp := fun vs H Q E => ∃ (v : V) (tn : String), vs = [v] ∧ Kd K H v tn ∧ (∀ s, v = .str s → s ∈ ms → Q (.int (if s ∈ ws then 1 else 2)) H) ∧ (isIn v ms = false → Out C v H E)
theorem ok_operands_of (T : Txt K mg) {C p_ONE_OPERAND : Addr} {ms ws : List Str} (g_ONE_OPERAND : mg "ONE_OPERAND" = some (.ref p_ONE_OPERAND)) (tO : ∀ H, SqT K H p_ONE_OPERAND (ws.map V.str))
    (D : DefAt K mg "operands_of" sOperands_of ["operation"]) (CCheck_operation : Ex.CalX P w K mg base 3 "check_operation" (spCheck K C ms)) : Ex.CalX P w K mg base 4 "operands_of" (spOperands K C ms ws) := by
  refine Ex.byX D scOperands_of (fun vs H Q E h => ?_) (fun f cd A hg outer s H vs Q E hr h => ?_)
  · obtain ⟨v, tn, rfl, _⟩ := h
    rfl
  · obtain ⟨v, tn, rfl, k, q1, q2⟩ := h
    refine ⟨_, (pss_cons (ps_expr (Ex.pe_x CCheck_operation hg hr (by decide) (takes_of rfl rfl rfl rfl) (pa_cons (pv 0) pa_nil)))
  (pss_one (ps_ret (pe_ifExp (pt_cmpR (r := rIn K false) op_in_seq (pv 0) (pe_glob (v := .ref p_ONE_OPERAND) (by rfl) g_ONE_OPERAND rfl) (by rfl)) pe_int pe_int)))), ?_⟩
    repeat walk_at "rd"
    refine ⟨v, tn, rfl, k, fun c => ?_, q2⟩
    obtain ⟨s, rfl, hs⟩ := isIn_str c
    repeat walk_at "rd"
    refine inT (tO H) rfl (flat_strs _) ?_
    have e : (if (false : Bool) = true then !inV (.str s) (ws.map V.str) else inV (.str s) (ws.map V.str)) = decide (s ∈ ws) := by rw [inV_str]; rfl
    rw [e]
    have q := q1 s rfl hs
    repeat walk_at "rd"
    refine Rd.dec (fun c => ?_) (fun c => ?_)
    · rw [if_pos c] at q
      exact q
    · rw [if_neg c] at q
      exact q
end
end Ab
namespace Ab
open PySem.Spec PyProof.Rows
theorem tyX_mono {K : PySem.W.Frag} {H H' : Hp} {v : V} {t : Value} (s : Same H H') (h : TyX K H v t) : TyX K H' v t := by
  cases h with
  | base b =>
    refine .base ?_
    cases b with
    | non => exact .non
    | bl x => exact .bl x
    | int x => exact .int x
    | str x => exact .str x
    | flt x => exact .flt x
    | lst e => exact .lst (s _ _ e)
    | frz e => exact .frz (s _ _ e)
    | tup e => exact .tup (s _ _ e)
    | dK e => exact .dK (s _ _ e)
    | dT e => exact .dT (s _ _ e)
    | ins e a b c d f => exact .ins (s _ _ e) a b c d f
  | byt b => exact .byt b
  | set e => exact .set (s _ _ e)
  | kList e c => exact .kList e c
  | kTuple e c => exact .kTuple e c
  | kDict e c => exact .kDict e c
  | fTuple e => exact .fTuple (s _ _ e)
  | fDict e => exact .fDict (s _ _ e)
theorem Kd.mono {K : PySem.W.Frag} {H H' : Hp} {v : V} {tn : String} (s : Same H H') (k : Kd K H v tn) : Kd K H' v tn := ⟨tyX_mono s k.ty, k.s, k.i, k.b⟩
theorem kd_str {K : PySem.W.Frag} {H : Hp} (z : Str) : Kd K H (.str z) "str" := ⟨.base (.str z), (by show kitB "str" "str" = some true; decide +kernel), (by show kitB "str" "int" = some false; decide +kernel), (by show kitB "str" "bool" = some false; decide +kernel)⟩
theorem seqT_mono {K : PySem.W.Frag} {H H' : Hp} {p : Addr} {xs : List V} (s : Same H H') (h : SqT K H p xs) : SqT K H' p xs := by
  rcases h with (h | ⟨o, h⟩) | h
  · exact .inl (.inl (s _ _ h))
  · exact .inl (.inr ⟨o, s _ _ h⟩)
  · exact .inr h
theorem tupRg {σ : L2.St} {H : Hp} {Q : VK} {te : L2.St → Hp → (Int → Int → Hp → Prop) → Prop} (k : te σ H fun a b H1 => RgOk a b ∧ ∀ q, H1 q = none → Q (.ref q) (upd H1 q (.tup (rgV a b)))) : tTupRg te σ H Q := k
theorem rg1 {σ : L2.St} {H : Hp} {R : Int → Int → Hp → Prop} {ta : TE} (k : ta σ H fun x H1 => ∃ n, x = .int n ∧ R 0 n H1) : tRg1 ta σ H R := k
theorem star {K : PySem.W.Frag} {σ : L2.St} {H : Hp} {te : TE} {t : TA} {QA : List V → Hp → Prop} (k : te σ H fun x H1 => ∃ p xs, x = V.ref p ∧ (SqT K H1 p xs ∨ SqL K H1 p xs) ∧ t σ H1 fun ys H2 => QA (xs ++ ys) H2) : StX.tStar K te t σ H QA := k
def answers (k : Str) : List Str := if k = "flag" then ["yes", "no"] else if k = "item" then ["same", "other", "out"] else if k = "walker" then ["walker"] else ["got"]
def wrongs : List Str := ["flag", "count", "walker"]
/-- the method whose outcomes a word has -/
def asked (s : Str) : Str := if s = "step" then "item" else s
def answersV (k : Str) : List V := if k = "count" then [.int 0, .int 1, .int 2, .int 3, .int 4] else (answers k).map V.str
def wrongV (k : Str) : List V := if k ∈ wrongs then [.str "wrong"] else []
def declineV (m : Str) : List V := if m ∈ decliners then [.str "decline"] else []
def outcomesV (s : Str) : List V := answersV (kindOf (asked s)) ++ (wrongV (kindOf (asked s)) ++ (declineV (asked s) ++ [.str "raise"]))
theorem kind_some : ∀ s ∈ methods, kindOf s ≠ "count" → kindOf s ∈ (["flag", "item", "walker", "any"] : List Str) := by decide +kernel
section
variable {P : Program} {w : World} {K : PySem.W.Frag} {mg : Str → Option Value} {base : Heap}
abbrev sOutcomes_of : Stmt := top 21
abbrev nOutcomes_of : List Str := ["word", "method", "kind", "answers", "wrong", "decline"]
theorem scOutcomes_of : FnScope nOutcomes_of ["word"] (defScope sOutcomes_of) := ⟨rfl, rfl, rfl, by decide +kernel, rfl, by decide +kernel, by decide +kernel⟩
def spOuts (K : PySem.W.Frag) (C : Addr) : Sp := fun vs H Q E => ∃ (v : V) (tn : String), vs = [v] ∧ Kd K H v tn ∧ (∀ s, v = .str s → s ∈ methods ∨ s = "step" → ∀ p H', H p = none → Same H H' → H' p = some (.tup (outcomesV s)) → Q (.ref p) H') ∧
  (isIn v methods = false → isIn v ["step"] = false → ∀ H', Same H H' → Out C v H' E)
theorem ok_outcomes_of (T : Txt K mg) {C p_ANSWERS p_WRONG_KINDS : Addr} {t4 : Tok} (g_ANSWERS : mg "ANSWERS" = some (.ref p_ANSWERS)) (g_WRONG_KINDS : mg "WRONG_KINDS" = some (.ref p_WRONG_KINDS)) (g_MOST_COUNT : mg "MOST_COUNT" = some (.int 4 t4))
    (tA : ∀ k ∈ (["flag", "item", "walker", "any"] : List Str), ∃ q, KDct K w p_ANSWERS k (.ref q) ∧ ∀ H, SqT K H q ((answers k).map V.str)) (tW : ∀ H, SqT K H p_WRONG_KINDS (wrongs.map V.str))
    (D : DefAt K mg "outcomes_of" sOutcomes_of ["word"]) (CIs_one_of : CalG P w K mg base 1 "is_one_of" (spOneOf K)) (CKind_of : Ex.CalX P w K mg base 4 "kind_of" (spKind K C)) (CMay_decline : Ex.CalX P w K mg base 4 "may_decline" (spIn K C methods decliners)) :
    Ex.CalX P w K mg base 5 "outcomes_of" (spOuts K C) := by
  refine Ex.byX D scOutcomes_of (fun vs H Q E h => ?_) (fun f cd A hg outer s H vs Q E hr h => ?_)
  · obtain ⟨v, tn, rfl, _⟩ := h
    rfl
  · obtain ⟨v, tn, rfl, k, q1, q2⟩ := h
    refine ⟨_, (C8.pss_cut (ps_set (i := 1) scOutcomes_of.nd rfl (Or.inl rfl) (pe_ifExp (pt_val (pe_cG CIs_one_of hg hr (by decide) (pa_cons (pv 0) (pa_cons (pe_tup (pa_cons pe_str pa_nil)) pa_nil)))) pe_str (pv 0)))
  (pss_cons (ps_set (i := 2) scOutcomes_of.nd rfl (Or.inl rfl) (Ex.pe_x CKind_of hg hr (by decide) (takes_of rfl rfl rfl rfl) (pa_cons (pv 1) pa_nil)))
  (C8.pss_cut (ps_set (i := 3) scOutcomes_of.nd rfl (Or.inl rfl) (pe_ifExp (pt_cmpR op_eq (pv 2) pe_str (nomark _)) (pe_tupRg rfl (by rfl) T.tuple (prg_1 (by rfl) T.range (pe_op op_add (pe_glob (v := .int 4) (by rfl) g_MOST_COUNT ⟨_, rfl⟩) pe_int))) (pe_ix (r := rIxD K w) ix_kdict (pe_glob (v := .ref p_ANSWERS) (by rfl) g_ANSWERS rfl) (pv 2) (fun _ _ => rfl))))
  (C8.pss_cut (ps_set (i := 4) scOutcomes_of.nd rfl (Or.inl rfl) (pe_ifExp (pt_cmpR (r := rIn K false) op_in_seq (pv 2) (pe_glob (v := .ref p_WRONG_KINDS) (by rfl) g_WRONG_KINDS rfl) (by rfl)) (pe_tup (pa_cons pe_str pa_nil)) (pe_tup pa_nil)))
  (C8.pss_cut (ps_set (i := 5) scOutcomes_of.nd rfl (Or.inl rfl) (pe_ifExp (pt_val (Ex.pe_x CMay_decline hg hr (by decide) (takes_of rfl rfl rfl rfl) (pa_cons (pv 1) pa_nil))) (pe_tup (pa_cons pe_str pa_nil)) (pe_tup pa_nil)))
  (pss_one (ps_ret (pe_tup (StX.pa_star (pv 3) (StX.pa_star (pv 4) (StX.pa_star (pv 5) (pa_cons pe_str pa_nil)))))))))))), ?_⟩
    refine Rd.cut (fun σ' H' => ∃ m tm, σ' = [some v, some m, none, none, none, none] ∧ Same H H' ∧ Kd K H' m tm ∧ ((v = .str "step" ∧ m = .str "item") ∨ (isIn v ["step"] = false ∧ m = v))) ?_ ?_
    · repeat walk_at "rd"
      refine ⟨Rd.sz (by simp), fun q hq => ?_⟩
      have sq := Rd.sNew (o := .tup [.str "step"]) hq
      repeat walk_at "rd"
      refine ⟨v, q, tn, ["step"], rfl, k.mono sq, SqT.of upd_same, ?_⟩
      repeat walk_at "rd"
      refine Rd.bool (fun c => ?_) (fun c => ?_)
      · obtain ⟨z, rfl, hz⟩ := isIn_str c
        obtain rfl : z = "step" := by simpa using hz
        repeat walk_at "rd"
        exact ⟨_, "str", rfl, sq, kd_str _, .inl ⟨rfl, rfl⟩⟩
      · repeat walk_at "rd"
        exact ⟨v, tn, rfl, sq, k.mono sq, .inr ⟨c, rfl⟩⟩
    · rintro σ' H1 ⟨m, tm, rfl, s1, km, hm⟩
      repeat walk_at "rd"
      refine ⟨m, tm, rfl, km, fun z e hz => ?_, fun c => ?_⟩
      · subst e
        obtain ⟨s0, rfl, es, h0⟩ : ∃ s0, v = .str s0 ∧ asked s0 = z ∧ (s0 ∈ methods ∨ s0 = "step") := by
          rcases hm with ⟨e1, e2⟩ | ⟨e1, e2⟩
          · obtain rfl : z = "item" := V.str.inj e2
            exact ⟨"step", e1, by decide +kernel, .inr rfl⟩
          · refine ⟨z, e2.symm, ?_, .inl hz⟩
            unfold asked
            refine if_neg fun e => ?_
            rw [← e2, e] at e1
            exact absurd e1 (by decide +kernel)
        have qq := q1 s0 rfl h0
        unfold outcomesV at qq
        rw [es] at qq
        have kc := kind_some z hz
        generalize kindOf z = kd at qq kc
        repeat walk_at "rd"
        refine Rd.cut (fun σ' H' => ∃ pa, σ' = [some (.str s0), some (.str z), some (.str kd), some (.ref pa), none, none] ∧ Same H H' ∧ SqT K H' pa (answersV kd)) ?_ ?_
        · repeat walk_at "rd"
          refine Rd.dec (fun c => ?_) (fun c => ?_)
          · have e : kd = "count" := V.str.inj c
            refine tupRg (rg1 ?_)
            repeat walk_at "rd"
            refine ⟨.of_le (by decide) (by decide) (by decide) (by decide), fun q hq => ?_⟩
            repeat walk_at "rd"
            refine ⟨q, rfl, s1.trans (Rd.sNew hq), .inl (.inl ?_)⟩
            rw [upd_same]
            unfold answersV
            rw [if_pos e]
            rfl
          · have e : ¬ kd = "count" := fun z => c (by rw [z])
            obtain ⟨q, hq, tq⟩ := tA kd (kc e)
            repeat walk_at "rd"
            refine ⟨p_ANSWERS, kd, _, rfl, rfl, hq, ?_⟩
            repeat walk_at "rd"
            refine ⟨q, rfl, s1, ?_⟩
            unfold answersV
            rw [if_neg e]
            exact tq _
        · rintro σ' H2 ⟨pa, rfl, s2, ta⟩
          refine Rd.cut (fun σ' H' => ∃ pw, σ' = [some (.str s0), some (.str z), some (.str kd), some (.ref pa), some (.ref pw), none] ∧ Same H H' ∧ SqT K H' pa (answersV kd) ∧ SqT K H' pw (wrongV kd)) ?_ ?_
          · repeat walk_at "rd"
            refine inT (tW H2) rfl (flat_strs _) ?_
            have e : (if (false : Bool) = true then !inV (.str kd) (wrongs.map V.str) else inV (.str kd) (wrongs.map V.str)) = decide (kd ∈ wrongs) := by rw [inV_str]; rfl
            rw [e]
            repeat walk_at "rd"
            refine Rd.dec (fun c => ?_) (fun c => ?_)
            · repeat walk_at "rd"
              refine ⟨Rd.sz (by simp), fun q hq => ?_⟩
              repeat walk_at "rd"
              have sq := Rd.sNew (o := .tup [.str "wrong"]) hq
              refine ⟨q, rfl, s2.trans sq, seqT_mono sq ta, .inl (.inl ?_)⟩
              rw [upd_same, wrongV, if_pos c]
            · repeat walk_at "rd"
              refine ⟨Rd.sz (by simp), fun q hq => ?_⟩
              repeat walk_at "rd"
              have sq := Rd.sNew (o := .tup []) hq
              refine ⟨q, rfl, s2.trans sq, seqT_mono sq ta, .inl (.inl ?_)⟩
              rw [upd_same, wrongV, if_neg c]
          · rintro σ' H3 ⟨pw, rfl, s3, ta, tw⟩
            refine Rd.cut (fun σ' H' => ∃ pd, σ' = [some (.str s0), some (.str z), some (.str kd), some (.ref pa), some (.ref pw), some (.ref pd)] ∧ Same H H' ∧ SqT K H' pa (answersV kd) ∧ SqT K H' pw (wrongV kd) ∧ SqT K H' pd (declineV z)) ?_ ?_
            · repeat walk_at "rd"
              refine ⟨.str z, "str", rfl, kd_str z, fun z' e hz' => ?_, fun c => ?_⟩
              · obtain rfl : z = z' := V.str.inj e
                repeat walk_at "rd"
                refine Rd.dec (fun c => ?_) (fun c => ?_)
                · repeat walk_at "rd"
                  refine ⟨Rd.sz (by simp), fun q hq => ?_⟩
                  repeat walk_at "rd"
                  have sq := Rd.sNew (o := .tup [.str "decline"]) hq
                  refine ⟨q, rfl, s3.trans sq, seqT_mono sq ta, seqT_mono sq tw, .inl (.inl ?_)⟩
                  rw [upd_same, declineV, if_pos c]
                · repeat walk_at "rd"
                  refine ⟨Rd.sz (by simp), fun q hq => ?_⟩
                  repeat walk_at "rd"
                  have sq := Rd.sNew (o := .tup []) hq
                  refine ⟨q, rfl, s3.trans sq, seqT_mono sq ta, seqT_mono sq tw, .inl (.inl ?_)⟩
                  rw [upd_same, declineV, if_neg c]
              · have c : decide (z ∈ methods) = false := c
                exact absurd hz (of_decide_eq_false c)
            · rintro σ' H4 ⟨pd, rfl, s4, ta, tw, td⟩
              repeat walk_at "rd"
              refine star ?_
              repeat walk_at "rd"
              refine ⟨pa, _, rfl, .inl ta, star ?_⟩
              repeat walk_at "rd"
              refine ⟨pw, _, rfl, .inl tw, star ?_⟩
              repeat walk_at "rd"
              refine ⟨pd, _, rfl, .inl td, ?_⟩
              repeat walk_at "rd"
              refine ⟨?_, fun q hq => qq q _ (Same.free s4 hq) (s4.trans (Rd.sNew hq)) upd_same⟩
              refine Rd.sz ?_
              have l1 : (answersV kd).length ≤ 5 := by
                unfold answersV answers
                (repeat' split) <;> simp
              have l2 : (wrongV kd).length ≤ 1 := by unfold wrongV; split <;> simp
              have l3 : (declineV z).length ≤ 1 := by unfold declineV; split <;> simp
              simp only [List.length_append, List.length_cons, List.length_nil]
              omega
      · rcases hm with ⟨e1, rfl⟩ | ⟨e1, rfl⟩
        · exact absurd c (by decide +kernel)
        · exact q2 c e1 _ s1
end
end Ab
namespace Ab
open PySem.Spec PyProof.Rows
theorem flat_map (l : List Str) : (l.map V.str).all flatV = true := flat_strs l
theorem flat_outs (s : Str) : (outcomesV s).all flatV = true := by
  unfold outcomesV
  simp only [List.all_append, Bool.and_eq_true]
  refine ⟨?_, ?_, ?_, rfl⟩
  · unfold answersV
    split
    · rfl
    · exact flat_strs _
  · unfold wrongV
    split <;> rfl
  · unfold declineV
    split <;> rfl
def isOut (s : Str) (u : V) : Bool := (isStr u || isNum u) && inV u (outcomesV s)
theorem flat_of {u : V} (h : (isStr u || isNum u) = true) : flatV u = true := by cases u <;> first | rfl | cases h
section
variable {P : Program} {w : World} {K : PySem.W.Frag} {mg : Str → Option Value} {base : Heap}
abbrev sIs_outcome : Stmt := top 22
abbrev nIs_outcome : List Str := ["word", "value", "outcomes"]
theorem scIs_outcome : FnScope nIs_outcome ["word", "value"] (defScope sIs_outcome) := ⟨rfl, rfl, rfl, by decide +kernel, rfl, by decide +kernel, by decide +kernel⟩
def spIsOut (K : PySem.W.Frag) (C : Addr) : Sp := fun vs H Q E => ∃ (v : V) (tn : String) (u : V) (tu : String), vs = [v, u] ∧ Kd K H v tn ∧ Kd K H u tu ∧ (∀ s, v = .str s → s ∈ methods ∨ s = "step" → ∀ H', Same H H' → Q (.bl (isOut s u)) H') ∧
  (isIn v methods = false → isIn v ["step"] = false → ∀ H', Same H H' → Out C v H' E)
theorem ok_is_outcome (T : Txt K mg) {C : Addr} (D : DefAt K mg "is_outcome" sIs_outcome ["word", "value"]) (CIs_number : CalG P w K mg base 1 "is_number" (spNum K)) (COutcomes_of : Ex.CalX P w K mg base 5 "outcomes_of" (spOuts K C)) :
    Ex.CalX P w K mg base 6 "is_outcome" (spIsOut K C) := by
  refine Ex.byX D scIs_outcome (fun vs H Q E h => ?_) (fun f cd A hg outer s H vs Q E hr h => ?_)
  · obtain ⟨v, tn, u, tu, rfl, _⟩ := h
    rfl
  · obtain ⟨v, tn, u, tu, rfl, kv, ku, q1, q2⟩ := h
    refine ⟨_, (pss_cons (ps_set (i := 2) scIs_outcome.nd rfl (Or.inl rfl) (Ex.pe_x COutcomes_of hg hr (by decide) (takes_of rfl rfl rfl rfl) (pa_cons (pv 0) pa_nil)))
  (pss_one (ps_ret (pe_and (pe_or (pe_callB (r := rIsi K) call_isi (by rfl) T.isinstance (by decide +kernel) (pa_cons (pv 1) (pa_cons (pe_bltn (v := .ty "str") (by rfl) T.str (by decide +kernel) rfl) pa_nil))) (pe_one (pe_cG CIs_number hg hr (by decide) (pa_cons (pv 1) pa_nil)))) (pe_one (pe_cmpR (r := rIn K false) op_in_seq (pv 1) (pv 2) (by rfl))))))), ?_⟩
    repeat walk_at "rd"
    refine ⟨v, tn, rfl, kv, fun z e hz p H1 hp s1 h1 => ?_, q2⟩
    have qq := q1 z e hz _ s1
    have ku1 := ku.mono s1
    have io : isOut z u = ((isStr u || isNum u) && inV u (outcomesV z)) := rfl
    rw [io] at qq
    repeat walk_at "rd"
    refine isi ku1.ty ku1.s ?_
    repeat walk_at "rd"
    have tail : (isStr u || isNum u) = true → rIn K false u (.ref p) H1 Q := fun c => by
      refine inT (.inl (.inl h1)) (flat_of c) (flat_outs z) ?_
      rw [c] at qq
      rw [if_neg Bool.false_ne_true]
      exact qq
    refine Rd.bool (fun c => ?_) (fun c => ?_)
    · repeat walk_at "rd"
      refine Rd.tt_ ?_
      repeat walk_at "rd"
      exact tail (by rw [c]; rfl)
    · repeat walk_at "rd"
      refine ⟨u, tu, rfl, ku1, ?_⟩
      repeat walk_at "rd"
      refine Rd.bool (fun c2 => ?_) (fun c2 => ?_)
      · repeat walk_at "rd"
        exact tail (by rw [c2, Bool.or_true])
      · rw [c, c2] at qq
        exact qq
end
end Ab
namespace Ab
open PySem.Spec PyProof.Rows
/-- repr of a value, whatever comes beside -/
def Shows (K : PySem.W.Frag) (v : V) (H : Hp) (txt : Str) : Prop := ∀ H', Same H H' → ∀ Q : VK, Q (.str txt) H' → rReprX K [v] H' Q
def told (d : Int) (v : V) : Bool := if d = 3 ∨ d = 4 then isIn v methods || isIn v ["step"] else if d = 5 then isIn v operations else isIn v methods
theorem callS {sp : Sp} {E : L2.St → XK} {t : TA} {σ : L2.St} {H : Hp} {Q : VK} (k : t σ H fun vs H1 => sp vs H1 Q (E σ)) : tCallS sp E t σ H Q := k
theorem xf {a C : Addr} {cls : Value} {d : Option Addr} {f : Str} {te : TE} {σ : L2.St} {H : Hp} {Q : VK} (k : te σ H fun x H1 => x = .ref a ∧ cls = .ref C ∧ ∃ (dd : Addr) (fs : List (Str × V)) (v : V), d = some dd ∧ H1 dd = some (.xd fs) ∧ fs.lookup f = some v ∧ Q v H1) : tXf a cls d C f te σ H Q := k
def heardSuite (K : PySem.W.Frag) (C CA : Addr) : Addr → Value → Option Addr → TS := fun a cls d =>
  tRet (tLst (tCons (tOp rEq (tCB (rReprX K) (tCons (tXf a cls d C "value" (tVar 2)) tNil)) (tCB (rReprX K) (tCons (tVar 1) tNil)))
    (tCons (tCB (Ex.rIsD K C a cls d) (tCons (tVar 2) (tCons (tC (.ref CA)) tNil))) (tCons (tCB (Ex.rIsD K C a cls d) (tCons (tVar 2) (tCons (tC (.ty "ValueError")) tNil))) tNil))))
theorem step_in {v : V} {s : Str} (e : v = .str s) (h : s ∈ methods ∨ s = "step") : (isIn v methods || isIn v ["step"]) = true := by
  subst e
  rcases h with h | h
  · show (decide (s ∈ methods) || _) = true
    rw [decide_eq_true h]; rfl
  · subst h
    decide +kernel
section
variable {P : Program} {w : World} {K : PySem.W.Frag} {mg : Str → Option Value} {base : Heap}
abbrev sL_heard : Stmt := top 32
abbrev nL_heard : List Str := ["_law_door", "_law_word", "e"]
theorem scL_heard : FnScope nL_heard ["_law_door", "_law_word"] (defScope sL_heard) := ⟨rfl, rfl, rfl, by decide +kernel, rfl, by decide +kernel, by decide +kernel⟩
def spHeard (K : PySem.W.Frag) : Sp := fun vs H Q _ => ∃ (d : Int) (v : V) (tn : String) (txt : Str), vs = [.int d, v] ∧ 0 ≤ d ∧ d ≤ 5 ∧ Kd K H v tn ∧ Shows K v H txt ∧ (told d v = true → ∀ H', Same H H' → Q (.str "told") H') ∧
  (told d v = false → ∀ p H', H p = none → Same H H' → H' p = some (.lst [.bl true, .bl true, .bl true]) → Q (.ref p) H')
theorem ok_heard (T : Txt K mg) {C_NoName C_AnswerError : Addr} (T_NoName : Ex.ErrC K mg "NoName" "value" C_NoName) (G_AnswerError : mg "AnswerError" = some (.ref C_AnswerError))
    (k1 : PySem.W.kitOne K (.ref C_NoName) (.ref C_AnswerError) = some true) (k2 : PySem.W.kitOne K (.ref C_NoName) (.type "ValueError") = some true)
    (D : DefAt K mg "_law_heard" sL_heard ["_law_door", "_law_word"]) (CKind_of : Ex.CalX P w K mg base 4 "kind_of" (spKind K C_NoName)) (CTakes_other : Ex.CalX P w K mg base 4 "takes_other" (spIn K C_NoName methods others))
    (CMay_decline : Ex.CalX P w K mg base 4 "may_decline" (spIn K C_NoName methods decliners)) (COutcomes_of : Ex.CalX P w K mg base 5 "outcomes_of" (spOuts K C_NoName)) (CIs_outcome : Ex.CalX P w K mg base 6 "is_outcome" (spIsOut K C_NoName))
    (COperands_of : Ex.CalX P w K mg base 4 "operands_of" (spOperands K C_NoName operations ones)) : CalG P w K mg base 7 "_law_heard" (spHeard K) := by
  refine D.by scL_heard (fun vs H Q E h => ?_) (fun f cd A hg outer s H vs Q E hr h => ?_)
  · obtain ⟨d, v, tn, txt, rfl, _⟩ := h
    rfl
  · obtain ⟨d, v, tn, txt, rfl, d0, d5, k, sh, q1, q2⟩ := h
    refine ⟨_, (pss_cons (ps_try_as (i := 2) (Wout := fun _ _ _ _ => False) rfl rfl scL_heard.nd rfl rfl ⟨rfl, by decide, Or.inl T_NoName.g⟩ takes0
  (fun W pn xe tk _ => (pss_one (ps_if (pt_cmpR op_eq (pv 0) pe_int (nomark _))
  (pss_one (ps_expr (Ex.pe_xS CKind_of hg hr (by decide) tk (pa_cons (pv 1) pa_nil))))
  (pss_one (ps_if (pt_cmpR op_eq (pv 0) pe_int (nomark _))
  (pss_one (ps_expr (Ex.pe_xS CTakes_other hg hr (by decide) tk (pa_cons (pv 1) pa_nil))))
  (pss_one (ps_if (pt_cmpR op_eq (pv 0) pe_int (nomark _))
  (pss_one (ps_expr (Ex.pe_xS CMay_decline hg hr (by decide) tk (pa_cons (pv 1) pa_nil))))
  (pss_one (ps_if (pt_cmpR op_eq (pv 0) pe_int (nomark _))
  (pss_one (ps_expr (Ex.pe_xS COutcomes_of hg hr (by decide) tk (pa_cons (pv 1) pa_nil))))
  (pss_one (ps_if (pt_cmpR op_eq (pv 0) pe_int (nomark _))
  (pss_one (ps_expr (Ex.pe_xS CIs_outcome hg hr (by decide) tk (pa_cons (pv 1) (pa_cons pe_str pa_nil)))))
  (pss_one (ps_expr (Ex.pe_xS COperands_of hg hr (by decide) tk (pa_cons (pv 1) pa_nil)))))))))))))))
  (fun a oe cls d pn hz hf => (pss_one (ps_ret (pe_lst (pa_cons (pe_cmpR op_eq (pe_callB (r := rReprX K) (call_reprX hg hr.units) (by rfl) T.repr (by decide +kernel) (pa_cons (pe_xf T_NoName.xf T_NoName.no hz hf (pv 2)) pa_nil)) (pe_callB (r := rReprX K) (call_reprX hg hr.units) (by rfl) T.repr (by decide +kernel) (pa_cons (pv 1) pa_nil)) (nomark _)) (pa_cons (pe_callB (r := Ex.rIsD K C_NoName a cls d) (Ex.call_isD T_NoName.ic hz hf) (by rfl) T.isinstance (by decide +kernel) (pa_cons (pv 2) (pa_cons (pe_glob (v := .ref C_AnswerError) (by rfl) G_AnswerError rfl) pa_nil))) (pa_cons (pe_callB (r := Ex.rIsD K C_NoName a cls d) (Ex.call_isD T_NoName.ic hz hf) (by rfl) T.isinstance (by decide +kernel) (pa_cons (pv 2) (pa_cons (pe_bltn (v := .ty "ValueError") (by rfl) T.ValueError (by decide +kernel) rfl) pa_nil))) pa_nil))))))))
  (pss_one (ps_ret pe_str))), ?_⟩
    repeat walk_at "rd"
    have out : told d v = false → ∀ H1, Same H H1 → Out C_NoName v H1 (WE (wAs K (.ref C_NoName) 2 (heardSuite K C_NoName C_AnswerError) (fun _ _ _ _ => False) { nx := tRet (tC (.str "told")) { nx := fun _ H' => Q .non H', rt := Q }, rt := Q }) (L2.start nL_heard [.int d, v])) := by
      intro hf H1 s1 dd hdd
      have s2 := s1.trans (Rd.sNew (o := .xd [(("value" : Str), v)]) hdd)
      refine ⟨true, T_NoName.te, fun _ a0 ha0 => ?_, fun q => nomatch q⟩
      unfold heardSuite
      repeat walk_at "rd"
      refine xf ?_
      repeat walk_at "rd"
      refine ⟨rfl, dd, _, v, rfl, upd_same, by simp [List.lookup], ?_⟩
      repeat walk_at "rd"
      refine sh _ s2 _ ?_
      repeat walk_at "rd"
      refine sh _ s2 _ ?_
      repeat walk_at "rd"
      refine ⟨_, _, true, dd, _, rfl, .own _, rfl, rfl, upd_same, k1, ?_⟩
      repeat walk_at "rd"
      refine ⟨_, _, true, dd, _, rfl, .ty _, rfl, rfl, upd_same, k2, ?_⟩
      repeat walk_at "rd"
      refine ⟨Rd.sz (by simp), fun p hp => ?_⟩
      rw [decide_eq_true rfl]
      exact q2 hf p _ (Same.free s2 hp) (s2.trans (Rd.sNew hp)) upd_same
    refine Rd.dec (fun c => ?_) (fun c => ?_)
    · have ed : d = 0 := V.int.inj c
      have e0 : told d v = isIn v methods := by rw [ed]; rfl
      repeat walk_at "rd"
      refine callS ?_
      repeat walk_at "rd"
      refine ⟨v, tn, rfl, k, fun s e hs => ?_, fun c => out (by rw [e0]; exact c) _ (Same.refl _)⟩
      repeat walk_at "rd"
      exact q1 (by rw [e0, e]; exact decide_eq_true hs) _ (Same.refl _)
    repeat walk_at "rd"
    refine Rd.dec (fun c => ?_) (fun c => ?_)
    · have ed : d = 1 := V.int.inj c
      have e0 : told d v = isIn v methods := by rw [ed]; rfl
      repeat walk_at "rd"
      refine callS ?_
      repeat walk_at "rd"
      refine ⟨v, tn, rfl, k, fun s e hs => ?_, fun c => out (by rw [e0]; exact c) _ (Same.refl _)⟩
      repeat walk_at "rd"
      exact q1 (by rw [e0, e]; exact decide_eq_true hs) _ (Same.refl _)
    repeat walk_at "rd"
    refine Rd.dec (fun c => ?_) (fun c => ?_)
    · have ed : d = 2 := V.int.inj c
      have e0 : told d v = isIn v methods := by rw [ed]; rfl
      repeat walk_at "rd"
      refine callS ?_
      repeat walk_at "rd"
      refine ⟨v, tn, rfl, k, fun s e hs => ?_, fun c => out (by rw [e0]; exact c) _ (Same.refl _)⟩
      repeat walk_at "rd"
      exact q1 (by rw [e0, e]; exact decide_eq_true hs) _ (Same.refl _)
    repeat walk_at "rd"
    refine Rd.dec (fun c => ?_) (fun c => ?_)
    · have ed : d = 3 := V.int.inj c
      have e0 : told d v = (isIn v methods || isIn v ["step"]) := by rw [ed]; rfl
      repeat walk_at "rd"
      refine callS ?_
      repeat walk_at "rd"
      refine ⟨v, tn, rfl, k, fun s e hs p H1 hp s1 h1 => ?_, fun c c2 H1 s1 => out (by rw [e0, c, c2]; rfl) _ s1⟩
      repeat walk_at "rd"
      exact q1 (by rw [e0]; exact step_in e hs) _ s1
    repeat walk_at "rd"
    refine Rd.dec (fun c => ?_) (fun c => ?_)
    · have ed : d = 4 := V.int.inj c
      have e0 : told d v = (isIn v methods || isIn v ["step"]) := by rw [ed]; rfl
      repeat walk_at "rd"
      refine callS ?_
      repeat walk_at "rd"
      refine ⟨v, tn, _, "str", rfl, k, kd_str _, fun s e hs H1 s1 => ?_, fun c c2 H1 s1 => out (by rw [e0, c, c2]; rfl) _ s1⟩
      repeat walk_at "rd"
      exact q1 (by rw [e0]; exact step_in e hs) _ s1
    · rename_i c0 c1 c2 c3
      have n0 : d ≠ 0 := fun e => c0 (by rw [e])
      have n1 : d ≠ 1 := fun e => c1 (by rw [e])
      have n2 : d ≠ 2 := fun e => c2 (by rw [e])
      have n3 : d ≠ 3 := fun e => c3 (by rw [e])
      have n4 : d ≠ 4 := fun e => c (by rw [e])
      have ed : d = 5 := by omega
      have e0 : told d v = isIn v operations := by rw [ed]; rfl
      repeat walk_at "rd"
      refine callS ?_
      repeat walk_at "rd"
      refine ⟨v, tn, rfl, k, fun s e hs => ?_, fun c => out (by rw [e0]; exact c) _ (Same.refl _)⟩
      repeat walk_at "rd"
      exact q1 (by rw [e0, e]; exact decide_eq_true hs) _ (Same.refl _)
end
end Ab
namespace Gk
open PySem.Spec PyProof.Rows
section
variable {X : Cx} {k j : Nat} {sp : Sp} {x : Str} {p pos : Pos}
/-- a def without arguments -/
theorem pe_cG0 (c : CalG X.prog X.w X.K X.mg X.base k x sp) (g : X.A.guards = some []) (hr : Room j X.A) (hk : k ≤ j) (hg : Gl X x := by rfl) (hdb : (x == ("__debug__" : Str)) = false := by decide) :
    PE X (.Call (.Name x p) [] [] pos) (tCall sp [] E0 tNil) := by
  obtain ⟨f, fd, ps, F, hm, hkp, hb⟩ := c
  refine ⟨fun pins s σ H Q I h => wpAny_Call_Name_kw (ld_glob I hg hm ?_ hdb)⟩
  exact PySem.W.callWith_K0 I.kIn hkp (runG (us := []) F g (hr.mono hk) hb .nil pass0 I .nil h)
end
end Gk
namespace Ab
open PySem.Spec PyProof.Rows
section
variable {P : Program} {w : World} {K : PySem.W.Frag} {mg : Str → Option Value} {base : Heap}
/-- a new list of texts is handed back -/
def spNew (L : List V) : Sp := fun vs H Q _ => vs = [] ∧ ∀ p H', H p = none → Same H H' → H' p = some (.lst L) → Q (.ref p) H'
abbrev sL_methods : Stmt := top 28
abbrev nL_methods : List Str := ["_law_found"]
theorem scL_methods : FnScope nL_methods [] (defScope sL_methods) := ⟨rfl, rfl, rfl, by decide +kernel, rfl, by decide +kernel, by decide +kernel⟩
theorem ok_methods (D : DefAt K mg "_law_methods" sL_methods []) : CalG P w K mg base 1 "_law_methods" (spNew (methods.map V.str)) := by
  refine D.by scL_methods (fun vs H Q E h => ?_) (fun f cd A hg outer s H vs Q E hr h => ?_)
  · obtain ⟨rfl, _⟩ := h
    rfl
  · obtain ⟨rfl, q⟩ := h
    refine ⟨_, (pss_cons (ps_set (i := 0) scL_methods.nd rfl (Or.inl rfl) (pe_lst (pa_cons pe_str (pa_cons pe_str (pa_cons pe_str (pa_cons pe_str (pa_cons pe_str (pa_cons pe_str (pa_cons pe_str (pa_cons pe_str (pa_cons pe_str (pa_cons pe_str (pa_cons pe_str pa_nil)))))))))))))
  (pss_one (ps_ret (pe_op op_cat (pv 0) (pe_lst (pa_cons pe_str (pa_cons pe_str (pa_cons pe_str pa_nil)))))))), ?_⟩
    repeat walk_at "rd"
    refine ⟨Rd.sz (by simp), fun p hp => ?_⟩
    repeat walk_at "rd"
    refine ⟨Rd.sz (by simp), fun p2 hp2 => ?_⟩
    refine Rd.cat ((Rd.sNew hp2) _ _ upd_same) upd_same (Rd.sz (by simp)) fun r hr => ?_
    exact q r _ (Same.free ((Rd.sNew hp).trans (Rd.sNew hp2)) hr) (((Rd.sNew hp).trans (Rd.sNew hp2)).trans (Rd.sNew hr)) upd_same
abbrev sL_operations : Stmt := top 31
abbrev nL_operations : List Str := []
theorem scL_operations : FnScope nL_operations [] (defScope sL_operations) := ⟨rfl, rfl, rfl, by decide +kernel, rfl, by decide +kernel, by decide +kernel⟩
theorem ok_operations (D : DefAt K mg "_law_operations" sL_operations []) : CalG P w K mg base 1 "_law_operations" (spNew (operations.map V.str)) := by
  refine D.by scL_operations (fun vs H Q E h => ?_) (fun f cd A hg outer s H vs Q E hr h => ?_)
  · obtain ⟨rfl, _⟩ := h
    rfl
  · obtain ⟨rfl, q⟩ := h
    refine ⟨_, (pss_one (ps_ret (pe_lst (pa_cons pe_str (pa_cons pe_str (pa_cons pe_str (pa_cons pe_str (pa_cons pe_str (pa_cons pe_str (pa_cons pe_str (pa_cons pe_str (pa_cons pe_str (pa_cons pe_str (pa_cons pe_str (pa_cons pe_str pa_nil))))))))))))))), ?_⟩
    repeat walk_at "rd"
    refine ⟨Rd.sz (by simp), fun p hp => ?_⟩
    exact q p _ hp (Rd.sNew hp) upd_same
end
end Ab
namespace Ab
open PySem.Spec PyProof.Rows
theorem one_ {n : Nat} (h : n + 64 < cLine) : n + 1 < cLine := by omega
theorem dnew {σ : L2.St} {H : Hp} {Q : VK} (k : ∀ p, H p = none → Q (.ref p) (upd H p (.dK []))) : tDNewK σ H Q := k
def valsL (t1 l1 d1 t0 : Addr) : List V := [.str "yes", .str "no", .int 0, .int 1, .int 2, .int 3, .int 4, .int 5, .int (-1), .bl true, .bl false, .str "wrong", .str "decline", .str "raise", .str "same", .str "other", .str "out",
  .str "walker", .str "got", .non, .str "", .ref t1, .ref l1, .ref d1, .str "Yes", .str "0", .int (10 ^ 20), .str "step", .str "raised", .ref t0, .str "yes "]
section
variable {P : Program} {w : World} {K : PySem.W.Frag} {mg : Str → Option Value} {base : Heap}
def spVals : Sp := fun vs H Q _ => vs = [] ∧ ∀ p t1 l1 d1 t0 H', H p = none → Same H H' → H' p = some (.lst (valsL t1 l1 d1 t0)) → H' t1 = some (.tup [.str "yes"]) → H' l1 = some (.lst [.int 0]) → H' d1 = some (.dK []) → H' t0 = some (.tup []) → Q (.ref p) H'
abbrev sL_values : Stmt := top 33
abbrev nL_values : List Str := ["_law_found"]
theorem scL_values : FnScope nL_values [] (defScope sL_values) := ⟨rfl, rfl, rfl, by decide +kernel, rfl, by decide +kernel, by decide +kernel⟩
theorem ok_values (D : DefAt K mg "_law_values" sL_values []) : CalG P w K mg base 1 "_law_values" spVals := by
  refine D.by scL_values (fun vs H Q E h => ?_) (fun f cd A hg outer s H vs Q E hr h => ?_)
  · obtain ⟨rfl, _⟩ := h
    rfl
  · obtain ⟨rfl, q⟩ := h
    refine ⟨_, (pss_cons (ps_set (i := 0) scL_values.nd rfl (Or.inl rfl) (pe_lst (pa_cons pe_str (pa_cons pe_str (pa_cons pe_int (pa_cons pe_int (pa_cons pe_int (pa_cons pe_int (pa_cons pe_int (pa_cons pe_int (pa_cons (pe_un un_neg pe_int) (pa_cons pe_bl (pa_cons pe_bl (pa_cons pe_str (pa_cons pe_str (pa_cons pe_str (pa_cons pe_str (pa_cons pe_str (pa_cons pe_str pa_nil)))))))))))))))))))
  (pss_one (ps_ret (pe_op op_cat (pv 0) (pe_lst (pa_cons pe_str (pa_cons pe_str (pa_cons pe_non (pa_cons pe_str (pa_cons (pe_tup (pa_cons pe_str pa_nil)) (pa_cons (pe_lst (pa_cons pe_int pa_nil)) (pa_cons pe_dnewK (pa_cons pe_str (pa_cons pe_str (pa_cons (pe_op op_pow pe_int pe_int) (pa_cons pe_str (pa_cons pe_str (pa_cons (pe_tup pa_nil) (pa_cons pe_str pa_nil))))))))))))))))))), ?_⟩
    repeat walk_at "rd"
    refine ⟨Rd.sz (by simp), fun p hp => ?_⟩
    repeat walk_at "rd"
    refine ⟨Rd.sz (by simp), fun t1 ht1 => ?_⟩
    repeat walk_at "rd"
    refine ⟨Rd.sz (by simp), fun l1 hl1 => ?_⟩
    repeat walk_at "rd"
    refine dnew fun d1 hd1 => ?_
    repeat walk_at "rd"
    refine ⟨Rd.sz (by simp), fun t0 ht0 => ?_⟩
    repeat walk_at "rd"
    refine ⟨Rd.sz (by simp), fun p2 hp2 => ?_⟩
    have s6 := Rd.sNew (o := .lst [.str "walker", .str "got", .non, .str "", .ref t1, .ref l1, .ref d1, .str "Yes", .str "0", .int (10 ^ 20), .str "step", .str "raised", .ref t0, .str "yes "]) hp2
    have s5 := (Rd.sNew (o := .tup []) ht0).trans s6
    have s4 := (Rd.sNew (o := .dK []) hd1).trans s5
    have s3 := (Rd.sNew (o := .lst [.int 0]) hl1).trans s4
    have s2 := (Rd.sNew (o := .tup [.str "yes"]) ht1).trans s3
    refine Rd.cat (s2 _ _ upd_same) upd_same (Rd.sz (by simp)) fun r hr => ?_
    have s7 := Rd.sNew (o := .lst (valsL t1 l1 d1 t0)) hr
    refine q r t1 l1 d1 t0 _ (Same.free ((Rd.sNew hp).trans s2) hr) (((Rd.sNew hp).trans s2).trans s7) upd_same ?_ ?_ ?_ ?_
    · exact (s3.trans s7) _ _ upd_same
    · exact (s4.trans s7) _ _ upd_same
    · exact (s5.trans s7) _ _ upd_same
    · exact (s6.trans s7) _ _ upd_same
end
end Ab
namespace Ab
open PySem.Spec PyProof.Rows
theorem disp {trs : List (TE × TE)} {σ : L2.St} {H : Hp} {Q : VK} (k : ∀ p, H p = none → tPairs trs σ (upd H p (.dK [])) fun ps H2 => H2 p = some (.dK []) ∧ ∃ kvs : List (Key × V), ps = kvs.map (fun kv => (kV kv.1, kv.2)) ∧ kvs.length ≤ 15 ∧ Q (.ref p) (upd H2 p (.dK (mergeK [] kvs)))) : tDisp trs σ H Q := k
theorem pcons {tk tv : TE} {r : List (TE × TE)} {σ : L2.St} {H : Hp} {Q : List (V × V) → Hp → Prop} (k : tk σ H fun x H1 => tv σ H1 fun y H2 => tPairs r σ H2 fun ps H3 => Q ((x, y) :: ps) H3) : tPairs ((tk, tv) :: r) σ H Q := k
theorem pnil {σ : L2.St} {H : Hp} {Q : List (V × V) → Hp → Prop} (k : Q [] H) : tPairs [] σ H Q := k
def kindPairs : List (Key × V) := [(.inr "truth", .int 0), (.inr "has", .int 0), (.inr "length", .int 2), (.inr "hash", .int 2), (.inr "item", .int 3), (.inr "step", .int 3), (.inr "walk", .int 4), (.inr "back", .int 4), (.inr "call", .int 5)]
def kinds0 : List (Key × V) := mergeK [] kindPairs
def kinds2 : List (Key × V) := putK (putK kinds0 (.inr "grow") (.int 6)) (.inr "plus") (.int 6)
theorem kN {H : Hp} {p q : Addr} {o u : HO} (h : H q = none) (k : H p = some u) : upd H q o p = some u := Rd.sNew h _ _ k
theorem kM {H : Hp} {p q : Addr} {o u : HO} (h : p ≠ q) (k : H p = some u) : upd H q o p = some u := by rw [upd_ne h]; exact k
theorem nf {H : Hp} {p q : Addr} (h : H q = none) (k : H p ≠ none) : p ≠ q := fun e => k (by rw [e, h])
theorem nS {H : Hp} {p : Addr} {o : HO} : upd H p o p ≠ none := by rw [upd_same]; exact fun h => nomatch h
theorem nK {H : Hp} {p q : Addr} {o : HO} (k : H p ≠ none) : upd H q o p ≠ none := by
  by_cases e : p = q
  · subst e; exact nS
  · rw [upd_ne e]; exact k
local macro_rules | `(tactic| walk_at "ks") => `(tactic| repeat (first | exact nS | refine nK ?_))
local macro_rules | `(tactic| walk_at "kp") => `(tactic| repeat (first | exact upd_same | assumption | refine kN (by assumption) ?_ | refine kM (by first | assumption | exact Ne.symm (by assumption)) ?_))
theorem gtup {K : PySem.W.Frag} {a : Addr} {xs : List V} {n : Nat} {t : TGs} {σ : L2.St} {H : Hp} {Q : L2.St → Hp → Prop} (h : SqT K H a xs) (l : xs.length = n) (k : t xs σ H Q) : gTup K n t (.ref a) σ H Q := ⟨a, xs, rfl, h, l, k⟩
theorem gc {t : TG} {u : TGs} {v : V} {r : List V} {σ : L2.St} {H : Hp} {Q : L2.St → Hp → Prop} (k : t v σ H fun σ' H' => u r σ' H' Q) : gCons t u (v :: r) σ H Q := ⟨v, r, rfl, k⟩
theorem dg2 {td ty tx : TE} {σ : L2.St} {H : Hp} {Q : VK} (k : td σ H fun x H1 => ∃ a, x = .ref a ∧ IsD H1 a ∧ ty σ H1 fun y H2 => tx σ H2 fun z H3 => ∃ o, DGet H3 a y o ∧ Q (o.getD z) H3) : tDGet2 td ty tx σ H Q := k
theorem gn {σ : L2.St} {H : Hp} {Q : L2.St → Hp → Prop} (k : Q σ H) : gNil [] σ H Q := ⟨rfl, k⟩
theorem setD {H : Hp} {a : Addr} {kvs : List (Key × V)} {s : Str} {v : V} {Q : Hp → Prop} (e : H a = some (.dK kvs)) (hl : kvs.length < sizeLine) (k : Q (upd H a (.dK (putK kvs (.inr s) v)))) : rSetD (.ref a) (.str s) v H Q := ⟨a, _, rfl, .inl ⟨kvs, .inr s, e, rfl, hl, rfl⟩, k⟩
theorem due_of : ∀ z ∈ methods ++ [("step" : Str)], ((valV kinds2 (.inr z)).getD (.int 1) = .int 0 ∧ outcomesV z = [.str "yes", .str "no", .str "wrong", .str "raise"]) ∨
    ((valV kinds2 (.inr z)).getD (.int 1) = .int 1 ∧ outcomesV z = [.str "yes", .str "no", .str "wrong", .str "decline", .str "raise"]) ∨
    ((valV kinds2 (.inr z)).getD (.int 1) = .int 2 ∧ outcomesV z = [.int 0, .int 1, .int 2, .int 3, .int 4, .str "wrong", .str "raise"]) ∨
    ((valV kinds2 (.inr z)).getD (.int 1) = .int 3 ∧ outcomesV z = [.str "same", .str "other", .str "out", .str "raise"]) ∨
    ((valV kinds2 (.inr z)).getD (.int 1) = .int 4 ∧ outcomesV z = [.str "walker", .str "wrong", .str "raise"]) ∨
    ((valV kinds2 (.inr z)).getD (.int 1) = .int 5 ∧ outcomesV z = [.str "got", .str "raise"]) ∨
    ((valV kinds2 (.inr z)).getD (.int 1) = .int 6 ∧ outcomesV z = [.str "got", .str "decline", .str "raise"]) := by decide +kernel
local macro_rules | `(tactic| walk_at "sm") => `(tactic| repeat (first | exact Same.refl _ | refine Rd.sMut ?_ (by assumption)))
section
variable {P : Program} {w : World} {K : PySem.W.Frag} {mg : Str → Option Value} {base : Heap}
def spDue : Sp := fun vs H Q _ => ∃ s, vs = [.str s] ∧ (s ∈ methods ∨ s = "step") ∧ ∀ p H', H p = none → Same H H' → H' p = some (.lst (outcomesV s)) → Q (.ref p) H'
abbrev sL_outcomes : Stmt := top 29
abbrev nL_outcomes : List Str := ["_law_word", "_law_kinds_here", "_law_some"]
theorem scL_outcomes : FnScope nL_outcomes ["_law_word"] (defScope sL_outcomes) := ⟨rfl, rfl, rfl, by decide +kernel, rfl, by decide +kernel, by decide +kernel⟩
theorem ok_due (D : DefAt K mg "_law_outcomes" sL_outcomes ["_law_word"]) : CalG P w K mg base 1 "_law_outcomes" spDue := by
  refine D.by scL_outcomes (fun vs H Q E h => ?_) (fun f cd A hg outer s H vs Q E hr h => ?_)
  · obtain ⟨s, rfl, _⟩ := h
    rfl
  · obtain ⟨z, rfl, hz, q⟩ := h
    refine ⟨_, (pss_cons (ps_set (i := 1) scL_outcomes.nd rfl (Or.inl rfl) (pe_disp (pps_cons pe_str pe_int (pps_cons pe_str pe_int (pps_cons pe_str pe_int (pps_cons pe_str pe_int (pps_cons pe_str pe_int (pps_cons pe_str pe_int (pps_cons pe_str pe_int (pps_cons pe_str pe_int (pps_cons pe_str pe_int pps_nil))))))))) (by rfl) (by rfl) (by simp) (by decide)))
  (pss_cons (ps_asg (pe_tup (pa_cons pe_int (pa_cons pe_int pa_nil))) (pg_tup (by rfl) (pgs_cons (pg_sub (pv 1) pe_str (set_dict (one_ hr.units))) (pgs_cons (pg_sub (pv 1) pe_str (set_dict (one_ hr.units))) pgs_nil))))
  (pss_cons (ps_set (i := 2) scL_outcomes.nd rfl (Or.inl rfl) (pe_lst (pa_cons (pe_lst (pa_cons pe_str (pa_cons pe_str (pa_cons pe_str (pa_cons pe_str pa_nil))))) (pa_cons (pe_lst (pa_cons pe_str (pa_cons pe_str (pa_cons pe_str (pa_cons pe_str (pa_cons pe_str pa_nil)))))) pa_nil))))
  (pss_cons (ps_expr (pe_bm PySem.F.plainAttrs_list PySem.F.slot_list_append PySem.F.type_list_append mt_append (pv 2) (pa_cons (pe_lst (pa_cons pe_int (pa_cons pe_int (pa_cons pe_int (pa_cons pe_int (pa_cons pe_int (pa_cons pe_str (pa_cons pe_str pa_nil)))))))) pa_nil)))
  (pss_cons (ps_set (i := 2) scL_outcomes.nd rfl (Or.inl rfl) (pe_op op_cat (pv 2) (pe_lst (pa_cons (pe_lst (pa_cons pe_str (pa_cons pe_str (pa_cons pe_str (pa_cons pe_str pa_nil))))) (pa_cons (pe_lst (pa_cons pe_str (pa_cons pe_str (pa_cons pe_str pa_nil)))) (pa_cons (pe_lst (pa_cons pe_str (pa_cons pe_str pa_nil))) pa_nil))))))
  (pss_cons (ps_expr (pe_bm PySem.F.plainAttrs_list PySem.F.slot_list_append PySem.F.type_list_append mt_append (pv 2) (pa_cons (pe_lst (pa_cons pe_str (pa_cons pe_str (pa_cons pe_str pa_nil)))) pa_nil)))
  (pss_one (ps_ret (pe_ix (r := rIxL K) ix_list (pv 2) (pe_dget2 (one_ hr.units) (pv 1) (pv 0) pe_int ⟨rfl, rfl, rfl, rfl⟩) (fun _ _ => rfl)))))))))), ?_⟩
    repeat walk_at "rd"
    refine disp fun p hp => ?_
    iterate 9 (refine pcons ?_; repeat walk_at "rd")
    refine pnil ?_
    refine ⟨upd_same, kindPairs, rfl, by decide, ?_⟩
    repeat walk_at "rd"
    refine ⟨Rd.sz (by simp), fun t ht => ?_⟩
    have zt : H t = none := Same.free (by walk_at "sm") ht
    refine gtup (SqT.of upd_same) rfl (gc ?_)
    repeat walk_at "rd"
    refine setD (by walk_at "kp") (by decide) (gc ?_)
    repeat walk_at "rd"
    refine setD (by walk_at "kp") (by decide) (gn ?_)
    repeat walk_at "rd"
    refine ⟨Rd.sz (by simp), fun a ha => ?_⟩
    have za : H a = none := Same.free (by walk_at "sm") ha
    repeat walk_at "rd"
    refine ⟨Rd.sz (by simp), fun b hb => ?_⟩
    have zb : H b = none := Same.free (by walk_at "sm") hb
    repeat walk_at "rd"
    refine ⟨Rd.sz (by simp), fun o ho => ?_⟩
    have zo : H o = none := Same.free (by walk_at "sm") ho
    have n1 : p ≠ o := nf ho (by walk_at "ks")
    have n2 : a ≠ o := nf ho (by walk_at "ks")
    have n3 : b ≠ o := nf ho (by walk_at "ks")
    repeat walk_at "rd"
    refine ⟨Rd.ty_list upd_same, ?_⟩
    repeat walk_at "rd"
    refine ⟨Rd.sz (by simp), fun c hc => ?_⟩
    have zc : H c = none := Same.free (by walk_at "sm") hc
    have n4 : o ≠ c := nf hc (by walk_at "ks")
    repeat walk_at "rd"
    refine Rd.app (by walk_at "kp") (Rd.szl (by simp)) ?_
    repeat walk_at "rd"
    refine ⟨Rd.sz (by simp), fun d hd => ?_⟩
    have zd : H d = none := Same.free (by walk_at "sm") hd
    repeat walk_at "rd"
    refine ⟨Rd.sz (by simp), fun e he => ?_⟩
    have ze : H e = none := Same.free (by walk_at "sm") he
    repeat walk_at "rd"
    refine ⟨Rd.sz (by simp), fun f1 hf1 => ?_⟩
    have zf1 : H f1 = none := Same.free (by walk_at "sm") hf1
    repeat walk_at "rd"
    refine ⟨Rd.sz (by simp), fun g hg1 => ?_⟩
    have zg : H g = none := Same.free (by walk_at "sm") hg1
    repeat walk_at "rd"
    refine Rd.cat (by walk_at "kp") upd_same (Rd.sz (by simp)) fun m hm => ?_
    have zm : H m = none := Same.free (by walk_at "sm") hm
    have m1 : p ≠ m := nf hm (by walk_at "ks")
    have m2 : a ≠ m := nf hm (by walk_at "ks")
    have m3 : b ≠ m := nf hm (by walk_at "ks")
    have m4 : c ≠ m := nf hm (by walk_at "ks")
    have m5 : d ≠ m := nf hm (by walk_at "ks")
    have m6 : e ≠ m := nf hm (by walk_at "ks")
    have m7 : f1 ≠ m := nf hm (by walk_at "ks")
    repeat walk_at "rd"
    refine ⟨Rd.ty_list upd_same, ?_⟩
    repeat walk_at "rd"
    refine ⟨Rd.sz (by simp), fun x hx => ?_⟩
    have zx : H x = none := Same.free (by walk_at "sm") hx
    have m8 : m ≠ x := nf hx (by walk_at "ks")
    repeat walk_at "rd"
    refine Rd.app (by walk_at "kp") (Rd.szl (by simp)) ?_
    repeat walk_at "rd"
    refine dg2 ?_
    repeat walk_at "rd"
    refine ⟨p, rfl, .inl ⟨kinds2, .inl (by walk_at "kp")⟩, ?_⟩
    repeat walk_at "rd"
    refine ⟨valV kinds2 (.inr z), .inl ⟨kinds2, .inr z, .inl (by walk_at "kp"), rfl, rfl⟩, ?_⟩
    have hz2 : z ∈ methods ++ [("step" : Str)] := by
      rw [List.mem_append, List.mem_singleton]; exact hz
    rcases due_of z hz2 with ⟨e0, e1⟩ | ⟨e0, e1⟩ | ⟨e0, e1⟩ | ⟨e0, e1⟩ | ⟨e0, e1⟩ | ⟨e0, e1⟩ | ⟨e0, e1⟩
    · rw [e0]
      rw [e1] at q
      refine Rd.ixL (SqL.of upd_same) (v := .ref a) rfl ?_
      exact q a _ za (by walk_at "sm") (by walk_at "kp")
    · rw [e0]
      rw [e1] at q
      refine Rd.ixL (SqL.of upd_same) (v := .ref b) rfl ?_
      exact q b _ zb (by walk_at "sm") (by walk_at "kp")
    · rw [e0]
      rw [e1] at q
      refine Rd.ixL (SqL.of upd_same) (v := .ref c) rfl ?_
      exact q c _ zc (by walk_at "sm") (by walk_at "kp")
    · rw [e0]
      rw [e1] at q
      refine Rd.ixL (SqL.of upd_same) (v := .ref d) rfl ?_
      exact q d _ zd (by walk_at "sm") (by walk_at "kp")
    · rw [e0]
      rw [e1] at q
      refine Rd.ixL (SqL.of upd_same) (v := .ref e) rfl ?_
      exact q e _ ze (by walk_at "sm") (by walk_at "kp")
    · rw [e0]
      rw [e1] at q
      refine Rd.ixL (SqL.of upd_same) (v := .ref f1) rfl ?_
      exact q f1 _ zf1 (by walk_at "sm") (by walk_at "kp")
    · rw [e0]
      rw [e1] at q
      refine Rd.ixL (SqL.of upd_same) (v := .ref x) rfl ?_
      exact q x _ zx (by walk_at "sm") (by walk_at "kp")
end
end Ab
namespace Ab
open PySem.Spec PyProof.Rows
local macro_rules | `(tactic| walk_at "kp") => `(tactic| repeat (first | exact upd_same | assumption | refine kN (by assumption) ?_ | refine kM (by first | assumption | exact Ne.symm (by assumption)) ?_))
local macro_rules | `(tactic| walk_at "ks") => `(tactic| repeat (first | exact nS | refine nK ?_))
abbrev rDictP (K : PySem.W.Frag) : List V → Hp → VK → Prop := fun xs H Q => ∃ (a : Addr) (ps : List Addr) (kvs : List (Key × V)), xs = [.ref a] ∧ SqL K H a (ps.map V.ref) ∧ Paired (fun p kv => SqT K H p [kV kv.1, kv.2]) ps kvs ∧ ∀ p, H p = none → Q (.ref p) (upd H p (.dK (mergeK [] kvs)))
theorem lcD {K : PySem.W.Frag} {tl te : TE} {tt : TT} {g : TG} {vs : List Nat} {σ : L2.St} {H : Hp} {Q : VK} (k : tl σ H fun x H1 => tLc (iList K (tC x)) g tt te vs σ H1 Q) : tLc (iList K tl) g tt te vs σ H Q := k
theorem forD {K : PySem.W.Frag} {tl : TE} {g : TG} {tb : TS} {D : Ends} {σ : L2.St} {H : Hp} (k : tl σ H fun x H1 => tFor (iList K (tC x)) g tb D σ H1) : tFor (iList K tl) g tb D σ H := k
def NF (H0 : Hp) : Key × V → V → Hp → Prop := fun c y H => ∃ p, y = .ref p ∧ H p = some (.tup [kV c.1, c.2])
theorem NF.stays (H0 : Hp) : Rd.Stays (NF H0) := fun _ _ _ _ s ⟨p, e, h⟩ => ⟨p, e, s _ _ h⟩
theorem nf_addrs {H0 H : Hp} : ∀ {cs : List (Key × V)} {ys : List V}, Paired (fun c y => NF H0 c y H) cs ys → ∃ ps : List Addr, ys = ps.map V.ref ∧ ∀ K, Paired (fun p kv => SqT K H p [kV kv.1, kv.2]) ps cs
  | _, _, .nil => ⟨[], rfl, fun _ => .nil⟩
  | _, _, .cons ⟨p, e, h⟩ t => by
    obtain ⟨ps, e2, k⟩ := nf_addrs t
    exact ⟨p :: ps, by rw [e, e2]; rfl, fun K => .cons (SqT.of h) (k K)⟩
theorem strs_pr : ∀ l : List Str, Paired (fun (s : Str) (x : V) => x = V.str s) l (l.map V.str)
  | [] => .nil
  | _ :: l => .cons rfl (strs_pr l)
def flagWords : List Str := ["truth", "has", "like", "unlike", "before", "behind"]
def anyWords : List Str := ["grow", "plus", "call"]
def flagPairs : List (Key × V) := flagWords.map fun s => (.inr s, .str "flag")
def kd5 : List (Key × V) := putK (putK (putK (putK (putK (mergeK [] flagPairs) (.inr "length") (.str "count")) (.inr "hash") (.str "count")) (.inr "item") (.str "item")) (.inr "walk") (.str "walker")) (.inr "back") (.str "walker")
def kdAt (i : Nat) : List (Key × V) := (anyWords.take i).foldl (fun k s => putK k (.inr s) (.str "any")) kd5
def kdAll : List (Key × V) := kdAt 3
section
variable {P : Program} {w : World} {K : PySem.W.Frag} {mg : Str → Option Value} {base : Heap}
def spKinds : Sp := fun vs H Q _ => vs = [] ∧ ∀ p H', H p = none → Same H H' → H' p = some (.dK kdAll) → Q (.ref p) H'
abbrev sL_kinds : Stmt := top 30
abbrev nL_kinds : List Str := ["_law_found", "_law_word"]
theorem scL_kinds : FnScope nL_kinds [] (defScope sL_kinds) := ⟨rfl, rfl, rfl, by decide +kernel, rfl, by decide +kernel, by decide +kernel⟩
theorem ok_kinds (T : Txt K mg) (D : DefAt K mg "_law_kinds" sL_kinds []) : CalG P w K mg base 1 "_law_kinds" spKinds := by
  refine D.by scL_kinds (fun vs H Q E h => ?_) (fun f cd A hg outer s H vs Q E hr h => ?_)
  · obtain ⟨rfl, _⟩ := h
    rfl
  · obtain ⟨rfl, q⟩ := h
    refine ⟨_, (pss_cons (ps_set (i := 0) scL_kinds.nd rfl (Or.inl rfl) (pe_callTy (r := rDictP K) (call_dictP (by rfl)) (by rfl) T.dict (by decide +kernel) (pa_cons (pe_lc (wi := iList K _) (own := [("_law_word", 1)]) (g := gName 1) (by rfl) scL_kinds.nd (pi_list (pe_lst (pa_cons pe_str (pa_cons pe_str (pa_cons pe_str (pa_cons pe_str (pa_cons pe_str (pa_cons pe_str pa_nil)))))))) (blkOk_by (N := nL_kinds) (sc := defScope sL_kinds) (by decide +kernel)) (fun _ _ _ _ _ => pg_name (i := 1) scL_kinds.nd rfl (Or.inl rfl)) (fun _ _ _ _ _ => pts_nil) (fun _ _ _ _ _ => (pe_tup (pa_cons (pv 1) (pa_cons pe_str pa_nil))))) pa_nil)))
  (pss_cons (ps_asg (pe_tup (pa_cons pe_str (pa_cons pe_str (pa_cons pe_str pa_nil)))) (pg_tup (by rfl) (pgs_cons (pg_sub (pv 0) pe_str (set_dict (one_ hr.units))) (pgs_cons (pg_sub (pv 0) pe_str (set_dict (one_ hr.units))) (pgs_cons (pg_sub (pv 0) pe_str (set_dict (one_ hr.units))) pgs_nil)))))
  (pss_cons (ps_asg (pe_tup (pa_cons pe_str (pa_cons pe_str pa_nil))) (pg_tup (by rfl) (pgs_cons (pg_sub (pv 0) pe_str (set_dict (one_ hr.units))) (pgs_cons (pg_sub (pv 0) pe_str (set_dict (one_ hr.units))) pgs_nil))))
  (pss_cons (ps_for (wi := iList K _) PassesOwn.never rfl (pi_list (pe_lst (pa_cons pe_str (pa_cons pe_str (pa_cons pe_str pa_nil))))) (pg_name (i := 1) scL_kinds.nd rfl (Or.inl rfl))
  (pss_one (ps_asg pe_str (pg_sub (pv 0) (pv 1) (set_dict (one_ hr.units))))))
  (pss_one (ps_ret (pv 0))))))), ?_⟩
    repeat walk_at "rd"
    refine lcD ?_
    repeat walk_at "rd"
    refine ⟨Rd.sz (by simp), fun a ha => ?_⟩
    refine Rd.lcL (K := K) (a := a) (xs := flagWords.map V.str) (bs := flagWords) (fun s x _ => x = V.str s) (NF H) (fun _ => true) (fun s => (.inr s, .str "flag")) (fun R k => k) (SqL.of upd_same) (fun _ _ _ _ _ h => h) (NF.stays H)
      (strs_pr flagWords) (by decide) (fun _ => rfl) (fun b x H2 R _ _ _ s2 k => Rd.yes (k H2 (Same.refl _))) ?_ ?_
    · rintro s1 x H2 R _ _ _ rfl s2 k
      repeat walk_at "rd"
      refine ⟨Rd.sz (by simp), fun p hp => ?_⟩
      refine k _ _ (Rd.sNew hp) fun D o hD hd => ⟨p, rfl, ?_⟩
      rw [upd_ne (nf hp hd).symm]
      exact upd_same
    · intro D ys H2 hD s2 hd pr
      rw [List.filter_eq_self.mpr (by simp)] at pr
      obtain ⟨ps, rfl, pk⟩ := nf_addrs pr
      repeat walk_at "rd"
      refine ⟨D, ps, flagPairs, rfl, SqL.of hd, pk K, fun p hp => ?_⟩
      repeat walk_at "rd"
      have zp : H p = none := Same.free ((Rd.sNew ha).trans s2) hp
      refine ⟨Rd.sz (by simp), fun t ht => ?_⟩
      have sH : Same H H2 := (Rd.sNew ha).trans s2
      have zt : H t = none := Same.free (Rd.sMut sH zp) ht
      refine gtup (SqT.of upd_same) rfl (gc ?_)
      repeat walk_at "rd"
      refine setD (by walk_at "kp") (by decide) (gc ?_)
      repeat walk_at "rd"
      refine setD (by walk_at "kp") (by decide) (gc ?_)
      repeat walk_at "rd"
      refine setD (by walk_at "kp") (by decide) (gn ?_)
      repeat walk_at "rd"
      refine ⟨Rd.sz (by simp), fun u hu => ?_⟩
      have zu : H u = none := Same.free (by repeat (first | exact sH | refine Rd.sMut ?_ (by assumption))) hu
      refine gtup (SqT.of upd_same) rfl (gc ?_)
      repeat walk_at "rd"
      refine setD (by walk_at "kp") (by decide) (gc ?_)
      repeat walk_at "rd"
      refine setD (by walk_at "kp") (by decide) (gn ?_)
      repeat walk_at "rd"
      refine forD ?_
      repeat walk_at "rd"
      refine ⟨Rd.sz (by simp), fun l hl => ?_⟩
      have npl : p ≠ l := nf hl (by walk_at "ks")
      refine ⟨l, rfl, ⟨_, SqL.of upd_same⟩, ?_⟩
      refine for_list (K := K) (a := l) (xs := anyWords.map V.str) (fun i σ' H' => ∃ wv, σ' = [some (.ref p), wv] ∧ H' p = some (.dK (kdAt i)) ∧ H' l = some (.lst (anyWords.map V.str)) ∧ Same H H') ?_ ?_ ?_ ?_
      · exact ⟨_, rfl, by walk_at "kp", upd_same, by repeat (first | exact sH | refine Rd.sMut ?_ (by first | assumption | exact Same.free (by repeat (first | exact sH | refine Rd.sMut ?_ (by assumption))) hl))⟩
      · rintro i σ' H' _ ⟨wv, rfl, h1, h2, _⟩
        exact SqL.of h2
      · rintro i x σ' H' hx ⟨wv, rfl, h1, h2, s3⟩
        have hi : i < 3 := (List.getElem?_eq_some_iff.mp hx).1
        rcases (by omega : i = 0 ∨ i = 1 ∨ i = 2) with rfl | rfl | rfl
        all_goals
          cases hx
          repeat walk_at "rd"
          refine setD h1 (by decide) ?_
          repeat walk_at "rd"
          exact ⟨_, rfl, by rw [upd_same]; rfl, by rw [upd_ne npl.symm]; exact h2, Rd.sMut s3 zp⟩
      · rintro σ' H' ⟨wv, rfl, h1, h2, s3⟩
        repeat walk_at "rd"
        exact q p _ zp s3 h1
end
end Ab
namespace Ab
open PySem.Spec PyProof.Rows
def dat : V → PyData
  | .bl b => .bool b
  | .int i => .int i
  | .str s => .str s
  | _ => .none
def vtxt (v : V) : Str := (dat v).shown
def words : List Str := methods ++ [("step" : Str)]
def ValOk (K : PySem.W.Frag) (H : Hp) (x : V) : Prop := ∃ (tn : String) (txt : Str), Kd K H x tn ∧ Shows K x H txt ∧ ∀ s ∈ words, isOut s x = decide (txt ∈ (outcomesV s).map vtxt)
def chk (d : PyData) : Bool := d.showable && !d.hasDict && decide (d.depth ≤ 60) && decide (d.shown.length ≤ 1000)
theorem shows_of {K : PySem.W.Frag} {H : Hp} {x : V} {d : PyData} (dp : ∀ H', Same H H' → Dp K H' x d) (hc : chk d = true) : Shows K x H d.shown := by
  simp only [chk, Bool.and_eq_true, decide_eq_true_eq, Bool.not_eq_true'] at hc
  obtain ⟨⟨⟨h1, h2⟩, h3⟩, h4⟩ := hc
  exact fun H' s Q k => .inl (Rd.repr_ (dp H' s) h1 h2 h3 (Rd.sz (by omega)) k)
theorem val1 {K : PySem.W.Frag} {H : Hp} {x : V} {tn : String} (k : Kd K H x tn) (d : PyData) (dp : ∀ H', Same H H' → Dp K H' x d) (hc : chk d = true) (ho : words.all (fun s => isOut s x == decide (d.shown ∈ (outcomesV s).map vtxt)) = true) : ValOk K H x :=
  ⟨tn, d.shown, k, shows_of dp hc, fun s hs => by simpa using List.all_eq_true.mp ho s hs⟩
theorem val0 {K : PySem.W.Frag} {H : Hp} {p : Addr} {tn : String} {txt : Str} (k : Kd K H (.ref p) tn) (sh : Shows K (.ref p) H txt) (ho : words.all (fun s => !decide (txt ∈ (outcomesV s).map vtxt)) = true) : ValOk K H (.ref p) :=
  ⟨tn, txt, k, sh, fun s hs => by
    have := List.all_eq_true.mp ho s hs
    have e : isOut s (.ref p) = false := rfl
    rw [e]
    cases h : decide (txt ∈ (outcomesV s).map vtxt)
    · rfl
    · rw [h] at this; cases this⟩
section
variable {K : PySem.W.Frag} {H : Hp}
theorem kd_int (i : Int) : Kd K H (.int i) "int" := ⟨.base (.int i), rfl, rfl, rfl⟩
theorem kd_bl (b : Bool) : Kd K H (.bl b) "bool" := ⟨.base (.bl b), rfl, rfl, rfl⟩
theorem kd_non : Kd K H .non "NoneType" := ⟨.base .non, rfl, rfl, rfl⟩
theorem kd_lst {p : Addr} {xs : List V} (h : H p = some (.lst xs)) : Kd K H (.ref p) "list" := ⟨.base (.lst h), rfl, rfl, rfl⟩
theorem kd_tup {p : Addr} {xs : List V} (h : H p = some (.tup xs)) : Kd K H (.ref p) "tuple" := ⟨.base (.tup h), rfl, rfl, rfl⟩
theorem kd_dK {p : Addr} {xs : List (Key × V)} (h : H p = some (.dK xs)) : Kd K H (.ref p) "dict" := ⟨.base (.dK h), rfl, rfl, rfl⟩
end
end Ab
namespace Ab
open PySem.Spec PyProof.Rows
section
variable {K : PySem.W.Frag} {H : Hp}
theorem vals_ok {t1 l1 d1 t0 : Addr} (h1 : H t1 = some (.tup [.str "yes"])) (h2 : H l1 = some (.lst [.int 0])) (h3 : H d1 = some (.dK [])) (h4 : H t0 = some (.tup [])) : ∀ x ∈ valsL t1 l1 d1 t0, ValOk K H x := by
  have S : ∀ s : Str, chk (.str s) = true → words.all (fun z => isOut z (.str s) == decide ((PyData.str s).shown ∈ (outcomesV z).map vtxt)) = true → ValOk K H (.str s) := fun s a b => val1 (kd_str s) (.str s) (fun _ _ => .str s) a b
  have I : ∀ s : Int, chk (.int s) = true → words.all (fun z => isOut z (.int s) == decide ((PyData.int s).shown ∈ (outcomesV z).map vtxt)) = true → ValOk K H (.int s) := fun s a b => val1 (kd_int s) (.int s) (fun _ _ => .int s) a b
  have B : ∀ s : Bool, chk (.bool s) = true → words.all (fun z => isOut z (.bl s) == decide ((PyData.bool s).shown ∈ (outcomesV z).map vtxt)) = true → ValOk K H (.bl s) := fun s a b => val1 (kd_bl s) (.bool s) (fun _ _ => .bl s) a b
  intro x hx
  simp only [valsL, List.mem_cons, List.not_mem_nil, or_false] at hx
  rcases hx with rfl | rfl | rfl | rfl | rfl | rfl | rfl | rfl | rfl | rfl | rfl | rfl | rfl | rfl | rfl | rfl | rfl | rfl | rfl | rfl | rfl | rfl | rfl | rfl | rfl | rfl | rfl | rfl | rfl | rfl | rfl
  all_goals first
    | exact S _ (by decide +kernel) (by decide +kernel)
    | exact I _ (by decide +kernel) (by decide +kernel)
    | exact B _ (by decide +kernel) (by decide +kernel)
    | exact val1 kd_non .none (fun _ _ => .non) (by decide +kernel) (by decide +kernel)
    | exact val0 (kd_tup h1) (shows_of (d := .tuple [.str "yes"]) (fun H' s => .tup (SqT.of (s _ _ h1)) (.cons (.str _) .nil)) (by decide +kernel)) (by decide +kernel)
    | exact val0 (kd_lst h2) (shows_of (d := .list [.int 0]) (fun H' s => .lst (SqL.of (s _ _ h2)) (.cons (.int _) .nil)) (by decide +kernel)) (by decide +kernel)
    | exact val0 (kd_tup h4) (shows_of (d := .tuple []) (fun H' s => .tup (SqT.of (s _ _ h4)) .nil) (by decide +kernel)) (by decide +kernel)
    | exact val0 (txt := "{}") (kd_dK h3) (fun H' s Q k => .inr ⟨_, rfl, s _ _ h3, k⟩) (by decide +kernel)
end
end Ab
namespace Ab
open PySem.Spec PyProof.Rows
theorem outs_data : words.all (fun s => (outcomesV s).all (fun v => isStr v || isNum v) && SeqAt.shaped (.tuple ((outcomesV s).map dat)) && PyData.eqv (.tuple ((outcomesV s).map dat)) (.tuple ((outcomesV s).map dat)) &&
    (outcomesV s).all (fun v => chk (dat v)) && decide ((outcomesV s).length ≤ 10)) = true := by decide +kernel
theorem dp_dat {K : PySem.W.Frag} {H : Hp} {v : V} (h : (isStr v || isNum v) = true) : Dp K H v (dat v) := by
  cases v <;> first | exact .str _ | exact .int _ | cases h
theorem dp_dats {K : PySem.W.Frag} {H : Hp} : ∀ {l : List V}, l.all (fun v => isStr v || isNum v) = true → DpAll K H l (l.map dat)
  | [], _ => .nil
  | v :: l, h => by
    rw [List.all_cons, Bool.and_eq_true] at h
    exact .cons (dp_dat h.1) (dp_dats h.2)
theorem self_pr : ∀ l : List V, Paired (fun (s : V) (x : V) => x = s) l l
  | [] => .nil
  | _ :: l => .cons rfl (self_pr l)
theorem callS0 {sp : Sp} {E : XK} {σ : L2.St} {H : Hp} {Q : VK} (k : sp [] H Q E) : tCall sp [] E tNil σ H Q := k
theorem inL {K : PySem.W.Frag} {H : Hp} {x : V} {p : Addr} {xs : List V} {Q : VK} {neg : Bool} (h : SqL K H p xs) (hx : flatV x = true) (ha : xs.all flatV = true) (k : Q (.bl (if neg then !inV x xs else inV x xs)) H) : rIn K neg x (.ref p) H Q := ⟨p, xs, rfl, .inl h, hx, ha, k⟩
section
variable {P : Program} {w : World} {K : PySem.W.Frag} {mg : Str → Option Value} {base : Heap}
def spRight : Sp := fun vs H Q _ => ∃ s, vs = [.str s] ∧ s ∈ words ∧ ∀ H', Same H H' → Q (.bl true) H'
abbrev sL_word_right : Stmt := top 34
abbrev nL_word_right : List Str := ["_law_word", "_law_due", "_law_value", "_law_is_one", "_law_one_here"]
theorem scL_word_right : FnScope nL_word_right ["_law_word"] (defScope sL_word_right) := ⟨rfl, rfl, rfl, by decide +kernel, rfl, by decide +kernel, by decide +kernel⟩
theorem ok_right (T : Txt K mg) {C : Addr} (D : DefAt K mg "_law_word_right" sL_word_right ["_law_word"]) (CL_outcomes : CalG P w K mg base 1 "_law_outcomes" spDue) (CL_values : CalG P w K mg base 1 "_law_values" spVals)
    (COutcomes_of : Ex.CalX P w K mg base 5 "outcomes_of" (spOuts K C)) (CIs_outcome : Ex.CalX P w K mg base 6 "is_outcome" (spIsOut K C)) : CalG P w K mg base 7 "_law_word_right" spRight := by
  refine D.by scL_word_right (fun vs H Q E h => ?_) (fun f cd A hg outer s H vs Q E hr h => ?_)
  · obtain ⟨s, rfl, _⟩ := h
    rfl
  · obtain ⟨z, rfl, hz, q⟩ := h
    refine ⟨_, (pss_cons (ps_set (i := 1) scL_word_right.nd rfl (Or.inl rfl) (pe_cG CL_outcomes hg hr (by decide) (pa_cons (pv 0) pa_nil)))
  (pss_cons (ps_if (PW.pt (pw_or (pt_cmpR (r := rNeD K) (op_neD hr.units) (Ex.pe_x0 COutcomes_of hg hr (by decide) (pa_cons (pv 0) pa_nil)) (pe_callTy call_tuple_of (by rfl) T.tuple (by decide +kernel) (pa_cons (pv 1) pa_nil)) (nomark _)) (pw_or1 (pt_not (pt_val (pe_callB (r := rIsi K) call_isi (by rfl) T.isinstance (by decide +kernel) (pa_cons (Ex.pe_x0 COutcomes_of hg hr (by decide) (pa_cons (pv 0) pa_nil)) (pa_cons (pe_bltn (v := .ty "tuple") (by rfl) T.tuple (by decide +kernel) rfl) pa_nil))))))))
  (pss_one (ps_ret pe_bl))
  pss_nil)
  (pss_cons (ps_for (wi := iList K _) PassesOwn.never rfl (pi_list (pe_cG0 CL_values hg hr (by decide))) (pg_name (i := 2) scL_word_right.nd rfl (Or.inl rfl))
  (pss_cons (ps_set (i := 3) scL_word_right.nd rfl (Or.inl rfl) (pe_cmpR (r := rIn K false) op_in_seq (pe_callB (r := rReprX K) (call_reprX hg hr.units) (by rfl) T.repr (by decide +kernel) (pa_cons (pv 2) pa_nil)) (pe_lc (wi := iList K _) (own := [("_law_one_here", 4)]) (g := gName 4) (by rfl) scL_word_right.nd (pi_list (pv 1)) (blkOk_by (N := nL_word_right) (sc := defScope sL_word_right) (by decide +kernel)) (fun _ _ _ _ _ => pg_name (i := 4) scL_word_right.nd rfl (Or.inl rfl)) (fun _ _ _ _ _ => pts_nil) (fun _ _ _ _ _ => (pe_callB (r := rReprX K) (call_reprX hg hr.units) (by rfl) T.repr (by decide +kernel) (pa_cons (pv 4) pa_nil)))) (by rfl)))
  (pss_one (ps_if (pt_cmpR op_ne (pe_callB (r := rReprX K) (call_reprX hg hr.units) (by rfl) T.repr (by decide +kernel) (pa_cons (Ex.pe_x0 CIs_outcome hg hr (by decide) (pa_cons (pv 0) (pa_cons (pv 2) pa_nil))) pa_nil)) (pe_callB (r := rReprX K) (call_reprX hg hr.units) (by rfl) T.repr (by decide +kernel) (pa_cons (pv 3) pa_nil)) (nomark _))
  (pss_one (ps_ret pe_bl))
  pss_nil))))
  (pss_one (ps_ret pe_bl))))), ?_⟩
    have hz2 : z ∈ methods ∨ z = "step" := by
      have := hz
      rw [words, List.mem_append, List.mem_singleton] at this
      exact this
    have no : isIn (.str z) methods = false → isIn (.str z) ["step"] = false → False := fun c d => by
      have := step_in rfl hz2
      rw [c, d] at this
      cases this
    have hd := List.all_eq_true.mp outs_data z hz
    simp only [Bool.and_eq_true, decide_eq_true_eq] at hd
    obtain ⟨⟨⟨⟨o1, o2⟩, o3⟩, o4⟩, o5⟩ := hd
    repeat walk_at "rd"
    refine ⟨z, rfl, hz2, fun du H1 hdu s1 e1 => ?_⟩
    repeat walk_at "rd"
    refine ⟨_, _, rfl, kd_str z, fun z' ez hz' a H2 ha s2 e2 => ?_, fun c d => (no c d).elim⟩
    cases ez
    repeat walk_at "rd"
    refine ⟨du, _, rfl, .inl ⟨SqL.of (s2 _ _ e1), fun tp htp => ?_⟩⟩
    refine Rd.neD (.tup (SqT.of (Rd.sNew htp _ _ e2)) (dp_dats o1)) (.tup (SqT.of upd_same) (dp_dats o1)) o2 o2 ?_
    rw [o3]
    have st := Rd.sNew (o := .tup (outcomesV z)) htp
    refine ⟨_, rfl, ?_⟩
    refine Rd.bool (fun c => by cases c) (fun _ => ?_)
    repeat walk_at "rd"
    refine ⟨_, _, rfl, kd_str z, fun z' ez _ a2 H4 ha2 s4 e4 => ?_, fun c d => (no c d).elim⟩
    cases ez
    repeat walk_at "rd"
    refine isi (kd_tup e4).ty (show kitB "tuple" "tuple" = some true by decide +kernel) ?_
    repeat walk_at "rd"
    refine ⟨rfl, fun lv t1 l1 d1 t0 H5 hlv s5 e5 et1 el1 ed1 et0 => ?_⟩
    refine ⟨lv, rfl, ⟨_, SqL.of e5⟩, ?_⟩
    have sA : Same H H5 := s1.trans (s2.trans (st.trans (s4.trans s5)))
    have vo := vals_ok (K := K) et1 el1 ed1 et0
    have edu : H5 du = some (.lst (outcomesV z)) := s5 _ _ (s4 _ _ (st _ _ (s2 _ _ e1)))
    refine for_list (K := K) (a := lv) (xs := valsL t1 l1 d1 t0) (fun i σ' H' => ∃ w1 w2 w3, σ' = [some (.str z), some (.ref du), w1, w2, w3] ∧ Same H5 H') ?_ ?_ ?_ ?_
    · exact ⟨_, _, _, rfl, Same.refl _⟩
    · rintro i σ' H' _ ⟨w1, w2, w3, rfl, s6⟩
      exact SqL.of (s6 _ _ e5)
    · rintro i x σ' H' hx ⟨w1, w2, w3, rfl, s6⟩
      obtain ⟨tn, txt, kx, shx, ho⟩ := vo x (List.mem_of_getElem? hx)
      repeat walk_at "rd"
      refine shx H' s6 _ ?_
      repeat walk_at "rd"
      refine Rd.lcL (K := K) (a := du) (xs := outcomesV z) (bs := outcomesV z) (fun b x _ => x = b) (fun (t : Str) y _ => y = .str t) (fun _ => true) vtxt (fun R k => Rd.var rfl k) (SqL.of (s6 _ _ edu)) (fun _ _ _ _ _ h => h) (fun _ _ _ _ _ h => h)
        (self_pr _) (by omega) (fun _ => rfl) (fun b x H2 R _ _ _ s2 k => Rd.yes (k H2 (Same.refl _))) ?_ ?_
      · rintro v y H7 R hv _ _ rfl s7 k
        repeat walk_at "rd"
        have hs := List.all_eq_true.mp o1 y hv
        refine shows_of (H := H7) (fun H' s => dp_dat hs) (List.all_eq_true.mp o4 y hv) H7 (Same.refl _) _ ?_
        repeat walk_at "rd"
        exact k _ _ (Same.refl _) (Rd.off_any (B := fun y' => y' = V.str (vtxt y)) rfl)
      · intro D ys H7 hD s7 hd pq
        rw [List.filter_eq_self.mpr (by simp)] at pq
        have e := Rd.pair_map pq
        subst e
        refine inL (SqL.of hd) rfl (flat_map _) ?_
        rw [if_neg Bool.false_ne_true, inV_str]
        repeat walk_at "rd"
        refine ⟨_, _, _, _, rfl, kd_str z, kx.mono (s6.trans s7), fun z' ez _ H8 s8 => ?_, fun c d => (no c d).elim⟩
        cases ez
        repeat walk_at "rd"
        have B : ∀ (b : Bool) (H9 : Hp) (Q : VK), Q (.str (PyData.bool b).shown) H9 → rReprX K [.bl b] H9 Q := fun b H9 Q k => .inl (Rd.repr_ (.bl b) (by cases b <;> decide +kernel) (by cases b <;> decide +kernel) (by cases b <;> decide +kernel) (by cases b <;> exact Rd.sz (by decide +kernel)) k)
        refine B _ _ _ ?_
        repeat walk_at "rd"
        refine B _ _ _ ?_
        repeat walk_at "rd"
        rw [ho z hz]
        refine Rd.ndec (fun c => (c rfl).elim) (fun _ => ?_)
        repeat walk_at "rd"
        exact ⟨_, _, _, rfl, s6.trans (s7.trans s8)⟩
    · rintro σ' H' ⟨w1, w2, w3, rfl, s6⟩
      repeat walk_at "rd"
      exact q _ (sA.trans s6)
end
end Ab
namespace Gk
open PySem.Spec PyProof.Rows
def rMulS : R2 := fun x y H Q => ∃ (s : Str) (b : Int), x = .str s ∧ y = .int b ∧ (b = 0 ∨ b = 1) ∧ Q (.str (if b = 0 then Str.empty else s)) H
theorem op_mulS {X : Cx} : OpR X (binaryOp .Mult) rMulS := by
  intro pins s σ H x y v u Q I rx ry h
  obtain ⟨i, b, rfl, rfl, hb, q⟩ := h
  obtain ⟨t, rfl⟩ := rx
  obtain ⟨t', rfl⟩ := ry
  rcases hb with rfl | rfl
  · exact PySem.P.mul_str_none (by decide) (by decide) ⟨.str Str.empty, H, I.tok _, ⟨_, rfl⟩, q⟩
  · refine PySem.P.mul_str (by decide) (fun _ c => by simp at c) (fun _ c => by simp at c) ?_
    rw [if_neg (by decide), if_pos (by simp)]
    exact ⟨.str i, H, I, ⟨_, rfl⟩, q⟩
theorem mulS {s : Str} {b : Int} {H : Hp} {Q : VK} (hb : b = 0 ∨ b = 1) (k : Q (.str (if b = 0 then Str.empty else s)) H) : rMulS (.str s) (.int b) H Q := ⟨s, b, rfl, rfl, hb, k⟩
end Gk
namespace Ab
open W6 PySem.Spec PyProof.Rows
def Keep (p : Addr) (H H' : Hp) : Prop := ∀ b o, b ≠ p → H b = some o → H' b = some o
theorem Keep.same {p : Addr} {H H1 : Hp} (s : Same H H1) : Keep p H H1 := fun b u _ e => s b u e
theorem Keep.put {p : Addr} {H H1 : Hp} {o : HO} (a : Keep p H H1) : Keep p H (upd H1 p o) := fun b u n e => by rw [upd_ne n]; exact a b u n e
theorem Keep.new {p q : Addr} {H H1 : Hp} {o : HO} (a : Keep p H H1) (hq : H1 q = none) : Keep p H (upd H1 q o) := fun b u n e => by rw [upd_ne (nf hq (by rw [a b u n e]; exact fun h => nomatch h))]; exact a b u n e
theorem words_w : ∀ w ∈ methods ++ operations, W 10 w := by
  have h : ∀ w ∈ methods ++ operations, w.length ≤ 10 ∧ ∀ c ∈ TL.tl w, c < 1000 := by decide +kernel
  exact fun w hw => ⟨(h w hw).1, (h w hw).2⟩
theorem w_az : W 26 "abcdefghijklmnopqrstuvwxyz" := ⟨by decide +kernel, by decide +kernel⟩
theorem w_opt {c : Prop} [Decidable c] {z : Str} (h : W 1 z) : W 1 (if c then Str.empty else z) := by
  by_cases e : c
  · rw [if_pos e]; exact ⟨by decide, by decide⟩
  · rw [if_neg e]; exact h
section
variable {P : Program} {w : World} {K : PySem.W.Frag} {mg : Str → Option Value} {base : Heap}
def spOdd : Sp := fun vs H Q _ => ∃ (p : Addr) (x y : Int), vs = [.ref p] ∧ H p = some (.lst [.int x, .int y]) ∧ PoolOk x y ∧ ∀ z H', W 30 z → Keep p H H' → Q (.str z) H'
abbrev sL_odd : Stmt := top 35
abbrev nL_odd : List Str := ["_law_pool_here", "_law_word", "_law_at", "_law_way", "_law_sign"]
theorem scL_odd : FnScope nL_odd ["_law_pool_here"] (defScope sL_odd) := ⟨rfl, rfl, rfl, by decide +kernel, rfl, by decide +kernel, by decide +kernel⟩
theorem ok_odd (T : Txt K mg) (D : DefAt K mg "_law_odd" sL_odd ["_law_pool_here"]) (CL_methods : CalG P w K mg base 1 "_law_methods" (spNew (methods.map V.str))) (CL_operations : CalG P w K mg base 1 "_law_operations" (spNew (operations.map V.str)))
    (CL_take : CalG P w K mg base 1 "_law_take" spTake) (CL_one : CalG P w K mg base 2 "_law_one" (spOne K)) : CalG P w K mg base 3 "_law_odd" spOdd := by
  refine D.by scL_odd (fun vs H Q E h => ?_) (fun f cd A hg outer s H vs Q E hr h => ?_)
  · obtain ⟨p, x, y, rfl, _⟩ := h
    rfl
  · obtain ⟨p, x, y, rfl, hp, ok, q⟩ := h
    refine ⟨_, (pss_cons (ps_set (i := 1) scL_odd.nd rfl (Or.inl rfl) (pe_cG CL_one hg hr (by decide) (pa_cons (pv 0) (pa_cons (pe_op op_cat (pe_cG0 CL_methods hg hr (by decide)) (pe_cG0 CL_operations hg hr (by decide))) pa_nil))))
  (pss_cons (ps_set (i := 2) scL_odd.nd rfl (Or.inl rfl) (pe_cG CL_take hg hr (by decide) (pa_cons (pv 0) (pa_cons (pe_op op_add (pe_callB call_len_str (by rfl) T.len PySem.boot_len (pa_cons (pv 1) pa_nil)) pe_int) pa_nil))))
  (pss_cons (ps_set (i := 3) scL_odd.nd rfl (Or.inl rfl) (pe_cG CL_take hg hr (by decide) (pa_cons (pv 0) (pa_cons pe_int pa_nil))))
  (pss_cons (ps_set (i := 4) scL_odd.nd rfl (Or.inl rfl) (pe_ix (r := rIxS) ix_str pe_str (pe_cG CL_take hg hr (by decide) (pa_cons (pv 0) (pa_cons pe_int pa_nil))) (fun _ _ => rfl)))
  (pss_one (ps_ret (pe_op op_add_str (pe_op op_add_str (pe_slice (r := rSlS) sl_str (pv 1) po_none (po_some (pv 2))) (pe_op op_mulS (pv 4) (pe_callTy call_int1 (by rfl) T.int (by decide +kernel) (pa_cons (pe_cmpR op_lt (pv 3) pe_int (nomark _)) pa_nil)))) (pe_slice (r := rSlS) sl_str (pv 1) (po_some (pe_op op_add (pv 2) (pe_callTy call_int1 (by rfl) T.int (by decide +kernel) (pa_cons (pe_cmpR op_gt (pv 3) pe_int (nomark _)) pa_nil)))) po_none)))))))), ?_⟩
    repeat walk_at "rd"
    refine ⟨rfl, fun m1 H1 hm1 s1 e1 => ?_⟩
    repeat walk_at "rd"
    refine ⟨rfl, fun m2 H2 hm2 s2 e2 => ?_⟩
    repeat walk_at "rd"
    refine Rd.cat (s2 _ _ e1) e2 (Rd.sz (by decide +kernel)) fun l hl => ?_
    repeat walk_at "rd"
    have npl : p ≠ l := nf hl (by rw [s2 _ _ (s1 _ _ hp)]; exact fun h => nomatch h)
    have hp2 : upd H2 l (.lst (methods.map V.str ++ operations.map V.str)) p = some (.lst [.int x, .int y]) := by rw [upd_ne npl]; exact s2 _ _ (s1 _ _ hp)
    refine ⟨p, l, x, y, _, rfl, hp2, SqL.of upd_same, fun o => SqL.of (by rw [upd_ne npl.symm]; exact upd_same), ok, by decide +kernel, by decide +kernel, fun v x1 y1 hv ok1 => ?_⟩
    rw [← List.map_append, List.mem_map] at hv
    obtain ⟨wd, hwd, rfl⟩ := hv
    have w0 := words_w wd hwd
    have l0 := w0.len
    repeat walk_at "rd"
    refine Rd.lenS (Rd.sz (by omega)) ?_
    repeat walk_at "rd"
    refine ⟨p, x1, y1, _, rfl, upd_same, ok1, by omega, by omega, fun a x2 y2 ok2 a0 a1 => ?_⟩
    repeat walk_at "rd"
    refine ⟨p, x2, y2, _, rfl, upd_same, ok2, by decide, by decide, fun b x3 y3 ok3 b0 b1 => ?_⟩
    repeat walk_at "rd"
    refine ⟨p, x3, y3, _, rfl, upd_same, ok3, by decide, by decide, fun c x4 y4 ok4 c0 c1 => ?_⟩
    obtain ⟨sg, hsg, w2⟩ := w_az.sign (i := c) c0 (by have e : Str.length "abcdefghijklmnopqrstuvwxyz" = 26 := by decide +kernel
                                                      rw [e]; exact c1)
    refine Rd.ixS (by decide +kernel) hsg ?_
    repeat walk_at "rd"
    refine Rd.slS (Rd.sz (by omega)) ?_
    repeat walk_at "rd"
    refine Gk.mulS (by split <;> simp) ?_
    have w1 := w0.cut none (some a)
    have w3 : W 1 (if (if decide (b < 2) = true then (1 : Int) else 0) = 0 then Str.empty else (⟨#[sg]⟩ : Str)) := w_opt w2
    have w4 := w1.app w3
    refine Rd.adds (by have := w1.len; have := w3.len; omega) ?_
    repeat walk_at "rd"
    refine Rd.slS (Rd.sz (by omega)) ?_
    have w5 := w0.cut (some (a + (if decide (0 < b) = true then (1 : Int) else 0))) none
    repeat walk_at "rd"
    refine Rd.adds (by have := w4.len; have := w5.len; omega) ?_
    have w6 := (w4.app w5).mono (m := 30) (by decide)
    repeat walk_at "rd"
    refine q _ _ w6 ?_
    exact ((((Keep.same (s1.trans s2)).new hl).put).put).put.put
end
end Ab
namespace PySem
open Builtin PySem.Spec PySem.SeqAt AutoSeq1 MeetsSeq
namespace De
theorem dict_eq_declines_str (l : Addr) (es : Array DictEntry) (n : Nat) (dd : Option Addr) (sl : Array (Option Value)) (b : Str) (u : Tok) :
    Meets (Builtin.«dict.__eq__» ⟨[.ref l, .str b u], []⟩) (fun _ R s => s.heap.get? l = some { cls := .type "dict", dict := dd, data := .dict es n, slots := sl } ∧ R (.ok (.ret .notImplemented)) s) :=
  .of_wp fun prog w A R s h => by obtain ⟨hp, g, d, tk, os⟩ := s; obtain ⟨hl, h⟩ := h; have f1 := F.sub_str_dict; wp_walk using wpAny_loadPart' hl; exact ⟨_, rfl, h⟩
theorem str_eq_declines_dict (l : Addr) (es : Array DictEntry) (n : Nat) (dd : Option Addr) (sl : Array (Option Value)) (b : Str) (u : Tok) :
    Meets (Builtin.«str.__eq__» ⟨[.str b u, .ref l], []⟩) (fun _ R s => s.heap.get? l = some { cls := .type "dict", dict := dd, data := .dict es n, slots := sl } ∧ R (.ok (.ret .notImplemented)) s) :=
  .of_wp fun prog w A R s h => by obtain ⟨hp, g, d, tk, os⟩ := s; obtain ⟨hl, h⟩ := h; wp_walk using wpAny_loadPart' hl, wpAny_load hl; exact ⟨_, rfl, h⟩
section
variable {A : Around} {s : Shared}
theorem dict_str {l : Addr} {es : Array DictEntry} {n : Nat} {dd : Option Addr} {sl : Array (Option Value)} (b : Str) (u : Tok) (ho : s.heap.get? l = some { cls := .type "dict", dict := dd, data := .dict es n, slots := sl }) (hu : A.units < cLine) : RcAt A s (.ref l) (.str b u) false := fun prog w E Q h =>
  rc_eq_decline_or (k := false) ⟨_, ho, rfl⟩ (typeIs_str s b u) (by decide) F.sub_str_dict F.slot_dict_eq F.slot_str_eq_refl
    (fun _ hq => call_meets F.slot_dict_eq ⟨_, ho, rfl⟩ F.entry_dict_eq (F.args_dict_eq_2 _ _) (dict_eq_declines_str l es n dd sl b u) ⟨ho, hq⟩)
    (fun _ hq => call_meets F.slot_str_eq_refl (typeIs_str s b u) F.entry_str_eq (F.args_str_eq_2 _ _) (str_eq_declines_dict l es n dd sl b u) ⟨ho, hq⟩)
    (fun _ hq => wpAny_of_eq (rfl : isSame (.ref l) (.str b u) = pure false) hq) (.inr hu) h
theorem str_dict {l : Addr} {es : Array DictEntry} {n : Nat} {dd : Option Addr} {sl : Array (Option Value)} (b : Str) (u : Tok) (ho : s.heap.get? l = some { cls := .type "dict", dict := dd, data := .dict es n, slots := sl }) (hu : A.units < cLine) : RcAt A s (.str b u) (.ref l) false := fun prog w E Q h =>
  rc_eq_decline_or (k := false) (typeIs_str s b u) ⟨_, ho, rfl⟩ (by decide) F.sub_dict_str F.slot_str_eq F.slot_dict_eq_refl
    (fun _ hq => call_meets F.slot_str_eq (typeIs_str s b u) F.entry_str_eq (F.args_str_eq_2 _ _) (str_eq_declines_dict l es n dd sl b u) ⟨ho, hq⟩)
    (fun _ hq => call_meets F.slot_dict_eq_refl ⟨_, ho, rfl⟩ F.entry_dict_eq (F.args_dict_eq_2 _ _) (dict_eq_declines_str l es n dd sl b u) ⟨ho, hq⟩)
    (fun _ hq => wpAny_of_eq (rfl : isSame (.str b u) (.ref l) = pure false) hq) (.inr hu) h
theorem eq_str_dict {l : Addr} {es : Array DictEntry} {n : Nat} {dd : Option Addr} {sl : Array (Option Value)} (b : Str) (u : Tok) (ho : s.heap.get? l = some { cls := .type "dict", dict := dd, data := .dict es n, slots := sl }) (hu : A.units < cLine) : EqAt A s (.str b u) (.ref l) false := fun prog w E Q h => by
  unfold eqBool
  refine wpAny_holding ?_
  refine wpAny_ite_split (fun hab => absurd (eq_of_beq hab) nofun) (fun _ => ?_)
  exact wpAny_bind (str_dict b u ho hu prog w E _ (wpAny_truthy_bool h))
end
end De
end PySem
namespace Gk
open PySem.Spec PyProof.Rows
section
variable {X : Cx}
theorem empty_obj {pins : List (Addr × Obj)} {σ : L2.St} {H : Hp} {s : Shared} (I : Inv X pins σ H s) {p : Addr} (hp : H p = some (.dK [])) : ∃ dd es n sl, s.heap.get? p = some { cls := .type "dict", dict := dd, data := .dict es n, slots := sl } := by
  obtain ⟨_, ns, vs, kv, dof⟩ := dk_of I.hok hp
  obtain ⟨⟨cls, dd, data, sl⟩, es, ep, h1, h2, h3, _⟩ := dof
  obtain rfl : cls = .type "dict" := h2.1
  obtain rfl : data = .dict es ep := h3
  exact ⟨dd, es, ep, sl, h1⟩
/-- == of data, or of the empty dict and a text -/
def rEqE (K : PySem.W.Frag) : R2 := fun x y H Q => rEqD K x y H Q ∨ ∃ p z, x = .ref p ∧ y = .str z ∧ H p = some (.dK []) ∧ Q (.bl false) H
theorem op_eqE (hu : X.A.units + 64 < cLine) : OpR X (compareOp .Eq) (rEqE X.K) := by
  intro pins s σ H x y v u Q I rx ry h
  rcases h with h | ⟨p, z, rfl, rfl, hp, q⟩
  · exact op_eqD hu pins s σ H x y v u Q I rx ry h
  · obtain rfl : v = Value.ref p := rx
    obtain ⟨t, rfl⟩ := ry
    obtain ⟨dd, es, n, sl, ho⟩ := empty_obj I hp
    exact PySem.De.dict_str z t ho (by omega) X.prog X.w _ _ ⟨.bl false, H, I, rfl, q⟩
/-- in of data in a list, or of the empty dict in a list of texts -/
def rInE (K : PySem.W.Frag) : R2 := fun x y H Q => rIn K false x y H Q ∨ rInD K x y H Q ∨ ∃ (p l : Addr) (xs : List Str), x = .ref p ∧ y = .ref l ∧ H p = some (.dK []) ∧ SqL K H l (xs.map V.str) ∧ Q (.bl false) H
theorem vals_str : ∀ {xs : List Str} {its : List Value}, Vals (xs.map V.str) its → ∀ w ∈ its, ∃ z t, w = .str z t
  | [], _, h, w, hw => by cases h; cases hw
  | x :: xs, _, h, w, hw => by
    cases h with
    | cons a b =>
      rcases List.mem_cons.mp hw with rfl | hw
      · obtain ⟨t, e⟩ := a
        exact ⟨x, t, e⟩
      · exact vals_str b w hw
theorem op_inE (hu : X.A.units + 65 < cLine) : OpR X (compareOp .In) (rInE X.K) := by
  intro pins s σ H x y v u Q I rx ry h
  rcases h with h | h | ⟨p, l, xs, rfl, rfl, hp, hl, q⟩
  · exact op_in_seq pins s σ H x y v u Q I rx ry h
  · exact op_inD hu pins s σ H x y v u Q I rx ry h
  · obtain rfl : v = Value.ref p := rx
    obtain rfl : u = Value.ref l := ry
    obtain ⟨dd, es, n, sl, ho⟩ := empty_obj I hp
    obtain ⟨its, r, pl, hz⟩ := I.list hl
    refine SeqAt.in_listAt (fun _ => false) pl.isList (fun w hw => ?_) ⟨.bl _, H, I, rfl, ?_⟩
    · obtain ⟨z, t, rfl⟩ := vals_str r w (by simpa using hw)
      exact PySem.De.eq_str_dict z t ho (show X.A.units + 1 < cLine by omega)
    · rw [show its.toArray.any (fun _ => false) = false by simp]
      exact q
end
end Gk
namespace Ab
open W6 PySem.Spec PyProof.Rows
structure Od (K : PySem.W.Frag) (H : Hp) (x : V) : Prop where
  kd : ∃ tn, Kd K H x tn
  sh : ∃ txt, Shows K x H txt
  ins : ∀ (l : Addr) (ws : List Str) (H' : Hp), Same H H' → SqL K H' l (ws.map V.str) → ws = methods ∨ ws = operations → ∀ Q : VK, Q (.bl (isIn x ws)) H' → rInE K x (.ref l) H' Q
  eqs : ∀ H', Same H H' → ∀ Q : VK, Q (.bl (isIn x ["step"])) H' → rEqE K x (.str "step") H' Q
theorem dp_strm {K : PySem.W.Frag} {H : Hp} : ∀ l : List Str, DpAll K H (l.map V.str) (l.map PyData.str)
  | [] => .nil
  | _ :: l => .cons (.str _) (dp_strm l)
section
variable {K : PySem.W.Frag} {H : Hp}
theorem od_mk {x : V} {tn : String} (d : PyData) (k : Kd K H x tn) (dp : ∀ H', Same H H' → Dp K H' x d) (hc : chk d = true) (hs : SeqAt.shaped d = true) (hm : (methods.map PyData.str).any (fun z => PyData.eqv z d) = isIn x methods)
    (ho : (operations.map PyData.str).any (fun z => PyData.eqv z d) = isIn x operations) (he : PyData.eqv d (.str "step") = isIn x ["step"]) : Od K H x where
  kd := ⟨tn, k⟩
  sh := ⟨_, shows_of dp hc⟩
  ins := fun l ws H' s hl hw Q q => .inr (.inl ⟨d, ws.map PyData.str, dp H' s, .lst hl (dp_strm ws), hs, by rcases hw with rfl | rfl <;> decide +kernel, by
    rcases hw with rfl | rfl
    · rw [hm]; exact q
    · rw [ho]; exact q⟩)
  eqs := fun H' s Q q => .inl ⟨d, .str "step", dp H' s, .str _, hs, by decide +kernel, by rw [he]; exact q⟩
theorem od_dict {p : Addr} (h : H p = some (.dK [])) : Od K H (.ref p) where
  kd := ⟨_, kd_dK h⟩
  sh := ⟨"{}", fun H' s Q k => .inr ⟨_, rfl, s _ _ h, k⟩⟩
  ins := fun l ws H' s hl hw Q q => .inr (.inr ⟨p, l, ws, rfl, rfl, s _ _ h, hl, q⟩)
  eqs := fun H' s Q q => .inr ⟨p, _, rfl, rfl, s _ _ h, q⟩
theorem eqv_s (z : Str) : ∀ ws : List Str, (ws.map PyData.str).any (fun y => PyData.eqv y (.str z)) = decide (z ∈ ws)
  | [] => rfl
  | w :: ws => by
    rw [List.map_cons, List.any_cons, eqv_s z ws]
    show ((w == z) || _) = _
    by_cases e : w = z
    · subst e; simp
    · have e2 : (w == z) = false := by simpa using e
      have e3 : ¬ z = w := fun h => e h.symm
      rw [e2]; simp [e3]
theorem od_str {z : Str} (hc : chk (.str z) = true) (hs : SeqAt.shaped (.str z) = true) : Od K H (.str z) :=
  od_mk (.str z) (kd_str z) (fun _ _ => .str z) hc hs (eqv_s z methods) (eqv_s z operations) (by
    show (z == ("step" : Str)) = decide (z ∈ [("step" : Str)])
    by_cases e : z = "step"
    · subst e; decide +kernel
    · have e2 : (z == ("step" : Str)) = false := by simpa using e
      rw [e2]; simp [e])
def oddFixed (t0 l0 d0 t1 : Addr) : List V := [.non, .int 5, .bl true, .ref t0, .ref l0, .ref d0, .str "", .str "like ", .str " like", .str "LIKE", .ref t1, .str "like\n"]
theorem od_fixed {t0 l0 d0 t1 : Addr} (h1 : H t0 = some (.tup [])) (h2 : H l0 = some (.lst [])) (h3 : H d0 = some (.dK [])) (h4 : H t1 = some (.tup [.str "like"])) : ∀ x ∈ oddFixed t0 l0 d0 t1, Od K H x := by
  intro x hx
  simp only [oddFixed, List.mem_cons, List.not_mem_nil, or_false] at hx
  rcases hx with rfl | rfl | rfl | rfl | rfl | rfl | rfl | rfl | rfl | rfl | rfl | rfl
  · exact od_mk .none kd_non (fun _ _ => .non) (by decide +kernel) (by decide +kernel) (by decide +kernel) (by decide +kernel) (by decide +kernel)
  · exact od_mk (.int 5) (kd_int 5) (fun _ _ => .int 5) (by decide +kernel) (by decide +kernel) (by decide +kernel) (by decide +kernel) (by decide +kernel)
  · exact od_mk (.bool true) (kd_bl true) (fun _ _ => .bl true) (by decide +kernel) (by decide +kernel) (by decide +kernel) (by decide +kernel) (by decide +kernel)
  · exact od_mk (.tuple []) (kd_tup h1) (fun H' s => .tup (SqT.of (s _ _ h1)) .nil) (by decide +kernel) (by decide +kernel) (by show _ = false; decide +kernel) (by show _ = false; decide +kernel) (by show _ = false; decide +kernel)
  · exact od_mk (.list []) (kd_lst h2) (fun H' s => .lst (SqL.of (s _ _ h2)) .nil) (by decide +kernel) (by decide +kernel) (by show _ = false; decide +kernel) (by show _ = false; decide +kernel) (by show _ = false; decide +kernel)
  · exact od_dict h3
  · exact od_str (by decide +kernel) (by decide +kernel)
  · exact od_str (by decide +kernel) (by decide +kernel)
  · exact od_str (by decide +kernel) (by decide +kernel)
  · exact od_str (by decide +kernel) (by decide +kernel)
  · exact od_mk (.tuple [.str "like"]) (kd_tup h4) (fun H' s => .tup (SqT.of (s _ _ h4)) (.cons (.str _) .nil)) (by decide +kernel) (by decide +kernel) (by show _ = false; decide +kernel) (by show _ = false; decide +kernel) (by show _ = false; decide +kernel)
  · exact od_str (by decide +kernel) (by decide +kernel)
theorem w_ok {z : Str} (h : W 30 z) : chk (.str z) = true ∧ SeqAt.shaped (.str z) = true := by
  have l := StrLaws.reprText_len z fun c hc => Nat.lt_of_lt_of_le (h.low c hc) (by decide)
  have hl := h.len
  have e1 : (PyData.str z).showable = true := by simp [PyData.showable]
  have e2 : (PyData.str z).hasDict = false := by simp [PyData.hasDict]
  have e3 : (PyData.str z).depth ≤ 60 := by simp [PyData.depth]
  have e4 : (PyData.str z).shown.length ≤ 1000 := by
    rw [PyData.shown]
    omega
  have e5 : PyData.strOk z = true := by
    unfold PyData.strOk
    rw [Array.all_eq_true']
    intro c hc
    have := h.low c (by simpa using hc)
    exact decide_eq_true (by omega)
  refine ⟨?_, ?_⟩
  · unfold chk
    rw [e1, e2, decide_eq_true e3, decide_eq_true e4]
    rfl
  · unfold SeqAt.shaped
    rw [show (PyData.str z).canLay0 = PyData.strOk z by simp [PyData.canLay0], e5, decide_eq_true (by omega : (PyData.str z).depth ≤ 64)]
    rfl
theorem od_w {z : Str} (h : W 30 z) : Od K H (.str z) := od_str (w_ok h).1 (w_ok h).2
end
end Ab
namespace Ab
open W6 PySem.Spec PyProof.Rows
local macro_rules | `(tactic| walk_at "kp") => `(tactic| repeat (first | exact upd_same | assumption | refine kN (by assumption) ?_ | refine kM (by first | assumption | exact Ne.symm (by assumption)) ?_))
local macro_rules | `(tactic| walk_at "ks") => `(tactic| repeat (first | exact nS | refine nK ?_))
theorem in_ {k : Nat} {A : Around} (r : Room k A) : A.units + 65 < cLine := by have := r.un; omega
theorem dp_strl {K : PySem.W.Frag} {H : Hp} : ∀ l : List Str, DpAll K H (l.map V.str) (l.map PyData.str)
  | [] => .nil
  | _ :: l => .cons (.str _) (dp_strl l)
theorem m_facts : ∀ z ∈ methods, valV kdAll (.inr z) = some (.str (kindOf z)) ∧ chk (.list [.str (kindOf z), .bool (decide (z ∈ others)), .bool (decide (z ∈ decliners))]) = true := by decide +kernel
theorem shL {K : PySem.W.Frag} {H : Hp} {p : Addr} {k : Str} {b c : Bool} (h : H p = some (.lst [.str k, .bl b, .bl c])) (hc : chk (.list [.str k, .bool b, .bool c]) = true) : Shows K (.ref p) H (PyData.list [.str k, .bool b, .bool c]).shown :=
  shows_of (fun H' s => .lst (SqL.of (s _ _ h)) (.cons (.str _) (.cons (.bl _) (.cons (.bl _) .nil)))) hc
theorem o_facts : ∀ z ∈ operations, chk (.int (if z ∈ ones then 1 else 2)) = true ∧ (1 + (if decide (z ∈ operations.drop 6) = true then 1 else 0) : Int) = (if z ∈ ones then 1 else 2) := by decide +kernel
theorem tdget {td ty : TE} {σ : L2.St} {H : Hp} {Q : VK} (k : td σ H fun x H1 => ty σ H1 fun y H2 => ∃ a v, x = .ref a ∧ DGet H2 a y (some v) ∧ Q v H2) : tDGet td ty σ H Q := k
section
variable {P : Program} {w : World} {K : PySem.W.Frag} {mg : Str → Option Value} {base : Heap}
abbrev sLaw : Stmt := top 36
abbrev nLaw : List Str := ["_law_script", "_law_kinds_here", "_law_word", "_law_told", "_law_due", "_law_odd_here", "_law_k", "_law_pool_here", "_law_door", "_law_is_there"]
theorem scLaw : FnScope nLaw ["_law_script"] (defScope sLaw) := ⟨rfl, rfl, rfl, by decide +kernel, rfl, by decide +kernel, by decide +kernel⟩
def spLaw (K : PySem.W.Frag) : Sp := fun vs H Q _ => ∃ (a : Addr) (ns : List Int), vs = [.ref a] ∧ SqL K H a (ns.map V.int) ∧ ns.length ≤ 63 ∧ ∀ H', Q (.bl true) H'
theorem ok_law (T : Txt K mg) {C p_METHODS p_OPERATIONS : Addr} {t4 : Tok} (g_METHODS : mg "METHODS" = some (.ref p_METHODS)) (g_OPERATIONS : mg "OPERATIONS" = some (.ref p_OPERATIONS)) (g_MOST_COUNT : mg "MOST_COUNT" = some (.int 4 t4))
    (tM : ∀ H, SqT K H p_METHODS (methods.map V.str)) (tO : ∀ H, SqT K H p_OPERATIONS (operations.map V.str)) {f : Addr} {fd : FuncData} (F : Fun K "law" "law" sLaw f fd)
    (CL_methods : CalG P w K mg base 1 "_law_methods" (spNew (methods.map V.str))) (CL_operations : CalG P w K mg base 1 "_law_operations" (spNew (operations.map V.str)))
    (CL_kinds : CalG P w K mg base 1 "_law_kinds" spKinds) (CKind_of : Ex.CalX P w K mg base 4 "kind_of" (spKind K C)) (CTakes_other : Ex.CalX P w K mg base 4 "takes_other" (spIn K C methods others))
    (CMay_decline : Ex.CalX P w K mg base 4 "may_decline" (spIn K C methods decliners)) (COperands_of : Ex.CalX P w K mg base 4 "operands_of" (spOperands K C operations ones))
    (CL_word_right : CalG P w K mg base 7 "_law_word_right" spRight) (CL_pool : CalG P w K mg base 1 "_law_pool" (spPool K)) (CL_odd : CalG P w K mg base 3 "_law_odd" spOdd) (CL_heard : CalG P w K mg base 7 "_law_heard" (spHeard K)) :
    FnG P w K mg base CX0 8 f fd ["_law_script"] (spLaw K) := by
  refine defG0 F scLaw (fun vs H Q E h => ?_) (fun cd A hg outer s H vs Q E hr h => ?_)
  · obtain ⟨a, ns, rfl, _⟩ := h
    rfl
  · obtain ⟨a, ns, rfl, hl, h63, q⟩ := h
    refine ⟨_, (pss_cons (ps_if (PW.pt (pw_or (pt_cmpR (r := rNeD K) (op_neD hr.units) (pe_glob (v := .ref p_METHODS) (by rfl) g_METHODS rfl) (pe_callTy call_tuple_of (by rfl) T.tuple (by decide +kernel) (pa_cons (pe_cG0 CL_methods hg hr (by decide)) pa_nil)) (nomark _)) (pw_or (pt_cmpR (r := rNeD K) (op_neD hr.units) (pe_glob (v := .ref p_OPERATIONS) (by rfl) g_OPERATIONS rfl) (pe_callTy call_tuple_of (by rfl) T.tuple (by decide +kernel) (pa_cons (pe_cG0 CL_operations hg hr (by decide)) pa_nil)) (nomark _)) (pw_or1 (pt_cmpR op_ne (pe_glob (v := .int 4) (by rfl) g_MOST_COUNT ⟨_, rfl⟩) pe_int (nomark _))))))
  (pss_one (ps_ret pe_bl))
  pss_nil)
  (pss_cons (ps_set (i := 1) scLaw.nd rfl (Or.inl rfl) (pe_cG0 CL_kinds hg hr (by decide)))
  (pss_cons (ps_for (wi := iList K _) PassesOwn.never rfl (pi_list (pe_cG0 CL_methods hg hr (by decide))) (pg_name (i := 2) scLaw.nd rfl (Or.inl rfl))
  (pss_cons (ps_set (i := 3) scLaw.nd rfl (Or.inl rfl) (pe_lst (pa_cons (Ex.pe_x0 CKind_of hg hr (by decide) (pa_cons (pv 2) pa_nil)) (pa_cons (Ex.pe_x0 CTakes_other hg hr (by decide) (pa_cons (pv 2) pa_nil)) (pa_cons (Ex.pe_x0 CMay_decline hg hr (by decide) (pa_cons (pv 2) pa_nil)) pa_nil)))))
  (pss_cons (ps_set (i := 4) scLaw.nd rfl (Or.inl rfl) (pe_lst (pa_cons (pe_dget (one_ hr.units) (pv 1) (pv 2) (fun _ _ => rfl)) (pa_cons (pe_cmpR (r := rIn K false) op_in_seq (pv 2) (pe_lst (pa_cons pe_str (pa_cons pe_str (pa_cons pe_str (pa_cons pe_str (pa_cons pe_str (pa_cons pe_str (pa_cons pe_str pa_nil)))))))) (by rfl)) pa_nil))))
  (pss_cons (ps_expr (pe_bm PySem.F.plainAttrs_list PySem.F.slot_list_append PySem.F.type_list_append mt_append (pv 4) (pa_cons (pe_cmpR (r := rIn K false) op_in_seq (pv 2) (pe_lst (pa_cons pe_str (pa_cons pe_str (pa_cons pe_str (pa_cons pe_str (pa_cons pe_str (pa_cons pe_str pa_nil))))))) (by rfl)) pa_nil)))
  (pss_one (ps_if (PW.pt (pw_or (pt_cmpR op_ne (pe_callB (r := rReprX K) (call_reprX hg hr.units) (by rfl) T.repr (by decide +kernel) (pa_cons (pv 3) pa_nil)) (pe_callB (r := rReprX K) (call_reprX hg hr.units) (by rfl) T.repr (by decide +kernel) (pa_cons (pv 4) pa_nil)) (nomark _)) (pw_or1 (pt_not (pt_val (pe_cG CL_word_right hg hr (by decide) (pa_cons (pv 2) pa_nil)))))))
  (pss_one (ps_ret pe_bl))
  pss_nil))))))
  (pss_cons (ps_for (wi := iList K _) PassesOwn.never rfl (pi_list (pe_cG0 CL_operations hg hr (by decide))) (pg_name (i := 2) scLaw.nd rfl (Or.inl rfl))
  (pss_one (ps_if (pt_cmpR op_ne (pe_callB (r := rReprX K) (call_reprX hg hr.units) (by rfl) T.repr (by decide +kernel) (pa_cons (Ex.pe_x0 COperands_of hg hr (by decide) (pa_cons (pv 2) pa_nil)) pa_nil)) (pe_callB (r := rReprX K) (call_reprX hg hr.units) (by rfl) T.repr (by decide +kernel) (pa_cons (pe_op op_add pe_int (pe_callTy call_int1 (by rfl) T.int (by decide +kernel) (pa_cons (pe_cmpR (r := rIn K false) op_in_seq (pv 2) (pe_slice (r := rSlL K) sl_list (pe_cG0 CL_operations hg hr (by decide)) (po_some pe_int) po_none) (by rfl)) pa_nil))) pa_nil)) (nomark _))
  (pss_one (ps_ret pe_bl))
  pss_nil)))
  (pss_cons (ps_set (i := 5) scLaw.nd rfl (Or.inl rfl) (pe_lst (pa_cons pe_non (pa_cons pe_int (pa_cons pe_bl (pa_cons (pe_tup pa_nil) (pa_cons (pe_lst pa_nil) (pa_cons pe_dnewK (pa_cons pe_str (pa_cons pe_str (pa_cons pe_str (pa_cons pe_str (pa_cons (pe_tup (pa_cons pe_str pa_nil)) (pa_cons pe_str pa_nil))))))))))))))
  (pss_cons (ps_for PassesOwn.never rfl (pi_range1 (by rfl) T.range (pa_cons (pe_callB (call_max2 rfl) (by rfl) T.max (by decide +kernel) (pa_cons pe_int (pa_cons (pe_callB (call_min2 rfl) (by rfl) T.min (by decide +kernel) (pa_cons pe_int (pa_cons (pe_callB (r := Rd.rLenK K) Rd.callLen (by rfl) T.len PySem.boot_len (pa_cons (pv 0) pa_nil)) pa_nil))) pa_nil))) pa_nil)) (pg_name (i := 6) scLaw.nd rfl (Or.inl rfl))
  (pss_cons (ps_set (i := 7) scLaw.nd rfl (Or.inl rfl) (pe_cG CL_pool hg hr (by decide) (pa_cons (pv 0) (pa_cons (pv 6) pa_nil))))
  (pss_one (ps_expr (pe_bm PySem.F.plainAttrs_list PySem.F.slot_list_append PySem.F.type_list_append mt_append (pv 5) (pa_cons (pe_cG CL_odd hg hr (by decide) (pa_cons (pv 7) pa_nil)) pa_nil))))))
  (pss_cons (ps_for (wi := iList K _) PassesOwn.never rfl (pi_list (pv 5)) (pg_name (i := 2) scLaw.nd rfl (Or.inl rfl))
  (pss_one (ps_for PassesOwn.never rfl (pi_range1 (by rfl) T.range (pa_cons pe_int pa_nil)) (pg_name (i := 8) scLaw.nd rfl (Or.inl rfl))
  (pss_cons (ps_set (i := 9) scLaw.nd rfl (Or.inl rfl) (pe_ifExp (pt_cmpR op_eq (pv 8) pe_int (nomark _)) (pe_cmpR (r := rInE K) (op_inE (in_ hr)) (pv 2) (pe_cG0 CL_operations hg hr (by decide)) (by rfl)) (pe_cmpR (r := rInE K) (op_inE (in_ hr)) (pv 2) (pe_cG0 CL_methods hg hr (by decide)) (by rfl))))
  (pss_cons (ps_if (PW.pt (pw_and (pt_cmpR (r := rIn K false) op_in_seq (pv 8) (pe_lst (pa_cons pe_int (pa_cons pe_int pa_nil))) (by rfl)) (pw_and1 (pt_cmpR (r := rEqE K) (op_eqE hr.units) (pv 2) pe_str (nomark _)))))
  (pss_one (ps_set (i := 9) scLaw.nd rfl (Or.inl rfl) pe_bl))
  pss_nil)
  (pss_one (ps_if (pt_cmpR (r := rNeD K) (op_neD hr.units) (pe_cG CL_heard hg hr (by decide) (pa_cons (pv 8) (pa_cons (pv 2) pa_nil))) (pe_ifExp (pt_val (pv 9)) pe_str (pe_lst (pa_cons pe_bl (pa_cons pe_bl (pa_cons pe_bl pa_nil))))) (nomark _))
  (pss_one (ps_ret pe_bl))
  pss_nil)))))))
  (pss_one (ps_ret (pe_and (pe_cG CL_word_right hg hr (by decide) (pa_cons pe_str pa_nil)) (pe_one (pe_cmpR (r := rEqD K) (op_eqD hr.units) (pe_cG CL_heard hg hr (by decide) (pa_cons pe_int (pa_cons pe_str pa_nil))) (pe_lst (pa_cons pe_bl (pa_cons pe_bl (pa_cons pe_bl pa_nil)))) (nomark _))))))))))))), ?_⟩
    have dS : ∀ {l : List Str} {H' : Hp}, DpAll K H' (l.map V.str) (l.map PyData.str) := fun {l} {H'} => dp_strl l
    repeat walk_at "rd"
    refine ⟨rfl, fun p1 H1 hp1 s1 e1 => ?_⟩
    repeat walk_at "rd"
    refine ⟨p1, _, rfl, .inl ⟨SqL.of e1, fun p2 hp2 => ?_⟩⟩
    refine Rd.neD (.tup (tM _) dS) (.tup (SqT.of upd_same) dS) (by decide +kernel) (by decide +kernel) ?_
    rw [show PyData.eqv (.tuple (methods.map PyData.str)) (.tuple (methods.map PyData.str)) = true by decide +kernel]
    refine ⟨_, rfl, ?_⟩
    refine Rd.bool (fun c => by cases c) (fun _ => ?_)
    repeat walk_at "rd"
    refine ⟨rfl, fun p3 H3 hp3 s3 e3 => ?_⟩
    repeat walk_at "rd"
    refine ⟨p3, _, rfl, .inl ⟨SqL.of e3, fun p4 hp4 => ?_⟩⟩
    refine Rd.neD (.tup (tO _) dS) (.tup (SqT.of upd_same) dS) (by decide +kernel) (by decide +kernel) ?_
    rw [show PyData.eqv (.tuple (operations.map PyData.str)) (.tuple (operations.map PyData.str)) = true by decide +kernel]
    refine ⟨_, rfl, ?_⟩
    refine Rd.bool (fun c => by cases c) (fun _ => ?_)
    repeat walk_at "rd"
    refine Rd.ndec (fun c => (c rfl).elim) (fun _ => ?_)
    repeat walk_at "rd"
    refine ⟨rfl, fun kd H5 hkd s5 e5 => ?_⟩
    repeat walk_at "rd"
    refine forD ?_
    refine callS0 ?_
    refine ⟨rfl, fun lm H6 hlm s6 e6 => ?_⟩
    refine ⟨lm, rfl, ⟨_, SqL.of e6⟩, ?_⟩
    refine for_list (K := K) (a := lm) (xs := methods.map V.str) (fun i σ' H' => ∃ w2 w3 w4, σ' = [some (.ref a), some (.ref kd), w2, w3, w4, none, none, none, none, none] ∧ Same H6 H') ⟨_, _, _, rfl, Same.refl _⟩ ?_ ?_ ?_
    · rintro i σ' H' _ ⟨w2, w3, w4, rfl, s7⟩
      exact SqL.of (s7 _ _ e6)
    · rintro i x σ' H' hx ⟨w2, w3, w4, rfl, s7⟩
      obtain ⟨z, hz, rfl⟩ := List.mem_map.mp (List.mem_of_getElem? hx)
      have inz : isIn (.str z) methods = true := decide_eq_true hz
      obtain ⟨f1, f4⟩ := m_facts z hz
      repeat walk_at "rd"
      refine ⟨_, _, rfl, kd_str z, fun z' ez _ => ?_, fun c => by rw [inz] at c; cases c⟩
      cases ez
      repeat walk_at "rd"
      refine ⟨_, _, rfl, kd_str z, fun z' ez _ => ?_, fun c => by rw [inz] at c; cases c⟩
      cases ez
      repeat walk_at "rd"
      refine ⟨_, _, rfl, kd_str z, fun z' ez _ => ?_, fun c => by rw [inz] at c; cases c⟩
      cases ez
      repeat walk_at "rd"
      refine ⟨Rd.sz (by simp), fun to hto => ?_⟩
      have zto : H6 to = none := Same.free (by repeat (first | exact s7 | refine Rd.sMut ?_ (by assumption))) hto
      repeat walk_at "rd"
      refine tdget ?_
      repeat walk_at "rd"
      have sto := Rd.sNew (o := .lst [V.str (kindOf z), V.bl (decide (z ∈ others)), V.bl (decide (z ∈ decliners))]) hto
      refine ⟨kd, _, rfl, .inl ⟨kdAll, .inr z, .inl (sto _ _ (s7 _ _ (s6 _ _ e5))), rfl, f1.symm⟩, ?_⟩
      repeat walk_at "rd"
      refine ⟨Rd.sz (by simp), fun q7 hq7 => ?_⟩
      have zq7 : H6 q7 = none := Same.free (by repeat (first | exact s7 | refine Rd.sMut ?_ (by assumption))) hq7
      repeat walk_at "rd"
      refine inL (xs := others.map V.str) (SqL.of upd_same) rfl (flat_map _) ?_
      rw [if_neg Bool.false_ne_true, inV_str]
      repeat walk_at "rd"
      refine ⟨Rd.sz (by simp), fun du hdu => ?_⟩
      have zdu : H6 du = none := Same.free (by repeat (first | exact s7 | refine Rd.sMut ?_ (by assumption))) hdu
      repeat walk_at "rd"
      refine ⟨Rd.ty_list upd_same, ?_⟩
      repeat walk_at "rd"
      refine ⟨Rd.sz (by simp), fun q6 hq6 => ?_⟩
      have zq6 : H6 q6 = none := Same.free (by repeat (first | exact s7 | refine Rd.sMut ?_ (by assumption))) hq6
      have n6 : du ≠ q6 := nf hq6 (by walk_at "ks")
      have n7 : to ≠ du := nf hdu (by walk_at "ks")
      repeat walk_at "rd"
      refine inL (xs := decliners.map V.str) (SqL.of upd_same) rfl (flat_map _) ?_
      rw [if_neg Bool.false_ne_true, inV_str]
      repeat walk_at "rd"
      refine Rd.app (by walk_at "kp") (Rd.szl (by simp)) ?_
      repeat walk_at "rd"
      refine shL (k := kindOf z) (b := decide (z ∈ others)) (c := decide (z ∈ decliners)) (by walk_at "kp") f4 _ (Same.refl _) _ ?_
      repeat walk_at "rd"
      refine shL (k := kindOf z) (b := decide (z ∈ others)) (c := decide (z ∈ decliners)) upd_same f4 _ (Same.refl _) _ ?_
      repeat walk_at "rd"
      refine Rd.ndec (fun c => (c rfl).elim) (fun _ => ?_)
      repeat walk_at "rd"
      refine ⟨z, rfl, List.mem_append_left _ hz, fun H8 s8 => ?_⟩
      repeat walk_at "rd"
      exact ⟨_, _, _, rfl, Same.trans (by repeat (first | exact s7 | refine Rd.sMut ?_ (by assumption))) s8⟩
    · rintro σ' H' ⟨w2, w3, w4, rfl, s7⟩
      repeat walk_at "rd"
      refine forD ?_
      refine callS0 ?_
      refine ⟨rfl, fun lo H7 hlo s8 e7 => ?_⟩
      refine ⟨lo, rfl, ⟨_, SqL.of e7⟩, ?_⟩
      refine for_list (K := K) (a := lo) (xs := operations.map V.str) (fun i σ' H' => ∃ w2, σ' = [some (.ref a), some (.ref kd), w2, w3, w4, none, none, none, none, none] ∧ Same H7 H') ⟨_, rfl, Same.refl _⟩ ?_ ?_ ?_
      · rintro i σ' H' _ ⟨w2, rfl, s9⟩
        exact SqL.of (s9 _ _ e7)
      · rintro i x σ' H' hx ⟨w2, rfl, s9⟩
        obtain ⟨z, hz, rfl⟩ := List.mem_map.mp (List.mem_of_getElem? hx)
        have inz : isIn (.str z) operations = true := decide_eq_true hz
        repeat walk_at "rd"
        refine ⟨_, _, rfl, kd_str z, fun z' ez _ => ?_, fun c => by rw [inz] at c; cases c⟩
        cases ez
        repeat walk_at "rd"
        refine shows_of (d := .int (if z ∈ ones then 1 else 2)) (fun H' s => .int _) (o_facts z hz).1 _ (Same.refl _) _ ?_
        repeat walk_at "rd"
        refine ⟨rfl, fun p9 H9 hp9 s10 e9 => ?_⟩
        repeat walk_at "rd"
        refine Rd.slL (SqL.of e9) fun q9 hq9 => ?_
        repeat walk_at "rd"
        refine inL (xs := (operations.drop 6).map V.str) (SqL.of (by rw [upd_same]; rfl)) rfl (flat_map _) ?_
        rw [if_neg Bool.false_ne_true, inV_str]
        repeat walk_at "rd"
        rw [(o_facts z hz).2]
        refine shows_of (d := .int (if z ∈ ones then 1 else 2)) (fun H' s => .int _) (o_facts z hz).1 _ (Same.refl _) _ ?_
        repeat walk_at "rd"
        refine Rd.ndec (fun c => (c rfl).elim) (fun _ => ?_)
        repeat walk_at "rd"
        exact ⟨_, rfl, s9.trans (s10.trans (Rd.sNew hq9))⟩
      · rintro σ' H9 ⟨w2, rfl, s9⟩
        repeat walk_at "rd"
        refine ⟨Rd.sz (by simp), fun t0 ht0 => ?_⟩
        repeat walk_at "rd"
        refine ⟨Rd.sz (by simp), fun l0 hl0 => ?_⟩
        repeat walk_at "rd"
        refine dnew fun d0 hd0 => ?_
        repeat walk_at "rd"
        refine ⟨Rd.sz (by simp), fun t1 ht1 => ?_⟩
        have sB := (Rd.sNew (o := .tup []) ht0).trans ((Rd.sNew (o := .lst []) hl0).trans ((Rd.sNew (o := .dK []) hd0).trans (Rd.sNew (o := .tup [.str "like"]) ht1)))
        have g1 : (upd (upd (upd (upd H9 t0 (.tup [])) l0 (.lst [])) d0 (.dK [])) t1 (.tup [.str "like"])) t0 = some (.tup []) := by walk_at "kp"
        have g2 : (upd (upd (upd (upd H9 t0 (.tup [])) l0 (.lst [])) d0 (.dK [])) t1 (.tup [.str "like"])) l0 = some (.lst []) := by walk_at "kp"
        have g3 : (upd (upd (upd (upd H9 t0 (.tup [])) l0 (.lst [])) d0 (.dK [])) t1 (.tup [.str "like"])) d0 = some (.dK []) := by walk_at "kp"
        have g4 : (upd (upd (upd (upd H9 t0 (.tup [])) l0 (.lst [])) d0 (.dK [])) t1 (.tup [.str "like"])) t1 = some (.tup [.str "like"]) := by walk_at "kp"
        have hl9 := (s1.trans ((Rd.sNew hp2).trans (s3.trans ((Rd.sNew hp4).trans (s5.trans (s6.trans (s7.trans (s8.trans (s9.trans sB))))))))).seq hl
        generalize hB : upd (upd (upd (upd H9 t0 (.tup [])) l0 (.lst [])) d0 (.dK [])) t1 (.tup [.str "like"]) = HB at g1 g2 g3 g4 hl9 ⊢
        repeat walk_at "rd"
        refine ⟨Rd.sz (by simp), fun od hod => ?_⟩
        have hl10 := (Rd.sNew (o := .lst (oddFixed t0 l0 d0 t1)) hod).seq hl9
        repeat walk_at "rd"
        refine Rd.rng (by (repeat' split) <;> omega) (by (repeat' split) <;> omega) ?_
        refine Rd.forGo (fun i σ H1 => ∃ v6 v7, ∃ ws : List Str, σ = [some (.ref a), some (.ref kd), w2, w3, w4, some (.ref od), v6, v7, none, none] ∧ H1 od = some (.lst (oddFixed t0 l0 d0 t1 ++ ws.map V.str)) ∧ ws.length = i ∧ (∀ w ∈ ws, W 30 w) ∧ Same HB H1)
          ⟨none, none, [], rfl, by rw [upd_same]; rfl, rfl, by simp, Rd.sNew hod⟩ ?_ ?_
        · rintro i σ H1 hi ⟨v6, v7, ws, rfl, ho, hn, hw, sb⟩
          have i9 : i < 9 := by
            revert hi
            (repeat' split) <;> intro hi <;> omega
          repeat walk_at "rd"
          refine ⟨a, ns, i, rfl, sb.seq hl9, by omega, by omega, fun p x y hp ok => ?_⟩
          have npo : od ≠ p := nf hp (by rw [ho]; exact fun h => nomatch h)
          have ho2 : upd H1 p (.lst [.int x, .int y]) od = some (.lst (oddFixed t0 l0 d0 t1 ++ ws.map V.str)) := by rw [upd_ne npo]; exact ho
          repeat walk_at "rd"
          refine ⟨Rd.ty_list ho2, ?_⟩
          repeat walk_at "rd"
          refine ⟨p, x, y, rfl, upd_same, ok, fun z H2 hz kp => ?_⟩
          repeat walk_at "rd"
          refine Rd.app (kp _ _ npo ho2) (Rd.szl (by simp [oddFixed]; omega)) ?_
          repeat walk_at "rd"
          refine ⟨_, _, ws ++ [z], rfl, by rw [upd_same]; simp, by simp [hn], ?_, ?_⟩
          · intro w hw'
            rcases List.mem_append.mp hw' with h | h
            · exact hw w h
            · rw [List.mem_singleton.mp h]; exact hz
          · intro b u e
            have nb : b ≠ od := nf hod (by rw [e]; exact fun h => nomatch h)
            have e1 := sb _ _ e
            have np : b ≠ p := nf hp (by rw [e1]; exact fun h => nomatch h)
            rw [upd_ne nb]
            exact kp _ _ np (by rw [upd_ne np]; exact e1)
        · rintro σ H1 ⟨v6, v7, ws, rfl, ho, hn, hw, sb⟩
          have odk : ∀ x ∈ oddFixed t0 l0 d0 t1 ++ ws.map V.str, Od K H1 x := fun x hx => by
            rcases List.mem_append.mp hx with h | h
            · exact od_fixed (sb _ _ g1) (sb _ _ g2) (sb _ _ g3) (sb _ _ g4) x h
            · obtain ⟨z, hz, rfl⟩ := List.mem_map.mp h
              exact od_w (hw z hz)
          repeat walk_at "rd"
          refine ⟨_, rfl, od, rfl, ⟨_, SqL.of ho⟩, for_list (K := K) (a := od) (xs := oddFixed t0 l0 d0 t1 ++ ws.map V.str) (fun i σ' H' => ∃ v2 v8 v9, σ' = [some (.ref a), some (.ref kd), v2, w3, w4, some (.ref od), v6, v7, v8, v9] ∧ Same H1 H') ⟨_, _, _, rfl, Same.refl _⟩ ?_ ?_ ?_⟩
          · rintro i σ' H' _ ⟨v2, v8, v9, rfl, s2⟩
            exact SqL.of (s2 _ _ ho)
          · rintro i x σ' H' hx ⟨v2, v8, v9, rfl, s2⟩
            have ox := odk x (List.mem_of_getElem? hx)
            repeat walk_at "rd"
            refine Rd.rng (by decide) (by decide) ?_
            refine Rd.forGo (fun j σ H2 => ∃ v8 v9, σ = [some (.ref a), some (.ref kd), some x, w3, w4, some (.ref od), v6, v7, v8, v9] ∧ Same H1 H2) ⟨_, _, rfl, s2⟩ ?_ ?_
            · rintro j σ H2 hj ⟨v8, v9, rfl, s3⟩
              have j6 : j < 6 := hj
              obtain ⟨tn, kx⟩ := ox.kd
              obtain ⟨txt, shx⟩ := ox.sh
              repeat walk_at "rd"
              refine Rd.dec (fun c => ?_) (fun c => ?_)
              · obtain rfl : j = 5 := by
                  have := V.int.inj c
                  omega
                repeat walk_at "rd"
                refine ⟨rfl, fun p6 H6' hp6 s4 e6' => ?_⟩
                repeat walk_at "rd"
                refine ox.ins p6 operations _ (s3.trans s4) (SqL.of e6') (.inr rfl) _ ?_
                repeat walk_at "rd"
                refine ⟨Rd.sz (by simp), fun p7 hp7 => ?_⟩
                refine inL (xs := [.int 3, .int 4]) (SqL.of upd_same) rfl rfl ?_
                rw [if_neg Bool.false_ne_true]
                rw [show inV (.int ((5 : Nat) : Int)) [.int 3, .int 4] = false by decide +kernel]
                refine ⟨_, rfl, ?_⟩
                refine Rd.bool (fun c => by cases c) (fun _ => ?_)
                refine Rd.bool (fun c => by cases c) (fun _ => ?_)
                repeat walk_at "rd"
                refine ⟨5, x, tn, txt, rfl, by decide, by decide, kx.mono (s3.trans (s4.trans (Rd.sNew hp7))), fun H' s => shx H' ((s3.trans (s4.trans (Rd.sNew hp7))).trans s), fun c H8 s8 => ?_, fun c p8 H8 hp8 s8 e8 => ?_⟩
                · rw [show told 5 x = isIn x operations from rfl] at c
                  repeat walk_at "rd"
                  refine Rd.bool (fun _ => ?_) (fun c2 => by rw [c] at c2; cases c2)
                  repeat walk_at "rd"
                  refine Rd.neD (.str _) (.str _) (by decide +kernel) (by decide +kernel) ?_
                  rw [show PyData.eqv (.str "told") (.str "told") = true by decide +kernel]
                  refine ⟨false, rfl, ?_⟩
                  rw [if_neg Bool.false_ne_true]
                  repeat walk_at "rd"
                  exact ⟨_, _, rfl, (s3.trans (s4.trans (Rd.sNew hp7))).trans s8⟩
                · rw [show told 5 x = isIn x operations from rfl] at c
                  repeat walk_at "rd"
                  refine Rd.bool (fun c2 => by rw [c] at c2; cases c2) (fun _ => ?_)
                  repeat walk_at "rd"
                  refine ⟨Rd.sz (by simp), fun p9 hp9 => ?_⟩
                  refine Rd.neD (.lst (SqL.of (Rd.sNew hp9 _ _ e8)) (.cons (.bl _) (.cons (.bl _) (.cons (.bl _) .nil)))) (.lst (SqL.of upd_same) (.cons (.bl _) (.cons (.bl _) (.cons (.bl _) .nil)))) (by decide +kernel) (by decide +kernel) ?_
                  rw [show PyData.eqv (.list [.bool true, .bool true, .bool true]) (.list [.bool true, .bool true, .bool true]) = true by decide +kernel]
                  refine ⟨false, rfl, ?_⟩
                  rw [if_neg Bool.false_ne_true]
                  repeat walk_at "rd"
                  exact ⟨_, _, rfl, ((s3.trans (s4.trans (Rd.sNew hp7))).trans s8).trans (Rd.sNew hp9)⟩
              · have jj : j = 0 ∨ j = 1 ∨ j = 2 ∨ j = 3 ∨ j = 4 := by
                  have : j ≠ 5 := fun e => c (by rw [e]; rfl)
                  omega
                repeat walk_at "rd"
                refine ⟨rfl, fun p6 H6' hp6 s4 e6' => ?_⟩
                repeat walk_at "rd"
                refine ox.ins p6 methods _ (s3.trans s4) (SqL.of e6') (.inl rfl) _ ?_
                repeat walk_at "rd"
                refine ⟨Rd.sz (by simp), fun p7 hp7 => ?_⟩
                refine inL (xs := [.int 3, .int 4]) (SqL.of upd_same) rfl rfl ?_
                rw [if_neg Bool.false_ne_true]
                rcases jj with rfl | rfl | rfl | rfl | rfl
                · rw [show inV (.int ((0 : Nat) : Int)) [.int 3, .int 4] = false by decide +kernel]
                  refine ⟨_, rfl, ?_⟩
                  refine Rd.bool (fun c => by cases c) (fun _ => ?_)
                  refine Rd.bool (fun c => by cases c) (fun _ => ?_)
                  repeat walk_at "rd"
                  refine ⟨0, x, tn, txt, rfl, by decide, by decide, kx.mono (s3.trans (s4.trans (Rd.sNew hp7))), fun H' s => shx H' ((s3.trans (s4.trans (Rd.sNew hp7))).trans s), fun c H8 s8 => ?_, fun c p8 H8 hp8 s8 e8 => ?_⟩
                  · rw [show told 0 x = isIn x methods from rfl] at c
                    repeat walk_at "rd"
                    refine Rd.bool (fun _ => ?_) (fun c2 => by rw [c] at c2; cases c2)
                    repeat walk_at "rd"
                    refine Rd.neD (.str _) (.str _) (by decide +kernel) (by decide +kernel) ?_
                    rw [show PyData.eqv (.str "told") (.str "told") = true by decide +kernel]
                    refine ⟨false, rfl, ?_⟩
                    rw [if_neg Bool.false_ne_true]
                    repeat walk_at "rd"
                    exact ⟨_, _, rfl, (s3.trans (s4.trans (Rd.sNew hp7))).trans s8⟩
                  · rw [show told 0 x = isIn x methods from rfl] at c
                    repeat walk_at "rd"
                    refine Rd.bool (fun c2 => by rw [c] at c2; cases c2) (fun _ => ?_)
                    repeat walk_at "rd"
                    refine ⟨Rd.sz (by simp), fun p9 hp9 => ?_⟩
                    refine Rd.neD (.lst (SqL.of (Rd.sNew hp9 _ _ e8)) (.cons (.bl _) (.cons (.bl _) (.cons (.bl _) .nil)))) (.lst (SqL.of upd_same) (.cons (.bl _) (.cons (.bl _) (.cons (.bl _) .nil)))) (by decide +kernel) (by decide +kernel) ?_
                    rw [show PyData.eqv (.list [.bool true, .bool true, .bool true]) (.list [.bool true, .bool true, .bool true]) = true by decide +kernel]
                    refine ⟨false, rfl, ?_⟩
                    rw [if_neg Bool.false_ne_true]
                    repeat walk_at "rd"
                    exact ⟨_, _, rfl, ((s3.trans (s4.trans (Rd.sNew hp7))).trans s8).trans (Rd.sNew hp9)⟩
                · rw [show inV (.int ((1 : Nat) : Int)) [.int 3, .int 4] = false by decide +kernel]
                  refine ⟨_, rfl, ?_⟩
                  refine Rd.bool (fun c => by cases c) (fun _ => ?_)
                  refine Rd.bool (fun c => by cases c) (fun _ => ?_)
                  repeat walk_at "rd"
                  refine ⟨1, x, tn, txt, rfl, by decide, by decide, kx.mono (s3.trans (s4.trans (Rd.sNew hp7))), fun H' s => shx H' ((s3.trans (s4.trans (Rd.sNew hp7))).trans s), fun c H8 s8 => ?_, fun c p8 H8 hp8 s8 e8 => ?_⟩
                  · rw [show told 1 x = isIn x methods from rfl] at c
                    repeat walk_at "rd"
                    refine Rd.bool (fun _ => ?_) (fun c2 => by rw [c] at c2; cases c2)
                    repeat walk_at "rd"
                    refine Rd.neD (.str _) (.str _) (by decide +kernel) (by decide +kernel) ?_
                    rw [show PyData.eqv (.str "told") (.str "told") = true by decide +kernel]
                    refine ⟨false, rfl, ?_⟩
                    rw [if_neg Bool.false_ne_true]
                    repeat walk_at "rd"
                    exact ⟨_, _, rfl, (s3.trans (s4.trans (Rd.sNew hp7))).trans s8⟩
                  · rw [show told 1 x = isIn x methods from rfl] at c
                    repeat walk_at "rd"
                    refine Rd.bool (fun c2 => by rw [c] at c2; cases c2) (fun _ => ?_)
                    repeat walk_at "rd"
                    refine ⟨Rd.sz (by simp), fun p9 hp9 => ?_⟩
                    refine Rd.neD (.lst (SqL.of (Rd.sNew hp9 _ _ e8)) (.cons (.bl _) (.cons (.bl _) (.cons (.bl _) .nil)))) (.lst (SqL.of upd_same) (.cons (.bl _) (.cons (.bl _) (.cons (.bl _) .nil)))) (by decide +kernel) (by decide +kernel) ?_
                    rw [show PyData.eqv (.list [.bool true, .bool true, .bool true]) (.list [.bool true, .bool true, .bool true]) = true by decide +kernel]
                    refine ⟨false, rfl, ?_⟩
                    rw [if_neg Bool.false_ne_true]
                    repeat walk_at "rd"
                    exact ⟨_, _, rfl, ((s3.trans (s4.trans (Rd.sNew hp7))).trans s8).trans (Rd.sNew hp9)⟩
                · rw [show inV (.int ((2 : Nat) : Int)) [.int 3, .int 4] = false by decide +kernel]
                  refine ⟨_, rfl, ?_⟩
                  refine Rd.bool (fun c => by cases c) (fun _ => ?_)
                  refine Rd.bool (fun c => by cases c) (fun _ => ?_)
                  repeat walk_at "rd"
                  refine ⟨2, x, tn, txt, rfl, by decide, by decide, kx.mono (s3.trans (s4.trans (Rd.sNew hp7))), fun H' s => shx H' ((s3.trans (s4.trans (Rd.sNew hp7))).trans s), fun c H8 s8 => ?_, fun c p8 H8 hp8 s8 e8 => ?_⟩
                  · rw [show told 2 x = isIn x methods from rfl] at c
                    repeat walk_at "rd"
                    refine Rd.bool (fun _ => ?_) (fun c2 => by rw [c] at c2; cases c2)
                    repeat walk_at "rd"
                    refine Rd.neD (.str _) (.str _) (by decide +kernel) (by decide +kernel) ?_
                    rw [show PyData.eqv (.str "told") (.str "told") = true by decide +kernel]
                    refine ⟨false, rfl, ?_⟩
                    rw [if_neg Bool.false_ne_true]
                    repeat walk_at "rd"
                    exact ⟨_, _, rfl, (s3.trans (s4.trans (Rd.sNew hp7))).trans s8⟩
                  · rw [show told 2 x = isIn x methods from rfl] at c
                    repeat walk_at "rd"
                    refine Rd.bool (fun c2 => by rw [c] at c2; cases c2) (fun _ => ?_)
                    repeat walk_at "rd"
                    refine ⟨Rd.sz (by simp), fun p9 hp9 => ?_⟩
                    refine Rd.neD (.lst (SqL.of (Rd.sNew hp9 _ _ e8)) (.cons (.bl _) (.cons (.bl _) (.cons (.bl _) .nil)))) (.lst (SqL.of upd_same) (.cons (.bl _) (.cons (.bl _) (.cons (.bl _) .nil)))) (by decide +kernel) (by decide +kernel) ?_
                    rw [show PyData.eqv (.list [.bool true, .bool true, .bool true]) (.list [.bool true, .bool true, .bool true]) = true by decide +kernel]
                    refine ⟨false, rfl, ?_⟩
                    rw [if_neg Bool.false_ne_true]
                    repeat walk_at "rd"
                    exact ⟨_, _, rfl, ((s3.trans (s4.trans (Rd.sNew hp7))).trans s8).trans (Rd.sNew hp9)⟩
                · rw [show inV (.int ((3 : Nat) : Int)) [.int 3, .int 4] = true by decide +kernel]
                  refine ⟨_, rfl, ?_⟩
                  refine Rd.bool (fun _ => ?_) (fun c => by cases c)
                  repeat walk_at "rd"
                  refine ox.eqs _ (s3.trans (s4.trans (Rd.sNew hp7))) _ ?_
                  repeat walk_at "rd"
                  refine Rd.bool (fun cs => ?_) (fun cs => ?_)
                  · repeat walk_at "rd"
                    refine ⟨3, x, tn, txt, rfl, by decide, by decide, kx.mono (s3.trans (s4.trans (Rd.sNew hp7))), fun H' s => shx H' ((s3.trans (s4.trans (Rd.sNew hp7))).trans s), fun c H8 s8 => ?_, fun c p8 H8 hp8 s8 e8 => ?_⟩
                    · rw [show told 3 x = true by (show (isIn x methods || isIn x ["step"]) = true; rw [cs, Bool.or_true])] at c
                      repeat walk_at "rd"
                      refine Rd.bool (fun _ => ?_) (fun c2 => by cases c2)
                      repeat walk_at "rd"
                      refine Rd.neD (.str _) (.str _) (by decide +kernel) (by decide +kernel) ?_
                      rw [show PyData.eqv (.str "told") (.str "told") = true by decide +kernel]
                      refine ⟨false, rfl, ?_⟩
                      rw [if_neg Bool.false_ne_true]
                      repeat walk_at "rd"
                      exact ⟨_, _, rfl, (s3.trans (s4.trans (Rd.sNew hp7))).trans s8⟩
                    · rw [show told 3 x = true by (show (isIn x methods || isIn x ["step"]) = true; rw [cs, Bool.or_true])] at c
                      cases c
                  · repeat walk_at "rd"
                    refine ⟨3, x, tn, txt, rfl, by decide, by decide, kx.mono (s3.trans (s4.trans (Rd.sNew hp7))), fun H' s => shx H' ((s3.trans (s4.trans (Rd.sNew hp7))).trans s), fun c H8 s8 => ?_, fun c p8 H8 hp8 s8 e8 => ?_⟩
                    · rw [show told 3 x = isIn x methods by (show (isIn x methods || isIn x ["step"]) = _; rw [cs, Bool.or_false])] at c
                      repeat walk_at "rd"
                      refine Rd.bool (fun _ => ?_) (fun c2 => by rw [c] at c2; cases c2)
                      repeat walk_at "rd"
                      refine Rd.neD (.str _) (.str _) (by decide +kernel) (by decide +kernel) ?_
                      rw [show PyData.eqv (.str "told") (.str "told") = true by decide +kernel]
                      refine ⟨false, rfl, ?_⟩
                      rw [if_neg Bool.false_ne_true]
                      repeat walk_at "rd"
                      exact ⟨_, _, rfl, (s3.trans (s4.trans (Rd.sNew hp7))).trans s8⟩
                    · rw [show told 3 x = isIn x methods by (show (isIn x methods || isIn x ["step"]) = _; rw [cs, Bool.or_false])] at c
                      repeat walk_at "rd"
                      refine Rd.bool (fun c2 => by rw [c] at c2; cases c2) (fun _ => ?_)
                      repeat walk_at "rd"
                      refine ⟨Rd.sz (by simp), fun p9 hp9 => ?_⟩
                      refine Rd.neD (.lst (SqL.of (Rd.sNew hp9 _ _ e8)) (.cons (.bl _) (.cons (.bl _) (.cons (.bl _) .nil)))) (.lst (SqL.of upd_same) (.cons (.bl _) (.cons (.bl _) (.cons (.bl _) .nil)))) (by decide +kernel) (by decide +kernel) ?_
                      rw [show PyData.eqv (.list [.bool true, .bool true, .bool true]) (.list [.bool true, .bool true, .bool true]) = true by decide +kernel]
                      refine ⟨false, rfl, ?_⟩
                      rw [if_neg Bool.false_ne_true]
                      repeat walk_at "rd"
                      exact ⟨_, _, rfl, ((s3.trans (s4.trans (Rd.sNew hp7))).trans s8).trans (Rd.sNew hp9)⟩
                · rw [show inV (.int ((4 : Nat) : Int)) [.int 3, .int 4] = true by decide +kernel]
                  refine ⟨_, rfl, ?_⟩
                  refine Rd.bool (fun _ => ?_) (fun c => by cases c)
                  repeat walk_at "rd"
                  refine ox.eqs _ (s3.trans (s4.trans (Rd.sNew hp7))) _ ?_
                  repeat walk_at "rd"
                  refine Rd.bool (fun cs => ?_) (fun cs => ?_)
                  · repeat walk_at "rd"
                    refine ⟨4, x, tn, txt, rfl, by decide, by decide, kx.mono (s3.trans (s4.trans (Rd.sNew hp7))), fun H' s => shx H' ((s3.trans (s4.trans (Rd.sNew hp7))).trans s), fun c H8 s8 => ?_, fun c p8 H8 hp8 s8 e8 => ?_⟩
                    · rw [show told 4 x = true by (show (isIn x methods || isIn x ["step"]) = true; rw [cs, Bool.or_true])] at c
                      repeat walk_at "rd"
                      refine Rd.bool (fun _ => ?_) (fun c2 => by cases c2)
                      repeat walk_at "rd"
                      refine Rd.neD (.str _) (.str _) (by decide +kernel) (by decide +kernel) ?_
                      rw [show PyData.eqv (.str "told") (.str "told") = true by decide +kernel]
                      refine ⟨false, rfl, ?_⟩
                      rw [if_neg Bool.false_ne_true]
                      repeat walk_at "rd"
                      exact ⟨_, _, rfl, (s3.trans (s4.trans (Rd.sNew hp7))).trans s8⟩
                    · rw [show told 4 x = true by (show (isIn x methods || isIn x ["step"]) = true; rw [cs, Bool.or_true])] at c
                      cases c
                  · repeat walk_at "rd"
                    refine ⟨4, x, tn, txt, rfl, by decide, by decide, kx.mono (s3.trans (s4.trans (Rd.sNew hp7))), fun H' s => shx H' ((s3.trans (s4.trans (Rd.sNew hp7))).trans s), fun c H8 s8 => ?_, fun c p8 H8 hp8 s8 e8 => ?_⟩
                    · rw [show told 4 x = isIn x methods by (show (isIn x methods || isIn x ["step"]) = _; rw [cs, Bool.or_false])] at c
                      repeat walk_at "rd"
                      refine Rd.bool (fun _ => ?_) (fun c2 => by rw [c] at c2; cases c2)
                      repeat walk_at "rd"
                      refine Rd.neD (.str _) (.str _) (by decide +kernel) (by decide +kernel) ?_
                      rw [show PyData.eqv (.str "told") (.str "told") = true by decide +kernel]
                      refine ⟨false, rfl, ?_⟩
                      rw [if_neg Bool.false_ne_true]
                      repeat walk_at "rd"
                      exact ⟨_, _, rfl, (s3.trans (s4.trans (Rd.sNew hp7))).trans s8⟩
                    · rw [show told 4 x = isIn x methods by (show (isIn x methods || isIn x ["step"]) = _; rw [cs, Bool.or_false])] at c
                      repeat walk_at "rd"
                      refine Rd.bool (fun c2 => by rw [c] at c2; cases c2) (fun _ => ?_)
                      repeat walk_at "rd"
                      refine ⟨Rd.sz (by simp), fun p9 hp9 => ?_⟩
                      refine Rd.neD (.lst (SqL.of (Rd.sNew hp9 _ _ e8)) (.cons (.bl _) (.cons (.bl _) (.cons (.bl _) .nil)))) (.lst (SqL.of upd_same) (.cons (.bl _) (.cons (.bl _) (.cons (.bl _) .nil)))) (by decide +kernel) (by decide +kernel) ?_
                      rw [show PyData.eqv (.list [.bool true, .bool true, .bool true]) (.list [.bool true, .bool true, .bool true]) = true by decide +kernel]
                      refine ⟨false, rfl, ?_⟩
                      rw [if_neg Bool.false_ne_true]
                      repeat walk_at "rd"
                      exact ⟨_, _, rfl, ((s3.trans (s4.trans (Rd.sNew hp7))).trans s8).trans (Rd.sNew hp9)⟩
            · rintro σ H2 ⟨v8, v9, rfl, s3⟩
              exact ⟨_, _, _, rfl, s3⟩
          · rintro σ' H' ⟨v2, v8, v9, rfl, s2⟩
            repeat walk_at "rd"
            have is2 : told 0 (.str "step") = false := by decide +kernel
            refine ⟨"step", rfl, List.mem_append_right _ (by simp), fun H3 s3 => ?_⟩
            repeat walk_at "rd"
            refine ⟨0, .str "step", "str", _, rfl, by decide, by decide, kd_str "step", shows_of (d := .str "step") (fun _ _ => .str _) (by decide +kernel), fun c => by (rw [is2] at c; cases c), fun _ p4 H4 hp4 s4 e4 => ?_⟩
            repeat walk_at "rd"
            refine ⟨Rd.sz (by simp), fun p5 hp5 => ?_⟩
            refine Rd.eqD (.lst (SqL.of (Rd.sNew hp5 _ _ e4)) (.cons (.bl _) (.cons (.bl _) (.cons (.bl _) .nil)))) (.lst (SqL.of upd_same) (.cons (.bl _) (.cons (.bl _) (.cons (.bl _) .nil)))) (by decide +kernel) (by decide +kernel) ?_
            rw [show PyData.eqv (.list [.bool true, .bool true, .bool true]) (.list [.bool true, .bool true, .bool true]) = true by decide +kernel]
            exact q _
end
end Ab
namespace Ab
open PySem.Spec PyProof.Rows
def clsBody : Stmt → List Stmt
  | .ClassDef _ _ _ b _ _ _ _ _ _ _ => b
  | _ => []
abbrev sInit : Stmt := (clsBody (top 2)).headD (.Pass ⟨0, 0, 0, 0⟩)
theorem scInit : FnScope ["self", "value"] ["self", "value"] (defScope sInit) := ⟨rfl, rfl, rfl, by decide +kernel, rfl, by decide +kernel, by decide +kernel⟩
/-- a tuple that the top has written -/
theorem sqT_of {K : PySem.W.Frag} {p : Addr} {d : Option Addr} {its : Array Value} {m : Nat} {sl : Array (Option Value)} {xs : List V} (l : K.lookup p = some ⟨.type "tuple", d, .seq its m, sl⟩) (z : its.size ≤ sizeLine) (v : Vals xs its.toList) : ∀ H, SqT K H p xs :=
  fun _ => .inr ⟨_, its, m, l, rfl, rfl, z, v⟩
theorem kl_nil {P : Params} : PySem.W.KeysLit P [] := by unfold PySem.W.KeysLit; trivial
theorem kl_cons {P : Params} {x : Str} {t : Tok} {v : Value} {l : List DictEntry} (r : PySem.W.KeysLit P l) : PySem.W.KeysLit P (⟨PyData.keyHash P x, .str x t, v⟩ :: l) := by unfold PySem.W.KeysLit; exact ⟨⟨x, t, rfl, rfl⟩, r⟩
theorem kdct_of {K : PySem.W.Frag} {w : World} {p : Addr} {es : Array DictEntry} {m : Nat} (l : K.lookup p = some ⟨.type "dict", none, .dict es m, #[]⟩) (kl : PySem.W.KeysLit w.params es.toList) {x : Str} {u : Value} {v : V} (hn : PySem.W.nsIn K p x = some (some u)) (r : RelV v u) : KDct K w p x v :=
  ⟨es, m, u, l, kl, hn, r⟩
section
variable {P : Program} {w : World} {K : PySem.W.Frag} {mg : Str → Option Value} {base : Heap}
/-- what except and isinstance ask, out of what the top has written -/
theorem kitCls_ref {K : PySem.W.Frag} {C D : Addr} (h2 : PySem.W.isClsIn K D = true) (h3 : PySem.W.typeIn K (.ref D) = some (.type "type")) (h4 : PySem.W.subIn K (.ref C) (.ref D) = some true) : PySem.W.kitCls K (.ref C) (.ref D) = some true := by
  have h2' : (PySem.W.clsIn K D).isSome = true := h2
  show (if ((PySem.W.clsIn K D).isSome && PySem.W.typeIn K (.ref D) == some (.type "type")) = true then PySem.W.subIn K (.ref C) (.ref D) else none) = some true
  rw [h2', h3, if_pos (by rfl)]
  exact h4
theorem exm_own {K : PySem.W.Frag} {C : Addr} (h1 : PySem.W.subIn K (.ref C) (.type "BaseException") = some true) (h2 : PySem.W.isClsIn K C = true) (h3 : PySem.W.typeIn K (.ref C) = some (.type "type")) (h4 : PySem.W.subIn K (.ref C) (.ref C) = some true) : PySem.W.exmOne K (.ref C) (.ref C) = some true := by
  show (if (PySem.W.subIn K (.ref C) (.type "BaseException") == some true) = true then PySem.W.kitCls K (.ref C) (.ref C) else none) = some true
  rw [h1, if_pos (by rfl)]
  exact kitCls_ref h2 h3 h4
theorem kit_own {K : PySem.W.Frag} {C D : Addr} (h2 : PySem.W.isClsIn K D = true) (h3 : PySem.W.typeIn K (.ref D) = some (.type "type")) (h4 : PySem.W.subIn K (.ref C) (.ref D) = some true) : PySem.W.kitOne K (.ref C) (.ref D) = some true := by
  show (if (Value.ref C == Value.ref D) = true then some true else PySem.W.kitCls K (.ref C) (.ref D)) = some true
  split
  · rfl
  · exact kitCls_ref h2 h3 h4
theorem kit_ve {K : PySem.W.Frag} {C : Addr} (h4 : PySem.W.subIn K (.ref C) (.type "ValueError") = some true) : PySem.W.kitOne K (.ref C) (.type "ValueError") = some true := by
  have e : (Value.ref C == Value.type "ValueError") = false := rfl
  show (if (Value.ref C == Value.type "ValueError") = true then some true else (if PySem.W.kitMeta "ValueError" = true then PySem.W.subIn K (.ref C) (.type "ValueError") else none)) = some true
  rw [e, if_neg Bool.false_ne_true, if_pos (by decide +kernel)]
  exact h4
theorem mem_methods {s : Str} (h : s ∈ methods) : s = "truth" ∨ s = "length" ∨ s = "item" ∨ s = "walk" ∨ s = "back" ∨ s = "has" ∨ s = "like" ∨ s = "unlike" ∨ s = "before" ∨ s = "behind" ∨ s = "hash" ∨ s = "grow" ∨ s = "plus" ∨ s = "call" := by simpa [methods] using h
theorem mem_answers {s : Str} (h : s ∈ (["flag", "item", "walker", "any"] : List Str)) : s = "flag" ∨ s = "item" ∨ s = "walker" ∨ s = "any" := by simpa using h
theorem ok_init {C fI : Addr} {fd : FuncData} (T : Ex.ErrC K mg "NoName" "value" C) (F : Fun K "__init__" "NoName.__init__" sInit fI fd) : FnOk P w K mg base CX0 1 fI fd ["self", "value"] (Ex.spInit C "value") := by
  refine F.ok scInit (fun vs H Q E h => ?_) (fun cdv A outer s H vs Q E hr h => ⟨_, pss_one (ps_ost (pv 0) (pv 1)), ?_⟩)
  · obtain ⟨a, v, rfl, _⟩ := h
    rfl
  · obtain ⟨a, v, rfl, ha, q⟩ := h
    exact ⟨_, rfl, _, rfl, a, C, rfl, T.t, T.no, .inl ⟨ha, q⟩⟩
end
theorem all_mk {l : PySem.W.OpenLaw} {w : World} {K : PySem.W.Frag} {h : Heap} {mg : Str → Option Value} {fa : Addr} (X : K.In h) (G : h.Ns mainGlobals mg) (hfa : mg "law" = some (.ref fa))
    {f1 : Addr} {od1 an1 : Option Addr} {sl1 : Array (Option Value)} {oc1 kV1 dc1 pm1 cd1 ct1 : Value}
    {f2 : Addr} {od2 an2 : Option Addr} {sl2 : Array (Option Value)} {oc2 kV2 dc2 pm2 cd2 ct2 : Value}
    {f3 : Addr} {od3 an3 : Option Addr} {sl3 : Array (Option Value)} {oc3 kV3 dc3 pm3 cd3 ct3 : Value}
    {f4 : Addr} {od4 an4 : Option Addr} {sl4 : Array (Option Value)} {oc4 kV4 dc4 pm4 cd4 ct4 : Value}
    {f5 : Addr} {od5 an5 : Option Addr} {sl5 : Array (Option Value)} {oc5 kV5 dc5 pm5 cd5 ct5 : Value}
    {f6 : Addr} {od6 an6 : Option Addr} {sl6 : Array (Option Value)} {oc6 kV6 dc6 pm6 cd6 ct6 : Value}
    {f7 : Addr} {od7 an7 : Option Addr} {sl7 : Array (Option Value)} {oc7 kV7 dc7 pm7 cd7 ct7 : Value}
    {f8 : Addr} {od8 an8 : Option Addr} {sl8 : Array (Option Value)} {oc8 kV8 dc8 pm8 cd8 ct8 : Value}
    {f9 : Addr} {od9 an9 : Option Addr} {sl9 : Array (Option Value)} {oc9 kV9 dc9 pm9 cd9 ct9 : Value}
    {f10 : Addr} {od10 an10 : Option Addr} {sl10 : Array (Option Value)} {oc10 kV10 dc10 pm10 cd10 ct10 : Value}
    {f11 : Addr} {od11 an11 : Option Addr} {sl11 : Array (Option Value)} {oc11 kV11 dc11 pm11 cd11 ct11 : Value}
    {f12 : Addr} {od12 an12 : Option Addr} {sl12 : Array (Option Value)} {oc12 kV12 dc12 pm12 cd12 ct12 : Value}
    {f13 : Addr} {od13 an13 : Option Addr} {sl13 : Array (Option Value)} {oc13 kV13 dc13 pm13 cd13 ct13 : Value}
    {f14 : Addr} {od14 an14 : Option Addr} {sl14 : Array (Option Value)} {oc14 kV14 dc14 pm14 cd14 ct14 : Value}
    {f15 : Addr} {od15 an15 : Option Addr} {sl15 : Array (Option Value)} {oc15 kV15 dc15 pm15 cd15 ct15 : Value}
    {f16 : Addr} {od16 an16 : Option Addr} {sl16 : Array (Option Value)} {oc16 kV16 dc16 pm16 cd16 ct16 : Value}
    {f17 : Addr} {od17 an17 : Option Addr} {sl17 : Array (Option Value)} {oc17 kV17 dc17 pm17 cd17 ct17 : Value}
    {f18 : Addr} {od18 an18 : Option Addr} {sl18 : Array (Option Value)} {oc18 kV18 dc18 pm18 cd18 ct18 : Value}
    {f19 : Addr} {od19 an19 : Option Addr} {sl19 : Array (Option Value)} {oc19 kV19 dc19 pm19 cd19 ct19 : Value}
    {f20 : Addr} {od20 an20 : Option Addr} {sl20 : Array (Option Value)} {oc20 kV20 dc20 pm20 cd20 ct20 : Value}
    {f21 : Addr} {od21 an21 : Option Addr} {sl21 : Array (Option Value)} {oc21 kV21 dc21 pm21 cd21 ct21 : Value}
    {f22 : Addr} {od22 an22 : Option Addr} {sl22 : Array (Option Value)} {oc22 kV22 dc22 pm22 cd22 ct22 : Value}
    (a1 : PySem.W.nsIn K mainGlobals "is_number" = some (some (.ref f1))) (l1 : K.lookup f1 = some ⟨oc1, od1, .func (PySem.W.fnOf "is_number" "is_number" (defArgs sIs_number) (defBody sIs_number) (defScope sIs_number) .none kV1 dc1 pm1 an1 cd1 ct1), sl1⟩) (c1 : PySem.W.codeIn K cd1 "is_number" = true) (k1 : PySem.W.keepIn K (.ref f1) = true)
    (a2 : PySem.W.nsIn K mainGlobals "is_one_of" = some (some (.ref f2))) (l2 : K.lookup f2 = some ⟨oc2, od2, .func (PySem.W.fnOf "is_one_of" "is_one_of" (defArgs sIs_one_of) (defBody sIs_one_of) (defScope sIs_one_of) .none kV2 dc2 pm2 an2 cd2 ct2), sl2⟩) (c2 : PySem.W.codeIn K cd2 "is_one_of" = true) (k2 : PySem.W.keepIn K (.ref f2) = true)
    (a3 : PySem.W.nsIn K mainGlobals "check_method" = some (some (.ref f3))) (l3 : K.lookup f3 = some ⟨oc3, od3, .func (PySem.W.fnOf "check_method" "check_method" (defArgs sCheck_method) (defBody sCheck_method) (defScope sCheck_method) .none kV3 dc3 pm3 an3 cd3 ct3), sl3⟩) (c3 : PySem.W.codeIn K cd3 "check_method" = true) (k3 : PySem.W.keepIn K (.ref f3) = true)
    (a4 : PySem.W.nsIn K mainGlobals "check_operation" = some (some (.ref f4))) (l4 : K.lookup f4 = some ⟨oc4, od4, .func (PySem.W.fnOf "check_operation" "check_operation" (defArgs sCheck_operation) (defBody sCheck_operation) (defScope sCheck_operation) .none kV4 dc4 pm4 an4 cd4 ct4), sl4⟩) (c4 : PySem.W.codeIn K cd4 "check_operation" = true) (k4 : PySem.W.keepIn K (.ref f4) = true)
    (a5 : PySem.W.nsIn K mainGlobals "kind_of" = some (some (.ref f5))) (l5 : K.lookup f5 = some ⟨oc5, od5, .func (PySem.W.fnOf "kind_of" "kind_of" (defArgs sKind_of) (defBody sKind_of) (defScope sKind_of) .none kV5 dc5 pm5 an5 cd5 ct5), sl5⟩) (c5 : PySem.W.codeIn K cd5 "kind_of" = true) (k5 : PySem.W.keepIn K (.ref f5) = true)
    (a6 : PySem.W.nsIn K mainGlobals "takes_other" = some (some (.ref f6))) (l6 : K.lookup f6 = some ⟨oc6, od6, .func (PySem.W.fnOf "takes_other" "takes_other" (defArgs sTakes_other) (defBody sTakes_other) (defScope sTakes_other) .none kV6 dc6 pm6 an6 cd6 ct6), sl6⟩) (c6 : PySem.W.codeIn K cd6 "takes_other" = true) (k6 : PySem.W.keepIn K (.ref f6) = true)
    (a7 : PySem.W.nsIn K mainGlobals "may_decline" = some (some (.ref f7))) (l7 : K.lookup f7 = some ⟨oc7, od7, .func (PySem.W.fnOf "may_decline" "may_decline" (defArgs sMay_decline) (defBody sMay_decline) (defScope sMay_decline) .none kV7 dc7 pm7 an7 cd7 ct7), sl7⟩) (c7 : PySem.W.codeIn K cd7 "may_decline" = true) (k7 : PySem.W.keepIn K (.ref f7) = true)
    (a8 : PySem.W.nsIn K mainGlobals "outcomes_of" = some (some (.ref f8))) (l8 : K.lookup f8 = some ⟨oc8, od8, .func (PySem.W.fnOf "outcomes_of" "outcomes_of" (defArgs sOutcomes_of) (defBody sOutcomes_of) (defScope sOutcomes_of) .none kV8 dc8 pm8 an8 cd8 ct8), sl8⟩) (c8 : PySem.W.codeIn K cd8 "outcomes_of" = true) (k8 : PySem.W.keepIn K (.ref f8) = true)
    (a9 : PySem.W.nsIn K mainGlobals "is_outcome" = some (some (.ref f9))) (l9 : K.lookup f9 = some ⟨oc9, od9, .func (PySem.W.fnOf "is_outcome" "is_outcome" (defArgs sIs_outcome) (defBody sIs_outcome) (defScope sIs_outcome) .none kV9 dc9 pm9 an9 cd9 ct9), sl9⟩) (c9 : PySem.W.codeIn K cd9 "is_outcome" = true) (k9 : PySem.W.keepIn K (.ref f9) = true)
    (a10 : PySem.W.nsIn K mainGlobals "operands_of" = some (some (.ref f10))) (l10 : K.lookup f10 = some ⟨oc10, od10, .func (PySem.W.fnOf "operands_of" "operands_of" (defArgs sOperands_of) (defBody sOperands_of) (defScope sOperands_of) .none kV10 dc10 pm10 an10 cd10 ct10), sl10⟩) (c10 : PySem.W.codeIn K cd10 "operands_of" = true) (k10 : PySem.W.keepIn K (.ref f10) = true)
    (a11 : PySem.W.nsIn K mainGlobals "_law_pool" = some (some (.ref f11))) (l11 : K.lookup f11 = some ⟨oc11, od11, .func (PySem.W.fnOf "_law_pool" "_law_pool" (defArgs sL_pool) (defBody sL_pool) (defScope sL_pool) .none kV11 dc11 pm11 an11 cd11 ct11), sl11⟩) (c11 : PySem.W.codeIn K cd11 "_law_pool" = true) (k11 : PySem.W.keepIn K (.ref f11) = true)
    (a12 : PySem.W.nsIn K mainGlobals "_law_take" = some (some (.ref f12))) (l12 : K.lookup f12 = some ⟨oc12, od12, .func (PySem.W.fnOf "_law_take" "_law_take" (defArgs sL_take) (defBody sL_take) (defScope sL_take) .none kV12 dc12 pm12 an12 cd12 ct12), sl12⟩) (c12 : PySem.W.codeIn K cd12 "_law_take" = true) (k12 : PySem.W.keepIn K (.ref f12) = true)
    (a13 : PySem.W.nsIn K mainGlobals "_law_one" = some (some (.ref f13))) (l13 : K.lookup f13 = some ⟨oc13, od13, .func (PySem.W.fnOf "_law_one" "_law_one" (defArgs sL_one) (defBody sL_one) (defScope sL_one) .none kV13 dc13 pm13 an13 cd13 ct13), sl13⟩) (c13 : PySem.W.codeIn K cd13 "_law_one" = true) (k13 : PySem.W.keepIn K (.ref f13) = true)
    (a14 : PySem.W.nsIn K mainGlobals "_law_methods" = some (some (.ref f14))) (l14 : K.lookup f14 = some ⟨oc14, od14, .func (PySem.W.fnOf "_law_methods" "_law_methods" (defArgs sL_methods) (defBody sL_methods) (defScope sL_methods) .none kV14 dc14 pm14 an14 cd14 ct14), sl14⟩) (c14 : PySem.W.codeIn K cd14 "_law_methods" = true) (k14 : PySem.W.keepIn K (.ref f14) = true)
    (a15 : PySem.W.nsIn K mainGlobals "_law_operations" = some (some (.ref f15))) (l15 : K.lookup f15 = some ⟨oc15, od15, .func (PySem.W.fnOf "_law_operations" "_law_operations" (defArgs sL_operations) (defBody sL_operations) (defScope sL_operations) .none kV15 dc15 pm15 an15 cd15 ct15), sl15⟩) (c15 : PySem.W.codeIn K cd15 "_law_operations" = true) (k15 : PySem.W.keepIn K (.ref f15) = true)
    (a16 : PySem.W.nsIn K mainGlobals "_law_kinds" = some (some (.ref f16))) (l16 : K.lookup f16 = some ⟨oc16, od16, .func (PySem.W.fnOf "_law_kinds" "_law_kinds" (defArgs sL_kinds) (defBody sL_kinds) (defScope sL_kinds) .none kV16 dc16 pm16 an16 cd16 ct16), sl16⟩) (c16 : PySem.W.codeIn K cd16 "_law_kinds" = true) (k16 : PySem.W.keepIn K (.ref f16) = true)
    (a17 : PySem.W.nsIn K mainGlobals "_law_outcomes" = some (some (.ref f17))) (l17 : K.lookup f17 = some ⟨oc17, od17, .func (PySem.W.fnOf "_law_outcomes" "_law_outcomes" (defArgs sL_outcomes) (defBody sL_outcomes) (defScope sL_outcomes) .none kV17 dc17 pm17 an17 cd17 ct17), sl17⟩) (c17 : PySem.W.codeIn K cd17 "_law_outcomes" = true) (k17 : PySem.W.keepIn K (.ref f17) = true)
    (a18 : PySem.W.nsIn K mainGlobals "_law_values" = some (some (.ref f18))) (l18 : K.lookup f18 = some ⟨oc18, od18, .func (PySem.W.fnOf "_law_values" "_law_values" (defArgs sL_values) (defBody sL_values) (defScope sL_values) .none kV18 dc18 pm18 an18 cd18 ct18), sl18⟩) (c18 : PySem.W.codeIn K cd18 "_law_values" = true) (k18 : PySem.W.keepIn K (.ref f18) = true)
    (a19 : PySem.W.nsIn K mainGlobals "_law_word_right" = some (some (.ref f19))) (l19 : K.lookup f19 = some ⟨oc19, od19, .func (PySem.W.fnOf "_law_word_right" "_law_word_right" (defArgs sL_word_right) (defBody sL_word_right) (defScope sL_word_right) .none kV19 dc19 pm19 an19 cd19 ct19), sl19⟩) (c19 : PySem.W.codeIn K cd19 "_law_word_right" = true) (k19 : PySem.W.keepIn K (.ref f19) = true)
    (a20 : PySem.W.nsIn K mainGlobals "_law_heard" = some (some (.ref f20))) (l20 : K.lookup f20 = some ⟨oc20, od20, .func (PySem.W.fnOf "_law_heard" "_law_heard" (defArgs sL_heard) (defBody sL_heard) (defScope sL_heard) .none kV20 dc20 pm20 an20 cd20 ct20), sl20⟩) (c20 : PySem.W.codeIn K cd20 "_law_heard" = true) (k20 : PySem.W.keepIn K (.ref f20) = true)
    (a21 : PySem.W.nsIn K mainGlobals "_law_odd" = some (some (.ref f21))) (l21 : K.lookup f21 = some ⟨oc21, od21, .func (PySem.W.fnOf "_law_odd" "_law_odd" (defArgs sL_odd) (defBody sL_odd) (defScope sL_odd) .none kV21 dc21 pm21 an21 cd21 ct21), sl21⟩) (c21 : PySem.W.codeIn K cd21 "_law_odd" = true) (k21 : PySem.W.keepIn K (.ref f21) = true)
    (a22 : PySem.W.nsIn K mainGlobals "law" = some (some (.ref f22))) (l22 : K.lookup f22 = some ⟨oc22, od22, .func (PySem.W.fnOf "law" "law" (defArgs sLaw) (defBody sLaw) (defScope sLaw) .none kV22 dc22 pm22 an22 cd22 ct22), sl22⟩) (c22 : PySem.W.codeIn K cd22 "law" = true) (k22 : PySem.W.keepIn K (.ref f22) = true)
    (z_int : PySem.W.nsIn K mainGlobals "int" = some none)
    (z_len : PySem.W.nsIn K mainGlobals "len" = some none)
    (z_max : PySem.W.nsIn K mainGlobals "max" = some none)
    (z_min : PySem.W.nsIn K mainGlobals "min" = some none)
    (z_isinstance : PySem.W.nsIn K mainGlobals "isinstance" = some none)
    (z_repr : PySem.W.nsIn K mainGlobals "repr" = some none)
    (z_tuple : PySem.W.nsIn K mainGlobals "tuple" = some none)
    (z_range : PySem.W.nsIn K mainGlobals "range" = some none)
    (z_list : PySem.W.nsIn K mainGlobals "list" = some none)
    (z_dict : PySem.W.nsIn K mainGlobals "dict" = some none)
    (z_str : PySem.W.nsIn K mainGlobals "str" = some none)
    (z_bool : PySem.W.nsIn K mainGlobals "bool" = some none)
    (z_ValueError : PySem.W.nsIn K mainGlobals "ValueError" = some none)
    (z_sorted : PySem.W.nsIn K mainGlobals "sorted" = some none)
    (z_any : PySem.W.nsIn K mainGlobals "any" = some none)
    {C CA fI N : Addr} {nm q : Str} {bs : List Value} {sn : List Str} {sub : List Value} {ab : Bool} {col : Option Bool} {dd odI anI : Option Addr} {m0 m1 m2 m3 m5 : Option Value} {slI : Array (Option Value)} {ocI dcI pmI cdI ctI : Value}
    (aC : PySem.W.nsIn K mainGlobals "NoName" = some (some (.ref C)))
    (aA : PySem.W.nsIn K mainGlobals "AnswerError" = some (some (.ref CA)))
    (xL : K.lookup C = some (excClassObj nm q C N bs [.ref CA, .type "ValueError", .type "Exception", .type "BaseException", .type "object"] true sn sub ab col dd m0 m1 m2 m3 m5 "ValueError.__new__"))
    (sa : PySem.W.findIn K (.ref C) "__setattr__" = some (some (.builtin "object.__setattr__")))
    (eC : PySem.W.subIn K (.ref C) (.type "BaseException") = some true)
    (tC : PySem.W.typeIn K (.ref C) = some (.type "type"))
    (kC : PySem.W.keepIn K (.ref C) = true)
    (ga : PySem.W.findIn K (.ref C) "__getattribute__" = some (some (.builtin "BaseException.__getattribute__")))
    (gg : PySem.W.findIn K (.ref C) "__getattr__" = some none)
    (hC : PySem.W.hasDictIn K C = true)
    (hcl : PySem.W.findIn K (.ref C) "__class__" = some (some (.builtin "object.__class__")))
    (hsp : PySem.W.specialIn K (.builtin "object.__class__") "__get__" = some (some (.builtin "getset_descriptor.__get__")))
    (htk : PySem.W.takesIn K (.builtin "object.__class__") = some true)
    (hmr : PySem.W.mroIn K C (.type "object") = some true)
    (nf : PySem.W.findIn K (.ref C) "value" = some none)
    (cC : PySem.W.isClsIn K C = true)
    (sC : PySem.W.subIn K (.ref C) (.ref C) = some true)
    (cA : PySem.W.isClsIn K CA = true)
    (tyA : PySem.W.typeIn K (.ref CA) = some (.type "type"))
    (sA : PySem.W.subIn K (.ref C) (.ref CA) = some true)
    (sV : PySem.W.subIn K (.ref C) (.type "ValueError") = some true)
    (iI : PySem.W.findIn K (.ref C) "__init__" = some (some (.ref fI)))
    (tI : PySem.W.typeIn K (.ref fI) = some (.type "function"))
    (lI : K.lookup fI = some ⟨ocI, odI, .func (PySem.W.fnOf "__init__" "NoName.__init__" (defArgs sInit) (defBody sInit) (defScope sInit) .none .none dcI pmI anI cdI ctI), slI⟩)
    (cI : PySem.W.codeIn K cdI "NoName.__init__" = true)
    (kI : PySem.W.keepIn K (.ref fI) = true)
    {p_METHODS : Addr} {d_METHODS : Option Addr} {i_METHODS : Array Value} {n_METHODS : Nat} {s_METHODS : Array (Option Value)} (a_METHODS : PySem.W.nsIn K mainGlobals "METHODS" = some (some (.ref p_METHODS))) (l_METHODS : K.lookup p_METHODS = some ⟨.type "tuple", d_METHODS, .seq i_METHODS n_METHODS, s_METHODS⟩) (z_METHODS : i_METHODS.size ≤ sizeLine) (v_METHODS : Vals (methods.map V.str) i_METHODS.toList)
    {p_OPERATIONS : Addr} {d_OPERATIONS : Option Addr} {i_OPERATIONS : Array Value} {n_OPERATIONS : Nat} {s_OPERATIONS : Array (Option Value)} (a_OPERATIONS : PySem.W.nsIn K mainGlobals "OPERATIONS" = some (some (.ref p_OPERATIONS))) (l_OPERATIONS : K.lookup p_OPERATIONS = some ⟨.type "tuple", d_OPERATIONS, .seq i_OPERATIONS n_OPERATIONS, s_OPERATIONS⟩) (z_OPERATIONS : i_OPERATIONS.size ≤ sizeLine) (v_OPERATIONS : Vals (operations.map V.str) i_OPERATIONS.toList)
    {p_OTHER_TAKERS : Addr} {d_OTHER_TAKERS : Option Addr} {i_OTHER_TAKERS : Array Value} {n_OTHER_TAKERS : Nat} {s_OTHER_TAKERS : Array (Option Value)} (a_OTHER_TAKERS : PySem.W.nsIn K mainGlobals "OTHER_TAKERS" = some (some (.ref p_OTHER_TAKERS))) (l_OTHER_TAKERS : K.lookup p_OTHER_TAKERS = some ⟨.type "tuple", d_OTHER_TAKERS, .seq i_OTHER_TAKERS n_OTHER_TAKERS, s_OTHER_TAKERS⟩) (z_OTHER_TAKERS : i_OTHER_TAKERS.size ≤ sizeLine) (v_OTHER_TAKERS : Vals (others.map V.str) i_OTHER_TAKERS.toList)
    {p_DECLINERS : Addr} {d_DECLINERS : Option Addr} {i_DECLINERS : Array Value} {n_DECLINERS : Nat} {s_DECLINERS : Array (Option Value)} (a_DECLINERS : PySem.W.nsIn K mainGlobals "DECLINERS" = some (some (.ref p_DECLINERS))) (l_DECLINERS : K.lookup p_DECLINERS = some ⟨.type "tuple", d_DECLINERS, .seq i_DECLINERS n_DECLINERS, s_DECLINERS⟩) (z_DECLINERS : i_DECLINERS.size ≤ sizeLine) (v_DECLINERS : Vals (decliners.map V.str) i_DECLINERS.toList)
    {p_ONE_OPERAND : Addr} {d_ONE_OPERAND : Option Addr} {i_ONE_OPERAND : Array Value} {n_ONE_OPERAND : Nat} {s_ONE_OPERAND : Array (Option Value)} (a_ONE_OPERAND : PySem.W.nsIn K mainGlobals "ONE_OPERAND" = some (some (.ref p_ONE_OPERAND))) (l_ONE_OPERAND : K.lookup p_ONE_OPERAND = some ⟨.type "tuple", d_ONE_OPERAND, .seq i_ONE_OPERAND n_ONE_OPERAND, s_ONE_OPERAND⟩) (z_ONE_OPERAND : i_ONE_OPERAND.size ≤ sizeLine) (v_ONE_OPERAND : Vals (ones.map V.str) i_ONE_OPERAND.toList)
    {p_WRONG_KINDS : Addr} {d_WRONG_KINDS : Option Addr} {i_WRONG_KINDS : Array Value} {n_WRONG_KINDS : Nat} {s_WRONG_KINDS : Array (Option Value)} (a_WRONG_KINDS : PySem.W.nsIn K mainGlobals "WRONG_KINDS" = some (some (.ref p_WRONG_KINDS))) (l_WRONG_KINDS : K.lookup p_WRONG_KINDS = some ⟨.type "tuple", d_WRONG_KINDS, .seq i_WRONG_KINDS n_WRONG_KINDS, s_WRONG_KINDS⟩) (z_WRONG_KINDS : i_WRONG_KINDS.size ≤ sizeLine) (v_WRONG_KINDS : Vals (wrongs.map V.str) i_WRONG_KINDS.toList)
    {t4 : Tok} (a_MC : PySem.W.nsIn K mainGlobals "MOST_COUNT" = some (some (.int 4 t4)))
    {p_KINDS : Addr} {e_KINDS : Array DictEntry} {n_KINDS : Nat} (a_KINDS : PySem.W.nsIn K mainGlobals "KINDS" = some (some (.ref p_KINDS))) (l_KINDS : K.lookup p_KINDS = some ⟨.type "dict", none, .dict e_KINDS n_KINDS, #[]⟩) (y_KINDS : PySem.W.KeysLit w.params e_KINDS.toList)
    {p_ANSWERS : Addr} {e_ANSWERS : Array DictEntry} {n_ANSWERS : Nat} (a_ANSWERS : PySem.W.nsIn K mainGlobals "ANSWERS" = some (some (.ref p_ANSWERS))) (l_ANSWERS : K.lookup p_ANSWERS = some ⟨.type "dict", none, .dict e_ANSWERS n_ANSWERS, #[]⟩) (y_ANSWERS : PySem.W.KeysLit w.params e_ANSWERS.toList)
    {t_truth : Tok} (h_truth : PySem.W.nsIn K p_KINDS "truth" = some (some (.str "flag" t_truth)))
    {t_length : Tok} (h_length : PySem.W.nsIn K p_KINDS "length" = some (some (.str "count" t_length)))
    {t_item : Tok} (h_item : PySem.W.nsIn K p_KINDS "item" = some (some (.str "item" t_item)))
    {t_walk : Tok} (h_walk : PySem.W.nsIn K p_KINDS "walk" = some (some (.str "walker" t_walk)))
    {t_back : Tok} (h_back : PySem.W.nsIn K p_KINDS "back" = some (some (.str "walker" t_back)))
    {t_has : Tok} (h_has : PySem.W.nsIn K p_KINDS "has" = some (some (.str "flag" t_has)))
    {t_like : Tok} (h_like : PySem.W.nsIn K p_KINDS "like" = some (some (.str "flag" t_like)))
    {t_unlike : Tok} (h_unlike : PySem.W.nsIn K p_KINDS "unlike" = some (some (.str "flag" t_unlike)))
    {t_before : Tok} (h_before : PySem.W.nsIn K p_KINDS "before" = some (some (.str "flag" t_before)))
    {t_behind : Tok} (h_behind : PySem.W.nsIn K p_KINDS "behind" = some (some (.str "flag" t_behind)))
    {t_hash : Tok} (h_hash : PySem.W.nsIn K p_KINDS "hash" = some (some (.str "count" t_hash)))
    {t_grow : Tok} (h_grow : PySem.W.nsIn K p_KINDS "grow" = some (some (.str "any" t_grow)))
    {t_plus : Tok} (h_plus : PySem.W.nsIn K p_KINDS "plus" = some (some (.str "any" t_plus)))
    {t_call : Tok} (h_call : PySem.W.nsIn K p_KINDS "call" = some (some (.str "any" t_call)))
    {q_Aflag : Addr} {d_Aflag : Option Addr} {i_Aflag : Array Value} {n_Aflag : Nat} {s_Aflag : Array (Option Value)} (g_Aflag : PySem.W.nsIn K p_ANSWERS "flag" = some (some (.ref q_Aflag))) (l_Aflag : K.lookup q_Aflag = some ⟨.type "tuple", d_Aflag, .seq i_Aflag n_Aflag, s_Aflag⟩) (z_Aflag : i_Aflag.size ≤ sizeLine) (v_Aflag : Vals ((answers "flag").map V.str) i_Aflag.toList)
    {q_Aitem : Addr} {d_Aitem : Option Addr} {i_Aitem : Array Value} {n_Aitem : Nat} {s_Aitem : Array (Option Value)} (g_Aitem : PySem.W.nsIn K p_ANSWERS "item" = some (some (.ref q_Aitem))) (l_Aitem : K.lookup q_Aitem = some ⟨.type "tuple", d_Aitem, .seq i_Aitem n_Aitem, s_Aitem⟩) (z_Aitem : i_Aitem.size ≤ sizeLine) (v_Aitem : Vals ((answers "item").map V.str) i_Aitem.toList)
    {q_Awalker : Addr} {d_Awalker : Option Addr} {i_Awalker : Array Value} {n_Awalker : Nat} {s_Awalker : Array (Option Value)} (g_Awalker : PySem.W.nsIn K p_ANSWERS "walker" = some (some (.ref q_Awalker))) (l_Awalker : K.lookup q_Awalker = some ⟨.type "tuple", d_Awalker, .seq i_Awalker n_Awalker, s_Awalker⟩) (z_Awalker : i_Awalker.size ≤ sizeLine) (v_Awalker : Vals ((answers "walker").map V.str) i_Awalker.toList)
    {q_Aany : Addr} {d_Aany : Option Addr} {i_Aany : Array Value} {n_Aany : Nat} {s_Aany : Array (Option Value)} (g_Aany : PySem.W.nsIn K p_ANSWERS "any" = some (some (.ref q_Aany))) (l_Aany : K.lookup q_Aany = some ⟨.type "tuple", d_Aany, .seq i_Aany n_Aany, s_Aany⟩) (z_Aany : i_Aany.size ≤ sizeLine) (v_Aany : Vals ((answers "any").map V.str) i_Aany.toList)
    : ∃ fd : FuncData, (∀ (s : Shared) (u : Value), BindsTo s fd ⟨[u], []⟩ [("_law_script", u)]) ∧ ∀ base : Heap, K.In base → base.Ns mainGlobals mg → FnG l.prog w K mg base CX0 8 fa fd ["_law_script"] (spLaw K) := by
  have e := hfa.symm.trans (PySem.W.mg_of X G a22)
  cases e
  have T : Txt K mg := { int := PySem.W.mg_none_of X G z_int, len := PySem.W.mg_none_of X G z_len, max := PySem.W.mg_none_of X G z_max, min := PySem.W.mg_none_of X G z_min, isinstance := PySem.W.mg_none_of X G z_isinstance, repr := PySem.W.mg_none_of X G z_repr, tuple := PySem.W.mg_none_of X G z_tuple, range := PySem.W.mg_none_of X G z_range, list := PySem.W.mg_none_of X G z_list, dict := PySem.W.mg_none_of X G z_dict, str := PySem.W.mg_none_of X G z_str, bool := PySem.W.mg_none_of X G z_bool, ValueError := PySem.W.mg_none_of X G z_ValueError, sorted := PySem.W.mg_none_of X G z_sorted, any := PySem.W.mg_none_of X G z_any }
  have D1 : DefAt K mg "is_number" sIs_number ["value"] := defAt X G (fun _ _ _ _ _ _ us hl => match us, hl with | [_], _ => rfl) a1 l1 c1 k1
  have D2 : DefAt K mg "is_one_of" sIs_one_of ["value", "words"] := defAt X G (fun _ _ _ _ _ _ us hl => match us, hl with | [_, _], _ => rfl) a2 l2 c2 k2
  have D3 : DefAt K mg "check_method" sCheck_method ["method"] := defAt X G (fun _ _ _ _ _ _ us hl => match us, hl with | [_], _ => rfl) a3 l3 c3 k3
  have D4 : DefAt K mg "check_operation" sCheck_operation ["operation"] := defAt X G (fun _ _ _ _ _ _ us hl => match us, hl with | [_], _ => rfl) a4 l4 c4 k4
  have D5 : DefAt K mg "kind_of" sKind_of ["method"] := defAt X G (fun _ _ _ _ _ _ us hl => match us, hl with | [_], _ => rfl) a5 l5 c5 k5
  have D6 : DefAt K mg "takes_other" sTakes_other ["method"] := defAt X G (fun _ _ _ _ _ _ us hl => match us, hl with | [_], _ => rfl) a6 l6 c6 k6
  have D7 : DefAt K mg "may_decline" sMay_decline ["method"] := defAt X G (fun _ _ _ _ _ _ us hl => match us, hl with | [_], _ => rfl) a7 l7 c7 k7
  have D8 : DefAt K mg "outcomes_of" sOutcomes_of ["word"] := defAt X G (fun _ _ _ _ _ _ us hl => match us, hl with | [_], _ => rfl) a8 l8 c8 k8
  have D9 : DefAt K mg "is_outcome" sIs_outcome ["word", "value"] := defAt X G (fun _ _ _ _ _ _ us hl => match us, hl with | [_, _], _ => rfl) a9 l9 c9 k9
  have D10 : DefAt K mg "operands_of" sOperands_of ["operation"] := defAt X G (fun _ _ _ _ _ _ us hl => match us, hl with | [_], _ => rfl) a10 l10 c10 k10
  have D11 : DefAt K mg "_law_pool" sL_pool ["_law_script", "_law_k"] := defAt X G (fun _ _ _ _ _ _ us hl => match us, hl with | [_, _], _ => rfl) a11 l11 c11 k11
  have D12 : DefAt K mg "_law_take" sL_take ["_law_pool_here", "_law_many"] := defAt X G (fun _ _ _ _ _ _ us hl => match us, hl with | [_, _], _ => rfl) a12 l12 c12 k12
  have D13 : DefAt K mg "_law_one" sL_one ["_law_pool_here", "_law_some"] := defAt X G (fun _ _ _ _ _ _ us hl => match us, hl with | [_, _], _ => rfl) a13 l13 c13 k13
  have D14 : DefAt K mg "_law_methods" sL_methods [] := defAt X G (fun _ _ _ _ _ _ us hl => match us, hl with | [], _ => rfl) a14 l14 c14 k14
  have D15 : DefAt K mg "_law_operations" sL_operations [] := defAt X G (fun _ _ _ _ _ _ us hl => match us, hl with | [], _ => rfl) a15 l15 c15 k15
  have D16 : DefAt K mg "_law_kinds" sL_kinds [] := defAt X G (fun _ _ _ _ _ _ us hl => match us, hl with | [], _ => rfl) a16 l16 c16 k16
  have D17 : DefAt K mg "_law_outcomes" sL_outcomes ["_law_word"] := defAt X G (fun _ _ _ _ _ _ us hl => match us, hl with | [_], _ => rfl) a17 l17 c17 k17
  have D18 : DefAt K mg "_law_values" sL_values [] := defAt X G (fun _ _ _ _ _ _ us hl => match us, hl with | [], _ => rfl) a18 l18 c18 k18
  have D19 : DefAt K mg "_law_word_right" sL_word_right ["_law_word"] := defAt X G (fun _ _ _ _ _ _ us hl => match us, hl with | [_], _ => rfl) a19 l19 c19 k19
  have D20 : DefAt K mg "_law_heard" sL_heard ["_law_door", "_law_word"] := defAt X G (fun _ _ _ _ _ _ us hl => match us, hl with | [_, _], _ => rfl) a20 l20 c20 k20
  have D21 : DefAt K mg "_law_odd" sL_odd ["_law_pool_here"] := defAt X G (fun _ _ _ _ _ _ us hl => match us, hl with | [_], _ => rfl) a21 l21 c21 k21
  have FL := fun_mk (st := sLaw) l22 c22 k22
  have TN : Ex.ErrC K mg "NoName" "value" C := { t := ⟨⟨nm, q, N, bs, _, sn, sub, ab, col, dd, m0, m1, m2, m3, m5, xL, by rfl⟩, sa, eC, tC, kC⟩, xf := ⟨ga, gg, eC, hC⟩, ic := ⟨ga, gg, eC, hC, hcl, hsp, htk, hmr⟩, no := nf, g := PySem.W.mg_of X G aC, te := exm_own eC cC tC sC }
  have FI := fun_mk (st := sInit) lI cI kI
  have bI := FI.binds (ps := ["self", "value"]) fun _ _ _ _ _ _ us hl => match us, hl with | [_, _], _ => rfl
  have S_METHODS := sqT_of l_METHODS z_METHODS v_METHODS
  have S_OPERATIONS := sqT_of l_OPERATIONS z_OPERATIONS v_OPERATIONS
  have S_OTHER_TAKERS := sqT_of l_OTHER_TAKERS z_OTHER_TAKERS v_OTHER_TAKERS
  have S_DECLINERS := sqT_of l_DECLINERS z_DECLINERS v_DECLINERS
  have S_ONE_OPERAND := sqT_of l_ONE_OPERAND z_ONE_OPERAND v_ONE_OPERAND
  have S_WRONG_KINDS := sqT_of l_WRONG_KINDS z_WRONG_KINDS v_WRONG_KINDS
  have tK : ∀ s ∈ methods, KDct K w p_KINDS s (.str (kindOf s)) := by
    intro s hs
    rcases mem_methods hs with rfl | rfl | rfl | rfl | rfl | rfl | rfl | rfl | rfl | rfl | rfl | rfl | rfl | rfl
    · exact kdct_of l_KINDS y_KINDS h_truth ⟨_, rfl⟩
    · exact kdct_of l_KINDS y_KINDS h_length ⟨_, rfl⟩
    · exact kdct_of l_KINDS y_KINDS h_item ⟨_, rfl⟩
    · exact kdct_of l_KINDS y_KINDS h_walk ⟨_, rfl⟩
    · exact kdct_of l_KINDS y_KINDS h_back ⟨_, rfl⟩
    · exact kdct_of l_KINDS y_KINDS h_has ⟨_, rfl⟩
    · exact kdct_of l_KINDS y_KINDS h_like ⟨_, rfl⟩
    · exact kdct_of l_KINDS y_KINDS h_unlike ⟨_, rfl⟩
    · exact kdct_of l_KINDS y_KINDS h_before ⟨_, rfl⟩
    · exact kdct_of l_KINDS y_KINDS h_behind ⟨_, rfl⟩
    · exact kdct_of l_KINDS y_KINDS h_hash ⟨_, rfl⟩
    · exact kdct_of l_KINDS y_KINDS h_grow ⟨_, rfl⟩
    · exact kdct_of l_KINDS y_KINDS h_plus ⟨_, rfl⟩
    · exact kdct_of l_KINDS y_KINDS h_call ⟨_, rfl⟩
  have tA : ∀ k ∈ (["flag", "item", "walker", "any"] : List Str), ∃ q, KDct K w p_ANSWERS k (.ref q) ∧ ∀ H, SqT K H q ((answers k).map V.str) := by
    intro k hk
    rcases mem_answers hk with rfl | rfl | rfl | rfl
    · exact ⟨q_Aflag, kdct_of l_ANSWERS y_ANSWERS g_Aflag rfl, sqT_of l_Aflag z_Aflag v_Aflag⟩
    · exact ⟨q_Aitem, kdct_of l_ANSWERS y_ANSWERS g_Aitem rfl, sqT_of l_Aitem z_Aitem v_Aitem⟩
    · exact ⟨q_Awalker, kdct_of l_ANSWERS y_ANSWERS g_Awalker rfl, sqT_of l_Awalker z_Awalker v_Awalker⟩
    · exact ⟨q_Aany, kdct_of l_ANSWERS y_ANSWERS g_Aany rfl, sqT_of l_Aany z_Aany v_Aany⟩
  refine ⟨PySem.W.fnOf "law" "law" (defArgs sLaw) (defBody sLaw) (defScope sLaw) .none kV22 dc22 pm22 an22 cd22 ct22, fun s v => .of_eq rfl, fun base _ _ => ?_⟩
  have IN : Ex.InitOk l.prog w K mg base "value" C := ⟨fI, _, iI, tI, ok_init TN FI, bI⟩
  have B_num := ok_number (P := l.prog) (w := w) (base := base) T D1
  have B_one := ok_one_of (P := l.prog) (w := w) (base := base) T D2
  have B_cm := ok_check_method T (PySem.W.mg_of X G a_METHODS) S_METHODS TN IN D3 B_one
  have B_co := ok_check_operation T (PySem.W.mg_of X G a_OPERATIONS) S_OPERATIONS TN IN D4 B_one
  have B_kind := ok_kind_of T (PySem.W.mg_of X G a_KINDS) tK D5 B_cm
  have B_oth := ok_takes_other T (PySem.W.mg_of X G a_OTHER_TAKERS) S_OTHER_TAKERS D6 B_cm
  have B_dec := ok_may_decline T (PySem.W.mg_of X G a_DECLINERS) S_DECLINERS D7 B_cm
  have B_ops := ok_operands_of T (PySem.W.mg_of X G a_ONE_OPERAND) S_ONE_OPERAND D10 B_co
  have B_out := ok_outcomes_of T (PySem.W.mg_of X G a_ANSWERS) (PySem.W.mg_of X G a_WRONG_KINDS) (PySem.W.mg_of X G a_MC) tA S_WRONG_KINDS D8 B_one B_kind B_dec
  have B_is := ok_is_outcome T D9 B_num B_out
  have B_heard := ok_heard T TN (PySem.W.mg_of X G aA) (kit_own cA tyA sA) (kit_ve sV) D20 B_kind B_oth B_dec B_out B_is B_ops
  have B_pool := ok_pool (P := l.prog) (w := w) (base := base) T D11
  have B_take := ok_take (P := l.prog) (w := w) (base := base) T D12
  have B_lone := ok_one T D13 B_take
  have B_ms := ok_methods (P := l.prog) (w := w) (base := base) D14
  have B_os := ok_operations (P := l.prog) (w := w) (base := base) D15
  have B_ks := ok_kinds (P := l.prog) (w := w) (base := base) T D16
  have B_due := ok_due (P := l.prog) (w := w) (base := base) D17
  have B_vals := ok_values (P := l.prog) (w := w) (base := base) D18
  have B_right := ok_right T D19 B_due B_vals B_out B_is
  have B_odd := ok_odd T D21 B_ms B_os B_take B_lone
  exact ok_law T (PySem.W.mg_of X G a_METHODS) (PySem.W.mg_of X G a_OPERATIONS) (PySem.W.mg_of X G a_MC) S_METHODS S_OPERATIONS FL B_ms B_os B_ks B_kind B_oth B_dec B_ops B_right B_pool B_odd B_heard
end Ab
open PySem PySem.W PyProof.Rows
set_option maxRecDepth 100000 in
set_option maxHeartbeats 0 in
theorem PySem.Challenge.cw_answersby_k01_kinds_and_outcomes_holds : PySem.Challenge.rw_answersby_k01_kinds_and_outcomes.Holds := by
  w_on; o_law; k_head; (case hw => w_witness2)
  k_fill
  refine Gk.walkG (l := PySem.Challenge.rw_answersby_k01_kinds_and_outcomes) (n := 63) (k := 8) (x := "_law_script") (sp := fun w => Ab.spLaw _) rfl (by decide) rfl ⟨rfl, by decide, by decide⟩ (fun w h Y => PySem.W.kIn_of Y) ?F (fun w H a ns hl _ hS => ⟨a, ns, rfl, hS, hl, fun _ => rfl⟩)
  case F =>
    intro w mg fa h KX G hmg
    refine' Ab.all_mk KX G hmg ?a1 ?l1 ?c1 ?k1 ?a2 ?l2 ?c2 ?k2 ?a3 ?l3 ?c3 ?k3 ?a4 ?l4 ?c4 ?k4 ?a5 ?l5 ?c5 ?k5 ?a6 ?l6 ?c6 ?k6 ?a7 ?l7 ?c7 ?k7 ?a8 ?l8 ?c8 ?k8 ?a9 ?l9 ?c9 ?k9 ?a10 ?l10 ?c10 ?k10 ?a11 ?l11 ?c11 ?k11 ?a12 ?l12 ?c12 ?k12 ?a13 ?l13 ?c13 ?k13 ?a14 ?l14 ?c14 ?k14 ?a15 ?l15 ?c15 ?k15 ?a16 ?l16 ?c16 ?k16 ?a17 ?l17 ?c17 ?k17 ?a18 ?l18 ?c18 ?k18 ?a19 ?l19 ?c19 ?k19 ?a20 ?l20 ?c20 ?k20 ?a21 ?l21 ?c21 ?k21 ?a22 ?l22 ?c22 ?k22 ?z_int ?z_len ?z_max ?z_min ?z_isinstance ?z_repr ?z_tuple ?z_range ?z_list ?z_dict ?z_str ?z_bool ?z_ValueError ?z_sorted ?z_any ?aC ?aA ?xL ?sa ?eC ?tC ?kC ?ga ?gg ?hC ?hcl ?hsp ?htk ?hmr ?nf ?cC ?sC ?cA ?tyA ?sA ?sV ?iI ?tI ?lI ?cI ?kI ?a_METHODS ?l_METHODS ?z_METHODS ?v_METHODS ?a_OPERATIONS ?l_OPERATIONS ?z_OPERATIONS ?v_OPERATIONS ?a_OTHER_TAKERS ?l_OTHER_TAKERS ?z_OTHER_TAKERS ?v_OTHER_TAKERS ?a_DECLINERS ?l_DECLINERS ?z_DECLINERS ?v_DECLINERS ?a_ONE_OPERAND ?l_ONE_OPERAND ?z_ONE_OPERAND ?v_ONE_OPERAND ?a_WRONG_KINDS ?l_WRONG_KINDS ?z_WRONG_KINDS ?v_WRONG_KINDS ?a_MC ?a_KINDS ?l_KINDS ?y_KINDS ?a_ANSWERS ?l_ANSWERS ?y_ANSWERS ?h_truth ?h_length ?h_item ?h_walk ?h_back ?h_has ?h_like ?h_unlike ?h_before ?h_behind ?h_hash ?h_grow ?h_plus ?h_call ?g_Aflag ?l_Aflag ?z_Aflag ?v_Aflag ?g_Aitem ?l_Aitem ?z_Aitem ?v_Aitem ?g_Awalker ?l_Awalker ?z_Awalker ?v_Awalker ?g_Aany ?l_Aany ?z_Aany ?v_Aany
    (case a1 => k_is)
    (case l1 => k_is)
    (case c1 => k_is)
    (case k1 => k_is)
    (case a2 => k_is)
    (case l2 => k_is)
    (case c2 => k_is)
    (case k2 => k_is)
    (case a3 => k_is)
    (case l3 => k_is)
    (case c3 => k_is)
    (case k3 => k_is)
    (case a4 => k_is)
    (case l4 => k_is)
    (case c4 => k_is)
    (case k4 => k_is)
    (case a5 => k_is)
    (case l5 => k_is)
    (case c5 => k_is)
    (case k5 => k_is)
    (case a6 => k_is)
    (case l6 => k_is)
    (case c6 => k_is)
    (case k6 => k_is)
    (case a7 => k_is)
    (case l7 => k_is)
    (case c7 => k_is)
    (case k7 => k_is)
    (case a8 => k_is)
    (case l8 => k_is)
    (case c8 => k_is)
    (case k8 => k_is)
    (case a9 => k_is)
    (case l9 => k_is)
    (case c9 => k_is)
    (case k9 => k_is)
    (case a10 => k_is)
    (case l10 => k_is)
    (case c10 => k_is)
    (case k10 => k_is)
    (case a11 => k_is)
    (case l11 => k_is)
    (case c11 => k_is)
    (case k11 => k_is)
    (case a12 => k_is)
    (case l12 => k_is)
    (case c12 => k_is)
    (case k12 => k_is)
    (case a13 => k_is)
    (case l13 => k_is)
    (case c13 => k_is)
    (case k13 => k_is)
    (case a14 => k_is)
    (case l14 => k_is)
    (case c14 => k_is)
    (case k14 => k_is)
    (case a15 => k_is)
    (case l15 => k_is)
    (case c15 => k_is)
    (case k15 => k_is)
    (case a16 => k_is)
    (case l16 => k_is)
    (case c16 => k_is)
    (case k16 => k_is)
    (case a17 => k_is)
    (case l17 => k_is)
    (case c17 => k_is)
    (case k17 => k_is)
    (case a18 => k_is)
    (case l18 => k_is)
    (case c18 => k_is)
    (case k18 => k_is)
    (case a19 => k_is)
    (case l19 => k_is)
    (case c19 => k_is)
    (case k19 => k_is)
    (case a20 => k_is)
    (case l20 => k_is)
    (case c20 => k_is)
    (case k20 => k_is)
    (case a21 => k_is)
    (case l21 => k_is)
    (case c21 => k_is)
    (case k21 => k_is)
    (case a22 => k_is)
    (case l22 => k_is)
    (case c22 => k_is)
    (case k22 => k_is)
    (case z_int => k_is)
    (case z_len => k_is)
    (case z_max => k_is)
    (case z_min => k_is)
    (case z_isinstance => k_is)
    (case z_repr => k_is)
    (case z_tuple => k_is)
    (case z_range => k_is)
    (case z_list => k_is)
    (case z_dict => k_is)
    (case z_str => k_is)
    (case z_bool => k_is)
    (case z_ValueError => k_is)
    (case z_sorted => k_is)
    (case z_any => k_is)
    (case aC => k_is)
    (case aA => k_is)
    (case xL => k_is)
    (case sa => k_is)
    (case eC => k_is)
    (case tC => k_is)
    (case kC => k_is)
    (case ga => k_is)
    (case gg => k_is)
    (case hC => k_is)
    (case hcl => k_is)
    (case hsp => k_is)
    (case htk => k_is)
    (case hmr => k_is)
    (case nf => k_is)
    (case cC => k_is)
    (case sC => k_is)
    (case cA => k_is)
    (case tyA => k_is)
    (case sA => k_is)
    (case sV => k_is)
    (case iI => k_is)
    (case tI => k_is)
    (case lI => k_is)
    (case cI => k_is)
    (case kI => k_is)
    (case a_METHODS => k_is)
    (case l_METHODS => k_is)
    (case z_METHODS => decide +kernel)
    (case v_METHODS => repeat (first | exact .nil | refine .cons ⟨_, rfl⟩ ?_))
    (case a_OPERATIONS => k_is)
    (case l_OPERATIONS => k_is)
    (case z_OPERATIONS => decide +kernel)
    (case v_OPERATIONS => repeat (first | exact .nil | refine .cons ⟨_, rfl⟩ ?_))
    (case a_OTHER_TAKERS => k_is)
    (case l_OTHER_TAKERS => k_is)
    (case z_OTHER_TAKERS => decide +kernel)
    (case v_OTHER_TAKERS => repeat (first | exact .nil | refine .cons ⟨_, rfl⟩ ?_))
    (case a_DECLINERS => k_is)
    (case l_DECLINERS => k_is)
    (case z_DECLINERS => decide +kernel)
    (case v_DECLINERS => repeat (first | exact .nil | refine .cons ⟨_, rfl⟩ ?_))
    (case a_ONE_OPERAND => k_is)
    (case l_ONE_OPERAND => k_is)
    (case z_ONE_OPERAND => decide +kernel)
    (case v_ONE_OPERAND => repeat (first | exact .nil | refine .cons ⟨_, rfl⟩ ?_))
    (case a_WRONG_KINDS => k_is)
    (case l_WRONG_KINDS => k_is)
    (case z_WRONG_KINDS => decide +kernel)
    (case v_WRONG_KINDS => repeat (first | exact .nil | refine .cons ⟨_, rfl⟩ ?_))
    (case a_MC => k_is)
    (case a_KINDS => k_is)
    (case l_KINDS => k_is)
    (case y_KINDS => repeat (first | exact Ab.kl_nil | refine Ab.kl_cons ?_))
    (case a_ANSWERS => k_is)
    (case l_ANSWERS => k_is)
    (case y_ANSWERS => repeat (first | exact Ab.kl_nil | refine Ab.kl_cons ?_))
    (case h_truth => k_is)
    (case h_length => k_is)
    (case h_item => k_is)
    (case h_walk => k_is)
    (case h_back => k_is)
    (case h_has => k_is)
    (case h_like => k_is)
    (case h_unlike => k_is)
    (case h_before => k_is)
    (case h_behind => k_is)
    (case h_hash => k_is)
    (case h_grow => k_is)
    (case h_plus => k_is)
    (case h_call => k_is)
    (case g_Aflag => k_is)
    (case l_Aflag => k_is)
    (case z_Aflag => decide +kernel)
    (case v_Aflag => repeat (first | exact .nil | refine .cons ⟨_, rfl⟩ ?_))
    (case g_Aitem => k_is)
    (case l_Aitem => k_is)
    (case z_Aitem => decide +kernel)
    (case v_Aitem => repeat (first | exact .nil | refine .cons ⟨_, rfl⟩ ?_))
    (case g_Awalker => k_is)
    (case l_Awalker => k_is)
    (case z_Awalker => decide +kernel)
    (case v_Awalker => repeat (first | exact .nil | refine .cons ⟨_, rfl⟩ ?_))
    (case g_Aany => k_is)
    (case l_Aany => k_is)
    (case z_Aany => decide +kernel)
    (case v_Aany => repeat (first | exact .nil | refine .cons ⟨_, rfl⟩ ?_))
