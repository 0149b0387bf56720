import PyProof.Rows.All
import Wide.All
import OpenK.AllK
import Wide.FinOn
import HandS.ForMost
import PyProof.ReprReads
import PyProof.ReprRoads
import HandS.Codes
import HandS.ForExc
import HandS.ExcInit
import HandS.ExcField
import HandS.ExcIs
import KE.KExcIs
import HandS.IsInst
import HandS.WrittenGet
import HandS.Star
import HandS.Conv
import HandS.More
import HandS.Deep
import PyProof.EqKinds
import PySem.Challenge.RW_answersby_k60_ends_related
set_option Elab.async false
set_option linter.all false
set_option maxRecDepth 100000
set_option maxHeartbeats 8000000
/-! repr of data; defs that are called where no container is being shown -/
namespace Gk
open PySem L2 PySem.Spec PyProof.Rows

/-! ### a def's promise, kept where no list, tuple or dict is being shown -/
structure FnG (P : Program) (w : World) (K : PySem.W.Frag) (mg : Str → Option Value) (base : Heap) (CX : CXT) (k : Nat) (f : Addr) (fd : FuncData) (ps : List Str) (sp : Sp) : Prop where
  len : ∀ vs H Q E, sp vs H Q E → vs.length = ps.length
  go : ∀ (A : Around), A.guards = some [] → ∀ (outer : List Env) (s : Shared) (H : Hp) (args : Args) (us : List Value) (vs : List V) (Q : VK) (E : XK),
    Room k A → Env0 P w K mg base A outer s H → BindsTo s fd args (ps.zip us) → Vals vs us → sp vs H Q E → codeAny (model P w) A (.call (.ref f) args) (CR CX outer P w H s Q E) s

section
variable {P : Program} {w : World} {K : PySem.W.Frag} {mg : Str → Option Value} {base : Heap} {CX : CXT} {j k : Nat} {f : Addr} {fd : FuncData} {ps : List Str} {sp : Sp}
theorem FnG.up (F : FnG P w K mg base CX j f fd ps sp) (h : j ≤ k) : FnG P w K mg base CX k f fd ps sp :=
  ⟨F.len, fun A g outer s H args us vs Q E hr => F.go A g outer s H args us vs Q E (hr.mono h)⟩
end

section
variable {X : Cx} {CX : CXT} {k : Nat} {f : Addr} {fd : FuncData} {ps : List Str} {sp : Sp} {dvs : List V} {ds : List Value} {E : XK} {x : Str} {p pos : Pos} {e : Expr} {es : List Expr} {t : TA}
theorem runG {pins : List (Addr × Obj)} {σ : L2.St} {H : Hp} {s : Shared} {Q : VK} {us : List Value} {vs : List V} (F : FnG X.prog X.w X.K X.mg X.base CX k f fd ps sp) (g : X.A.guards = some [])
    (hr : Room k X.A) (hb : Binds X.K fd ps ds) (hd : Vals dvs ds) (hx : Passes CX X E) (I : Inv X pins σ H s) (r : Vals vs us) (h : sp (vs ++ dvs) H Q E) :
    wpAny (model X.prog X.w) X.A (call (.ref f) us) (EP X pins σ Q) X.xe s := by
  have rr := r.append hd
  have lens : (us ++ ds).length = ps.length := (rr.length).symm.trans (F.len _ _ _ _ h)
  have body := F.go X.A g X.stack s H ⟨us, []⟩ (us ++ ds) (vs ++ dvs) Q E hr I.env0 (hb s us I.kIn lens) rr h
  refine wpAny_call (codeAny_mono body ?_)
  intro res s' hres
  match res, hres with
  | .error e, z => exact hx pins σ H s e s' I z
  | .ok (.ret u), z => exact I.after z
  | .ok .next, z => exact z.elim
  | .ok .brk, z => exact z.elim
  | .ok .cont, z => exact z.elim
theorem pe_callG (F : FnG X.prog X.w X.K X.mg X.base CX k f fd ps sp) (g : X.A.guards = some []) (hr : Room k X.A) (hg : Gl X x) (hm : X.mg x = some (.ref f))
    (hk : PySem.W.keepIn X.K (.ref f) = true) (hb : Binds X.K fd ps ds) (hd : Vals dvs ds) (hx : Passes CX X E) (ha : PA X (e :: es) t)
    (hdb : (x == ("__debug__" : Str)) = false := by decide)
    (he : starEach (e :: es) X.env = (false, eval e X.env) :: starEach es X.env := by rfl)
    (hpl : (backTo pos (starEach es X.env)).any (·.1) = false := by rfl) :
    PE X (.Call (.Name x p) (e :: es) [] pos) (tCall sp dvs E t) := by
  refine ⟨fun pins s σ H Q I h => wpAny_Call_Name_kw (ld_glob I hg hm ?_ hdb)⟩
  have args := ha.run pos pins s σ H _ I h
  refine PySem.W.callWith_K (h₀ := X.base) I.ok.mod.kin hk (thn args ?_) he hpl
  rintro us s1 ⟨vs, H1, I1, r, q⟩
  exact ⟨I1.kIn, runG F g hr hb hd hx I1 r q⟩
end

/-! ### a def of the text, and the law's own call -/
section
variable {CX : CXT} {P : Program} {w : World} {K : PySem.W.Frag} {mg : Str → Option Value} {base : Heap}
theorem defG {k : Nat} {f : Addr} {x qual : Str} {st : Stmt} {fd : FuncData} {N ps : List Str} {sp : Sp}
    (F : Fun K x qual st f fd) (S : FnScope N ps (defScope st)) (len : ∀ vs H Q E, sp vs H Q E → vs.length = ps.length)
    (inner : ∀ (cd : Value) (A : Around), A.guards = some [] → ∀ (outer : List Env) (s : Shared) (H : Hp) (vs : List V) (Q : VK) (E : XK),
      Room k (A.deeper (envOfC qual (defScope st) s.heap.objs.size f cd)) → sp vs H Q E →
      ∃ t, PSs (cxOf CX P w K mg base N qual (defScope st) f cd A outer s H E) (defBody st) t ∧ t { nx := fun _ H' => Q .non H', rt := Q } (start N vs) H) :
    FnG P w K mg base CX (k + 1) f fd ps sp := by
  obtain ⟨oc, od, kV, doc, pm, an, cd, ct, osl, rfl, lk, hcd⟩ := F.ex
  refine ⟨len, ?_⟩
  intro A g outer s H args us vs Q E hr e0 hb r hsp
  have kept : ∀ b o, base.get? b = some o → s.heap.get? b = some o := fun b o z => (e0.bs b o z).1
  have KX : K.In s.heap := e0.mod.kin.keeps kept
  have lim : s.heap.NoLimit := e0.mod.nolimit.keeps kept
  have slots : ∀ y ∈ ps.zip us, (defScope st).names.lookup y.1 = some .local ∨
      ((defScope st).names.lookup y.1 = some .cell ∧ ((cellsFrom (s.heap.objs.size + 1) (defScope st).names []).lookup y.1).isSome = true) := by
    rintro ⟨n, v⟩ hy
    have hp := S.par n (List.of_mem_zip hy).1
    exact hp.imp id fun q => ⟨q, PySem.W.cellsFrom_some _ _ _ (.inl q)⟩
  refine codeAny_call_function hr.depth (KX _ _ lk) rfl S.co S.gen rfl (PySem.W.codeRec_of KX hcd) (hb _ _ _ _ ?_)
  refine wpAny_newFunctionEnv_cells S.kind slots ?_
  rintro env rfl s1 x
  refine ⟨lim.keeps x.toInCall.keep, codeAny_func ?_⟩
  obtain ⟨t, ht, hq⟩ := inner cd A g outer s H vs Q E (hr.deeper _) hsp
  have I := inv_start (CX := CX) (mg := mg) (E := E) S hr.hd e0 (len _ _ _ _ hsp) r x
  refine wpAny_mono (ht.run [] s1 (start N vs) H _ I hq) ?_ fun _ _ z => z
  intro fl s' hs
  match fl, hs with
  | .ret u, ⟨v, σ', H', J, rv, q⟩ => exact ⟨v, H', J.os, J.bare, J.base, J.hok, rv, q⟩
  | .next, ⟨σ', H', J, q⟩ => exact ⟨V.non, H', J.os, J.bare, J.base, J.hok, rfl, q⟩
  | .brk, ⟨_, _, _, q⟩ => exact q.elim
  | .cont, ⟨_, _, _, q⟩ => exact q.elim
/-- no exception leaves the def -/
theorem defG0 {k : Nat} {f : Addr} {x qual : Str} {st : Stmt} {fd : FuncData} {N ps : List Str} {sp : Sp}
    (F : Fun K x qual st f fd) (S : FnScope N ps (defScope st)) (len : ∀ vs H Q E, sp vs H Q E → vs.length = ps.length)
    (inner : ∀ (cd : Value) (A : Around), A.guards = some [] → ∀ (outer : List Env) (s : Shared) (H : Hp) (vs : List V) (Q : VK) (E : XK),
      Room k (A.deeper (envOfC qual (defScope st) s.heap.objs.size f cd)) → sp vs H Q E →
      ∃ t, PSs (cxOf CX0 P w K mg base N qual (defScope st) f cd A outer s H E).nox (defBody st) t ∧ t { nx := fun _ H' => Q .non H', rt := Q } (start N vs) H) :
    FnG P w K mg base CX0 (k + 1) f fd ps sp :=
  defG F S len fun cd A g outer s H vs Q E hr h => let ⟨t, a, b⟩ := inner cd A g outer s H vs Q E hr h; ⟨t, a.nox, b⟩
end

/-! ### repr -/
section
variable {X : Cx}
def rRepr (K : PySem.W.Frag) : List V → Hp → VK → Prop := fun xs H Q =>
  ∃ v d, xs = [v] ∧ Dp K H v d ∧ d.showable = true ∧ d.hasDict = false ∧ d.depth ≤ 60 ∧ d.shown.length ≤ sizeLine ∧ Q (.str d.shown) H
theorem call_reprD (hg : X.A.guards = some []) (hu : X.A.units + 64 < cLine) : CallR X (.builtin "repr") (rRepr X.K) := by
  intro pins s σ H xs us Q I r h
  obtain ⟨v, d, rfl, hd, h1, h2, h3, h4, q⟩ := h
  obtain ⟨u, rfl, ru⟩ := vals1 r
  obtain ⟨as, rd⟩ := Dp.reads I d v u hd ru
  have out : ∀ h' u' tk, (∀ b o, s.heap.get? b = some o → h'.get? b = some o) → EP X pins σ Q (.str d.shown u') { s with heap := h', toks := tk } :=
    fun h' u' tk hk => ⟨.str d.shown, H, I.kept hk, ⟨u', rfl⟩, q⟩
  cases rd with
  | none => exact P.repr_of_none (by simpa only [PyData.shown] using out s.heap s.toks (s.toks + 1) fun _ _ z => z)
  | bool b => exact P.repr_of_bool (by simpa only [PyData.shown] using out s.heap s.toks (s.toks + 1) fun _ _ z => z)
  | int i t => exact P.repr_of_int (by simpa [PyData.showable] using h1) (by simpa only [PyData.shown] using out s.heap _ _ fun _ _ z => z)
  | str x t => exact P.repr_of_str (by simpa only [PyData.shown] using out s.heap _ _ fun _ _ z => z) (by simpa only [PyData.shown] using h4)
  | list a1 a2 a3 a4 => exact repr_of_reads' (.list a1 a2 a3 a4) h1 (fun z => by rw [h2] at z; cases z) hg (by omega) (fun _ _ z => z) out h4
  | tuple a1 a2 a3 a4 => exact repr_of_reads' (.tuple a1 a2 a3 a4) h1 (fun z => by rw [h2] at z; cases z) hg (by omega) (fun _ _ z => z) out h4
  | dict a1 a2 a3 a4 a5 => simp [PyData.hasDict] at h2
end
end Gk
/-! the law's own call, by a promise of the kind FnG -/
namespace Gk
open PySem L2 PySem.Spec PyProof.Rows
abbrev AllTrue (s₁ : Shared) (r : Result) (s' : Shared) : Prop := r = .ok (.ret (.bool true)) ∧ OldK s₁.heap s'.heap ∧ s'.os = s₁.os ∧ AllBare s'.gens
section
variable {P : Program} {w : World} {K : PySem.W.Frag} {mg mb : Str → Option Value} {k : Nat} {fa a : Addr} {fd : FuncData} {x : Str} {sp : Sp} {s₁ : Shared} {vs : List Value} {ns : List Int}
/-- what is hidden by H stands at a alone, and that is the script's list -/
structure Hid (K : PySem.W.Frag) (s₁ : Shared) (a : Addr) (vs : List Value) (H : Hp) : Prop where
  only : Only H
  at_a : ∀ b, H b ≠ none → b = a
  new : H a ≠ none → K.lookup a = none
  scr : s₁.heap.get? a = some { cls := .type "list", data := .seq vs.toArray }
theorem Hid.free {H : Hp} (h : Hid K s₁ a vs H) {b : Addr} {o : Obj} (e : s₁.heap.get? b = some o) (hd : ∀ z n, o.data ≠ .seq z n) : H b = none := by
  cases q : H b with
  | none => rfl
  | some u =>
    obtain rfl : b = a := h.at_a b (by simp [q])
    rw [h.scr] at e
    cases e
    exact absurd rfl (hd _ _)
theorem Hid.nsp {H : Hp} (h : Hid K s₁ a vs H) {b : Addr} {m : Str → Option Value} : s₁.heap.Ns b m → (hidT s₁.heap H).Ns b m := by
  rintro ⟨o, es, ep, e, d, r⟩
  exact ⟨o, es, ep, hidT_get e (h.free e fun z n q => by rw [d] at q; cases q), d, r⟩
theorem Hid.kin {H : Hp} (h : Hid K s₁ a vs H) (KX : K.In s₁.heap) : K.In (hidT s₁.heap H) := by
  intro b o e
  refine hidT_get (KX b o e) ?_
  cases q : H b with
  | none => rfl
  | some u =>
    obtain rfl : b = a := h.at_a b (by simp [q])
    rw [h.new (by simp [q])] at e
    cases e
theorem run_law {H : Hp} (h : Hid K s₁ a vs H) (KX : K.In s₁.heap) (hns : s₁.heap.Ns mainGlobals mg) (hb : s₁.heap.Ns builtinsNs mb) (hbb : ∀ x : Str, x ≠ "__name__" → mb x = bootBuiltins x) (hlim : s₁.heap.NoLimit)
    (hg : s₁.gens = #[]) (hr : Room k callerA) (F : ∀ base : Heap, K.In base → base.Ns mainGlobals mg → FnG P w K mg base CX0 k fa fd [x] sp)
    (hbind : ∀ (s : Shared) (u : Value), BindsTo s fd ⟨[u], []⟩ [(x, u)]) (hok : HOk P w H s₁.heap) (hsp : sp [.ref a] H (fun v _ => v = .bl true) fun _ _ _ => False) :
    codeAny (model P w) callerA (.call (.ref fa) ⟨[.ref a], []⟩) (AllTrue s₁) s₁ := by
  obtain ⟨mc, l1, l2⟩ := hlim
  have md : Mod K mg (hidT s₁.heap H) := ⟨h.kin KX, h.nsp hns, ⟨mb, h.nsp hb, hbb⟩, ⟨mc, h.nsp l1, l2⟩⟩
  have ev : Env0 P w K mg (hidT s₁.heap H) callerA [] s₁ H :=
    ⟨rfl, md, fun b o e => of_hidT e, Nat.le_of_eq (hidT_size _ _), trivial, fun b hb => (List.not_mem_nil hb).elim, hok, .of_eq hg⟩
  have go := (F _ (h.kin KX) (h.nsp hns)).go callerA rfl [] s₁ H ⟨[.ref a], []⟩ [.ref a] [.ref a] _ _ hr ev (hbind s₁ (.ref a)) (.cons rfl .nil) hsp
  refine codeAny_mono go ?_
  intro res s' hres
  match res, hres with
  | .error e, z => exact z.elim
  | .ok .next, z => exact z.elim
  | .ok .brk, z => exact z.elim
  | .ok .cont, z => exact z.elim
  | .ok (.ret u), ⟨v, H', os, bare, un, hok', rv, q⟩ =>
    obtain rfl : v = .bl true := q
    obtain rfl : u = Value.bool true := rv
    refine ⟨rfl, OldK.of_keep ?_, os, bare⟩
    intro b o e
    rcases h.only b with z | ⟨ob, xs, z⟩
    · exact un.keep b o e z (fun m => (List.not_mem_nil m).elim) (fun m => (List.not_mem_nil m).elim)
    · obtain ⟨e1, _⟩ := hok b _ z
      obtain ⟨e2, _⟩ := hok' b _ (un.frzs b ob _ z)
      rw [e] at e1
      cases e1
      exact e2
theorem law_callG (KX : K.In s₁.heap) (hns : s₁.heap.Ns mainGlobals mg) (hb : s₁.heap.Ns builtinsNs mb) (hbb : ∀ x : Str, x ≠ "__name__" → mb x = bootBuiltins x) (hlim : s₁.heap.NoLimit) (hg : s₁.gens = #[])
    (scr : s₁.heap.get? a = some { cls := .type "list", data := .seq vs.toArray }) (hi : IntsAre vs ns) (hl : ns.length ≤ sizeLine) (hr : Room k callerA)
    (F : ∀ base : Heap, K.In base → base.Ns mainGlobals mg → FnG P w K mg base CX0 k fa fd [x] sp) (hbind : ∀ (s : Shared) (u : Value), BindsTo s fd ⟨[u], []⟩ [(x, u)])
    (hsp : ∀ H : Hp, Only H → SqL K H a (ns.map V.int) → sp [.ref a] H (fun v _ => v = .bl true) fun _ _ _ => False) :
    codeAny (model P w) callerA (.call (.ref fa) ⟨[.ref a], []⟩) (AllTrue s₁) s₁ := by
  have rv := vals_ints hi
  cases hk : K.lookup a with
  | some o =>
    have e := KX a o hk
    rw [scr] at e
    cases e
    have on : Only (fun _ => none) := fun _ => .inl rfl
    refine run_law (H := fun _ => none) ⟨on, fun b z => absurd rfl z, fun z => absurd rfl z, scr⟩ KX hns hb hbb hlim hg hr F hbind (fun b u z => nomatch z) (hsp _ on ?_)
    exact .inr ⟨_, vs.toArray, _, hk, rfl, rfl, rfl, by rw [List.size_toArray, hi.length]; exact hl, by simpa using rv⟩
  | none =>
    let L : HO := .frz { cls := .type "list", data := .seq vs.toArray } (.lst (ns.map V.int))
    have la : (fun b => if b = a then some L else none : Hp) a = some L := if_pos rfl
    have on : Only (fun b => if b = a then some L else none) := by
      intro b
      by_cases hb : b = a
      · exact .inr ⟨_, _, if_pos hb⟩
      · exact .inl (if_neg hb)
    refine run_law ⟨on, fun b z => ?_, fun _ => hk, scr⟩ KX hns hb hbb hlim hg hr F hbind (fun b u z => ?_) (hsp _ on (.inl (.inr ⟨_, la⟩)))
    · by_cases hb : b = a
      · exact hb
      · exact absurd (if_neg hb) z
    · by_cases hb : b = a
      · subst hb
        have z' := la.symm.trans z
        cases z'
        exact ⟨scr, by rw [List.length_map]; exact hl, vs, _, rv, scr⟩
      · have z' := (if_neg hb).symm.trans z
        cases z'
end
theorem walkG {l : PySem.W.OpenLaw} {n k : Nat} {q : Program} {loose : List Str} {XP : (Str → Option Value) → Heap → Prop} {YP : World → Heap → Prop} {d : DefRec} {K : Params → PySem.W.Frag} {sp : World → Sp} {x : Str}
    (hn : l.most = some n) (hn2 : n ≤ sizeLine) (hdf : d.params.defaults = []) (hr : Room k callerA) (hY : ∀ (w : World) (h : Heap), YP w h → (K w.params).In h)
    (F : ∀ (w : World) (mg : Str → Option Value) (fa : Addr) (h : Heap), (K w.params).In h → h.Ns mainGlobals mg → mg d.name = some (.ref fa) →
      ∃ fd : FuncData, (∀ (s : Shared) (u : Value), BindsTo s fd ⟨[u], []⟩ [(x, u)]) ∧
        ∀ base : Heap, (K w.params).In base → base.Ns mainGlobals mg → FnG l.prog w (K w.params) mg base CX0 k fa fd [x] (sp w))
    (hsp : ∀ (w : World) (H : Hp) (a : Addr) (ns : List Int), ns.length ≤ n → Only H → SqL (K w.params) H a (ns.map V.int) → sp w [.ref a] H (fun v _ => v = .bl true) fun _ _ _ => False) :
    PySem.W.WalkO q loose XP YP l.row.toRowW d [] (fun f vs => PySem.call f vs) := by
  refine Att.attach_call hn hdf ?_
  intro w s₀ s₁ mg mb fa o pm cd doc a vs ns G Y ho hd hcd hmg hobj hints hlen hg
  obtain ⟨fd, hb, hF⟩ := F w mg fa _ (hY w _ Y) G.T.g hmg
  exact law_callG (hY w _ Y) G.T.g G.T.b G.T.builtins G.T.nolimit hg hobj hints (Nat.le_trans hlen hn2) hr hF hb fun H hO hS => hsp w H a ns hlen hO hS
end Gk
namespace Gk
open PySem L2 PySem.Spec PyProof.Rows
/-- a def of the module's top, by its name, with its promise -/
def CalG (P : Program) (w : World) (K : PySem.W.Frag) (mg : Str → Option Value) (base : Heap) (k : Nat) (x : Str) (sp : Sp) : Prop :=
  ∃ (f : Addr) (fd : FuncData) (ps : List Str), FnG P w K mg base CX0 k f fd ps sp ∧ mg x = some (.ref f) ∧ PySem.W.keepIn K (.ref f) = true ∧ Binds K fd ps []
/-- a def as the top has left it -/
def DefAt (K : PySem.W.Frag) (mg : Str → Option Value) (x : Str) (st : Stmt) (ps : List Str) : Prop :=
  ∃ (f : Addr) (fd : FuncData), mg x = some (.ref f) ∧ Fun K x x st f fd ∧ Binds K fd ps []
theorem defAt {K : PySem.W.Frag} {h : Heap} {mg : Str → Option Value} {x : Str} {st : Stmt} {ps : List Str} {f : Addr} {oc : Value} {od an : Option Addr} {osl : Array (Option Value)} {kV doc pm cdv ct : Value} (X : K.In h) (G : h.Ns mainGlobals mg)
    (hb : ∀ (kV doc pm : Value) (an : Option Addr) (cdv ct : Value) (us : List Value), us.length = ps.length → bindArgs (PySem.W.fnOf x x (defArgs st) (defBody st) (defScope st) .none kV doc pm an cdv ct) ⟨us, []⟩ = pure (ps.zip us))
    (a : PySem.W.nsIn K mainGlobals x = some (some (.ref f)))
    (l : K.lookup f = some ⟨oc, od, .func (PySem.W.fnOf x x (defArgs st) (defBody st) (defScope st) .none kV doc pm an cdv ct), osl⟩)
    (c : PySem.W.codeIn K cdv x = true) (k : PySem.W.keepIn K (.ref f) = true) : DefAt K mg x st ps :=
  ⟨f, _, PySem.W.mg_of X G a, fun_mk l c k, (fun_mk (st := st) l c k).binds hb⟩
section
variable {P : Program} {w : World} {K : PySem.W.Frag} {mg : Str → Option Value} {base : Heap}
/-- a def by its body -/
theorem DefAt.by {x : Str} {st : Stmt} {ps N : List Str} {k : Nat} {sp : Sp} (D : DefAt K mg x st ps) (S : FnScope N ps (defScope st)) (len : ∀ vs H Q E, sp vs H Q E → vs.length = ps.length)
    (inner : ∀ (f : Addr) (cd : Value) (A : Around), A.guards = some [] → ∀ (outer : List Env) (s : Shared) (H : Hp) (vs : List V) (Q : VK) (E : XK),
      Room k (A.deeper (envOfC x (defScope st) s.heap.objs.size f cd)) → sp vs H Q E →
      ∃ t, PSs (cxOf CX0 P w K mg base N x (defScope st) f cd A outer s H E).nox (defBody st) t ∧ t { nx := fun _ H' => Q .non H', rt := Q } (start N vs) H) :
    CalG P w K mg base (k + 1) x sp := by
  obtain ⟨f, fd, hm, F, hb⟩ := D
  exact ⟨f, fd, ps, defG0 F S len (inner f), hm, F.kp, hb⟩
end
section
variable {X : Cx} {k j : Nat} {sp : Sp} {x : Str} {p pos : Pos} {e : Expr} {es : List Expr} {t : TA}
theorem pe_cG (c : CalG X.prog X.w X.K X.mg X.base k x sp) (g : X.A.guards = some []) (hr : Room j X.A) (hk : k ≤ j) (ha : PA X (e :: es) t) (hg : Gl X x := by rfl)
    (hdb : (x == ("__debug__" : Str)) = false := by decide) (he : starEach (e :: es) X.env = (false, eval e X.env) :: starEach es X.env := by rfl)
    (hpl : (backTo pos (starEach es X.env)).any (·.1) = false := by rfl) : PE X (.Call (.Name x p) (e :: es) [] pos) (tCall sp [] E0 t) := by
  obtain ⟨f, fd, ps, F, hm, hkp, hb⟩ := c
  exact pe_callG F g (hr.mono hk) hg hm hkp hb .nil pass0 ha hdb he hpl
end
end Gk
/-! readings, one construct a lemma: what a term of the layer asks, from the value -/
namespace Rd
open PySem L2 PySem.Spec PyProof.Rows Gk
section
variable {K : PySem.W.Frag} {σ : L2.St} {H : Hp} {Q : VK} {QA : List V → Hp → Prop} {QB : Bool → Hp → Prop} {QH : Hp → Prop} {D : Ends} {i j : Int} {n : Nat} {v x y : V} {ta tb te : TE} {tt tu : TT} {t u : TS} {as ar : TA} {p q : Addr} {xs ys : List V} {z s : Str} {b c : Bool}
theorem var (h : σ[n]? = some (some v)) (k : Q v H) : tVar n σ H Q := ⟨v, h, k⟩
theorem cst (k : Q v H) : tC v σ H Q := k
theorem op {r : R2} (k : ta σ H fun x H1 => tb σ H1 fun y H2 => r x y H2 Q) : tOp r ta tb σ H Q := k
theorem un {r : V → Hp → VK → Prop} (k : ta σ H fun x H1 => r x H1 Q) : tUn r ta σ H Q := k
theorem i0 {g : Int → Int → V} (k : Q (g i j) H) : rI0 g (.int i) (.int j) H Q := ⟨i, j, rfl, rfl, k⟩
theorem ic {C : Int → Int → Prop} {g : Int → Int → V} (h : C i j) (k : Q (g i j) H) : rI C g (.int i) (.int j) H Q := ⟨i, j, rfl, rfl, h, k⟩
theorem u1 {g : Int → V} (k : Q (g i) H) : rU g (.int i) H Q := ⟨i, rfl, k⟩
theorem eq (h : scal x y = true) (k : Q (.bl (decide (x = y))) H) : rEq x y H Q := ⟨h, k⟩
theorem ne (h : scal x y = true) (k : Q (.bl (!decide (x = y))) H) : rNe x y H Q := ⟨h, k⟩
theorem ixL (h : SqL K H p xs) (a : atI xs i = some v) (k : Q v H) : rIxL K (.ref p) (.int i) H Q := ⟨p, xs, i, v, rfl, rfl, h, a, k⟩
theorem ixT (h : SqT K H p xs) (a : atI xs i = some v) (k : Q v H) : rIxT K (.ref p) (.int i) H Q := ⟨p, xs, i, v, rfl, rfl, h, a, k⟩
theorem ixS {m : Nat} (h : z.length ≤ sizeLine) (a : atI z.cps.toList i = some m) (k : Q (.str ⟨#[m]⟩) H) : rIxS (.str z) (.int i) H Q := ⟨z, i, m, rfl, rfl, h, a, k⟩
theorem setL {m : Nat} (h : H p = some (.lst xs)) (a : ixN xs.length i = some m) (k : QH (upd H p (.lst (xs.set m v)))) : rSetL (.ref p) (.int i) v H QH := ⟨p, xs, i, m, rfl, rfl, h, a, k⟩
theorem inL {neg : Bool} (h : SqL K H p xs) (hx : flatV x = true) (ha : xs.all flatV = true) (k : Q (.bl (if neg then !inV x xs else inV x xs)) H) : rIn K neg x (.ref p) H Q := ⟨p, xs, rfl, .inl h, hx, ha, k⟩
theorem slL {lo hi : Option Int} (h : SqL K H p xs) (k : ∀ q, H q = none → Q (.ref q) (upd H q (.lst (cutV xs lo hi)))) : rSlL K (.ref p) lo hi H Q := ⟨p, xs, rfl, h, k⟩
theorem slS {lo hi : Option Int} (h : z.length ≤ sizeLine) (k : Q (.str (cutS z lo hi)) H) : rSlS (.str z) lo hi H Q := ⟨z, rfl, h, k⟩
theorem cat (h : H p = some (.lst xs)) (h' : H q = some (.lst ys)) (l : xs.length + ys.length ≤ sizeLine) (k : ∀ r, H r = none → Q (.ref r) (upd H r (.lst (xs ++ ys)))) : rCat (.ref p) (.ref q) H Q := ⟨p, q, xs, ys, rfl, rfl, h, h', l, k⟩
theorem sl {r : V → Option Int → Option Int → Hp → VK → Prop} {tl th : TO} (k : te σ H fun x H1 => tl σ H1 fun l H2 => th σ H2 fun u H3 => r x l u H3 Q) : tSl r te tl th σ H Q := k
theorem noPart {QO : Option Int → Hp → Prop} (k : QO none H) : tNoPart σ H QO := k
theorem part {QO : Option Int → Hp → Prop} (k : te σ H fun x H1 => ∃ i, x = .int i ∧ QO (some i) H1) : tPart te σ H QO := k
theorem int_ {R : Int → Prop} (k : R i) : ∃ i', V.int i = .int i' ∧ R i' := ⟨i, rfl, k⟩
theorem bl_ {R : Bool → Prop} (k : R b) : ∃ c, V.bl b = .bl c ∧ R c := ⟨b, rfl, k⟩
theorem nil (k : QA [] H) : tNil σ H QA := k
theorem cons (k : te σ H fun x H1 => ar σ H1 fun xs H2 => QA (x :: xs) H2) : tCons te ar σ H QA := k
theorem cb {r : List V → Hp → VK → Prop} (k : as σ H fun vs H1 => r vs H1 Q) : tCB r as σ H Q := k
theorem call {sp : Sp} {dvs : List V} {E : XK} (k : as σ H fun vs H1 => sp (vs ++ dvs) H1 Q E) : tCall sp dvs E as σ H Q := k
theorem lst (k : as σ H fun xs H1 => xs.length ≤ sizeLine ∧ ∀ p, H1 p = none → Q (.ref p) (upd H1 p (.lst xs))) : tLst as σ H Q := k
theorem tup (k : as σ H fun xs H1 => xs.length ≤ sizeLine ∧ ∀ p, H1 p = none → Q (.ref p) (upd H1 p (.tup xs))) : tTup as σ H Q := k
theorem test (k : te σ H fun x H' => ∃ k, x = .bl k ∧ QB k H') : tTest te σ H QB := k
theorem tb_ (k : te σ H fun x H' => ∃ k, x = .bl k ∧ QB k H') : tB te σ H QB := k
theorem not_ (k : tt σ H fun c H1 => QB (!c) H1) : tNot tt σ H QB := k
theorem or_ (k : tt σ H fun c H1 => if c = true then QB true H1 else tu σ H1 QB) : tOr tt tu σ H QB := k
theorem and_ (k : tt σ H fun c H1 => if c = true then tu σ H1 QB else QB false H1) : tAnd tt tu σ H QB := k
theorem orV (k : ta σ H fun x H1 => ∃ c, x = .bl c ∧ if c = true then Q (.bl true) H1 else tb σ H1 Q) : tOrV ta tb σ H Q := k
theorem andV (k : ta σ H fun x H1 => ∃ c, x = .bl c ∧ if c = true then tb σ H1 Q else Q (.bl false) H1) : tAndV ta tb σ H Q := k
theorem notV (k : ta σ H fun x H1 => ∃ c, x = .bl c ∧ Q (.bl (!c)) H1) : tNotV ta σ H Q := k
theorem tif (k : tt σ H fun c H1 => if c = true then ta σ H1 Q else tb σ H1 Q) : tIf tt ta tb σ H Q := k
theorem yes (k : QB true H) : tYes σ H QB := k
theorem next (k : D.nx σ H) : tNext D σ H := k
theorem seq (k : t { D with nx := u D } σ H) : tSeq t u D σ H := k
theorem drop (k : te σ H fun _ H1 => D.nx σ H1) : tDrop te D σ H := k
theorem ret (k : te σ H D.rt) : tRet te D σ H := k
theorem retN (k : D.rt .non H) : tRetN D σ H := k
theorem ifs (k : tt σ H fun b H1 => if b = true then t D σ H1 else u D σ H1) : tIfS tt t u D σ H := k
theorem asg {g : TG} (k : te σ H fun x H1 => g x σ H1 D.nx) : tAsg te g D σ H := k
theorem gname {QS : L2.St → Hp → Prop} (k : QS (σ.set n (some v)) H) : gName n v σ H QS := k
theorem gsub {QS : L2.St → Hp → Prop} {st : V → V → V → Hp → (Hp → Prop) → Prop} (k : ta σ H fun o H1 => tb σ H1 fun i H2 => st o i v H2 fun H3 => QS σ H3) : gSub ta tb st v σ H QS := k
theorem par {m l : Nat} (k : as σ H fun vs H1 => ∃ v w, vs = [v, w] ∧ D.nx ((σ.set m (some v)).set l (some w)) H1) : tPar m l as D σ H := k
theorem bm {T : String} {r : V → List V → Hp → VK → Prop} (k : te σ H fun x H1 => tyV K T x H1 ∧ as σ H1 fun xs H2 => r x xs H2 Q) : tBM K T r te as σ H Q := k
theorem bm0 {T : String} {r : V → List V → Hp → VK → Prop} (k : te σ H fun x H1 => tyV K T x H1 ∧ r x [] H1 Q) : tBM0 K T r te σ H Q := k
theorem app (h : H p = some (.lst xs)) (l : xs.length < sizeLine) (k : Q .non (upd H p (.lst (xs ++ [v])))) : rAppend (.ref p) [v] H Q := ⟨p, xs, v, rfl, rfl, h, l, k⟩
theorem ty_list (h : H p = some (.lst xs)) : tyV K "list" (.ref p) H := .inl ⟨rfl, xs, SqL.of h⟩
theorem int1 {R : Int → Prop} {R2 : Bool → Prop} (k : R i) : (∃ j, [V.int i] = [.int j] ∧ R j) ∨ ∃ k, [V.int i] = [.bl k] ∧ R2 k := .inl ⟨i, rfl, k⟩
theorem intB {R : Int → Prop} {R2 : Bool → Prop} (k : R2 b) : (∃ j, [V.bl b] = [.int j] ∧ R j) ∨ ∃ k, [V.bl b] = [.bl k] ∧ R2 k := .inr ⟨b, rfl, k⟩
theorem two {R : Int → Int → Prop} (k : R i j) : ∃ i' j', [V.int i, .int j] = [.int i', .int j'] ∧ R i' j' := ⟨i, j, rfl, k⟩
theorem one {R : Int → Prop} (k : R i) : ∃ i', [V.int i] = [.int i'] ∧ R i' := ⟨i, rfl, k⟩
theorem lenL {R : List V → Prop} (h : SqL K H p xs) (k : R xs) : ∃ p' ys, [V.ref p] = [.ref p'] ∧ (SqL K H p' ys ∨ SqT K H p' ys) ∧ R ys := ⟨p, xs, rfl, .inl h, k⟩
theorem lenS {R : Str → Prop} (h : z.length ≤ sizeLine) (k : R z) : ∃ z', [V.str z] = [.str z'] ∧ z'.length ≤ sizeLine ∧ R z' := ⟨z, rfl, h, k⟩
theorem andr {R : Prop} (k : R) : x = x ∧ R := ⟨rfl, k⟩
theorem str_ {R : Str → Prop} (k : R z) : ∃ c, V.str z = .str c ∧ R c := ⟨z, rfl, k⟩
theorem dec {c A B : Prop} [Decidable c] (h1 : c → A) (h2 : ¬ c → B) : if decide c = true then A else B := by
  by_cases h : c
  · rw [decide_eq_true h]; exact h1 h
  · rw [decide_eq_false h, if_neg Bool.false_ne_true]; exact h2 h
theorem ndec {c A B : Prop} [Decidable c] (h1 : ¬ c → A) (h2 : c → B) : if (!decide c) = true then A else B := by
  by_cases h : c
  · rw [decide_eq_true h]; exact h2 h
  · rw [decide_eq_false h]; exact h1 h
theorem tt_ {A B : Prop} (h : A) : if true = true then A else B := h
theorem ff_ {A B : Prop} (h : B) : if false = true then A else B := iteF h
theorem bool {b : Bool} {A B : Prop} (h1 : b = true → A) (h2 : b = false → B) : if b = true then A else B := by
  cases b with
  | true => exact h1 rfl
  | false => rw [if_neg Bool.false_ne_true]; exact h2 rfl
theorem fm {i m : Int} (m0 : 0 < m) : 0 ≤ i.fmod m ∧ i.fmod m < m := by
  rw [Int.fmod_eq_emod_of_nonneg i (Int.le_of_lt m0)]
  exact ⟨Int.emod_nonneg i (by omega), Int.emod_lt_of_pos i m0⟩
theorem atN {α : Type} {xs : List α} {i : Int} {v : α} (h0 : 0 ≤ i) (h : xs[i.toNat]? = some v) : atI xs i = some v := by
  have e : ((i.toNat : Nat) : Int) = i := Int.toNat_of_nonneg h0
  rw [← e]
  exact atI_nat h
theorem at0 {α : Type} {xs : List α} {v : α} : atI (v :: xs) 0 = some v := atN (Int.le_refl 0) rfl
theorem at_int {ns : List Int} {i : Int} (h0 : 0 ≤ i) (h : i < ((ns.map V.int).length : Int)) : ∃ c, atI (ns.map V.int) i = some (.int c) := by
  rw [List.length_map] at h
  have hk : i.toNat < ns.length := by omega
  exact ⟨ns[i.toNat], atN h0 (by simp [hk])⟩
theorem sz {n : Nat} (h : n ≤ 100000) : n ≤ sizeLine := Nat.le_trans h (by decide)
theorem szl {n : Nat} (h : n < 100000) : n < sizeLine := Nat.lt_of_lt_of_le h (by decide)
end
section
variable {X : Cx}
def rLenK (K : PySem.W.Frag) : List V → Hp → VK → Prop := fun xs H Q => ∃ p ys, xs = [.ref p] ∧ (SqL K H p ys ∨ SqT K H p ys) ∧ Q (.int ys.length) H
theorem callLen : CallR X (.builtin "len") (rLenK X.K) := call_len_seq
def rListK (K : PySem.W.Frag) : List V → Hp → VK → Prop := fun xs H Q => ∃ p ys, xs = [.ref p] ∧ (SqL K H p ys ∨ SqT K H p ys) ∧ ∀ l, H l = none → Q (.ref l) (upd H l (.lst ys))
theorem callList : CallR X (.type "list") (rListK X.K) := call_list_of
def tTru (K : PySem.W.Frag) (ta : TE) : TT := fun σ H Q => ta σ H fun x H' => ∃ k, TruV K x H' k ∧ Q k H'
theorem ptTru {K : PySem.W.Frag} {e : Expr} {ta : TE} (h : X.K = K) (p : PT X e fun σ H Q => ta σ H fun x H' => ∃ k, TruV X.K x H' k ∧ Q k H') : PT X e (tTru K ta) := by
  subst h
  exact p
variable {K : PySem.W.Frag} {σ : L2.St} {H : Hp} {Q : VK} {QB : Bool → Hp → Prop} {p : Addr} {xs : List V} {ta : TE}
theorem lenK (h : SqL K H p xs) (k : Q (.int xs.length) H) : rLenK K [.ref p] H Q := ⟨p, xs, rfl, .inl h, k⟩
theorem lenT (h : SqT K H p xs) (k : Q (.int xs.length) H) : rLenK K [.ref p] H Q := ⟨p, xs, rfl, .inr h, k⟩
theorem listK (h : SqL K H p xs) (k : ∀ l, H l = none → Q (.ref l) (upd H l (.lst xs))) : rListK K [.ref p] H Q := ⟨p, xs, rfl, .inl h, k⟩
theorem tru (k : ta σ H fun x H' => ∃ k, TruV K x H' k ∧ QB k H') : tTru K ta σ H QB := k
theorem truL {R : Bool → Prop} (h : SqL K H p xs) (k : R (!xs.isEmpty)) : ∃ k, TruV K (.ref p) H k ∧ R k := ⟨_, .inl ⟨xs, h, rfl⟩, k⟩
theorem any_ {bs : List Bool} (h : SqL K H p (bs.map V.bl)) (k : Q (.bl (bs.any id)) H) : rAny K [.ref p] H Q := ⟨p, bs, rfl, h, k⟩
theorem all_ {bs : List Bool} (h : SqL K H p (bs.map V.bl)) (k : Q (.bl (bs.all id)) H) : rAll K [.ref p] H Q := ⟨p, bs, rfl, h, k⟩
theorem repr_ {v : V} {d : PyData} (h : Dp K H v d) (h1 : d.showable = true) (h2 : d.hasDict = false) (h3 : d.depth ≤ 60) (h4 : d.shown.length ≤ sizeLine) (k : Q (.str d.shown) H) : rRepr K [v] H Q := ⟨v, d, rfl, h, h1, h2, h3, h4, k⟩
theorem eqD {x y : V} {d e : PyData} (hd : Dp K H x d) (he : Dp K H y e) (h1 : SeqAt.shaped d = true) (h2 : SeqAt.shaped e = true) (k : Q (.bl (PyData.eqv d e)) H) : rEqD K x y H Q := ⟨d, e, hd, he, h1, h2, k⟩
theorem neD {x y : V} {d e : PyData} (hd : Dp K H x d) (he : Dp K H y e) (h1 : SeqAt.shaped d = true) (h2 : SeqAt.shaped e = true) (k : Q (.bl (!PyData.eqv d e)) H) : rNeD K x y H Q := ⟨d, e, hd, he, h1, h2, k⟩
end
end Rd
set_option Elab.async false
set_option linter.all false
set_option maxRecDepth 100000
set_option maxHeartbeats 8000000
open PySem L2 Gk
local macro_rules | `(tactic| walk_at "look") => `(tactic| first
  | assumption
  | exact upd_same
  | exact SqL.of (by assumption)
  | exact SqL.of upd_same)
local macro_rules | `(tactic| walk_at "cond") => `(tactic| first | decide | (show _ ∨ _; right; split <;> decide) | (show _ ∧ _; constructor <;> omega) | (show _ ∨ _; left; constructor <;> omega) | (show _ ∨ _; right; constructor <;> omega) | (show _ ≠ _; omega) | (show _ < _; omega))
local macro_rules | `(tactic| walk_at "rd") => `(tactic| (with_reducible first
  | refine Rd.var rfl ?_ | refine Rd.cst ?_ | refine Rd.op ?_ | refine Rd.un ?_ | refine Rd.i0 ?_ | refine Rd.u1 ?_ | refine Rd.cons ?_ | refine Rd.nil ?_
  | refine Rd.seq ?_ | refine Rd.ifs ?_ | refine Rd.asg ?_ | refine Rd.gname ?_ | refine Rd.gsub ?_ | refine Rd.ret ?_ | refine Rd.retN ?_ | refine Rd.drop ?_ | refine Rd.next ?_
  | refine Rd.test ?_ | refine Rd.tb_ ?_ | refine Rd.not_ ?_ | refine Rd.or_ ?_ | refine Rd.and_ ?_ | refine Rd.orV ?_ | refine Rd.andV ?_ | refine Rd.notV ?_ | refine Rd.tif ?_ | refine Rd.yes ?_
  | refine Rd.cb ?_ | refine Rd.call ?_ | refine Rd.sl ?_ | refine Rd.noPart ?_ | refine Rd.part ?_ | refine Rd.int_ ?_ | refine Rd.bl_ ?_
  | refine Rd.eq rfl ?_ | refine Rd.ne rfl ?_ | refine Rd.lst ?_ | refine Rd.tup ?_ | refine Rd.par ?_ | refine Rd.bm ?_ | refine Rd.bm0 ?_
  | refine Rd.int1 ?_ | refine Rd.intB ?_ | refine Rd.two ?_ | refine Rd.one ?_ | refine Rd.andr ?_ | refine Rd.str_ ?_
  | (refine Rd.ic ?k1 ?_; (case k1 => with_unfolding_all walk_at "cond"))
  | (refine' Rd.ixL ?k1 ?k2 ?_; (case k1 => with_unfolding_all walk_at "look"); (case k2 => with_unfolding_all (first | rfl | exact Rd.at0)))
  | (refine' Rd.setL ?k1 ?k2 ?_; (case k1 => with_unfolding_all walk_at "look"); (case k2 => with_unfolding_all rfl))
  | (refine' Rd.lenL ?k1 ?_; (case k1 => with_unfolding_all walk_at "look"))
  | (refine' Rd.lenK ?k1 ?_; (case k1 => with_unfolding_all walk_at "look"))
  | refine Rd.tru ?_ | (refine' Rd.truL ?k1 ?_; (case k1 => with_unfolding_all walk_at "look"))))
namespace Rd
open PySem.Spec PyProof.Rows
section
variable {K : PySem.W.Frag} {σ : L2.St} {H H' : Hp} {α β : Type}
theorem sNew {p : Addr} {o : HO} (hp : H p = none) : Same H (upd H p o) := fun b u e => by
  rw [upd_ne (ne_of_none e hp)]
  exact e
theorem sMut {p : Addr} {o : HO} (h : Same H H') (hp : H p = none) : Same H (upd H' p o) := fun b u e => by
  rw [upd_ne (ne_of_none e hp)]
  exact h b u e
theorem pair_get {F : α → β → Prop} : ∀ {as : List α} {bs : List β} {i : Nat} {b : β}, Paired F as bs → bs[i]? = some b → ∃ a, as[i]? = some a ∧ F a b
  | _, _, i, b, .nil, h => by simp at h
  | a :: as, c :: bs, 0, b, .cons h hs, e => by
    obtain rfl : c = b := by simpa using e
    exact ⟨a, rfl, h⟩
  | a :: as, c :: bs, i + 1, b, .cons h hs, e => by
    have := pair_get hs (i := i) (b := b) (by simpa using e)
    simpa using this
theorem pair_len {F : α → β → Prop} : ∀ {as : List α} {bs : List β}, Paired F as bs → as.length = bs.length
  | _, _, .nil => rfl
  | _, _, .cons _ t => by simp [pair_len t]
theorem pair_imp {F G : α → β → Prop} (f : ∀ a b, F a b → G a b) : ∀ {as : List α} {bs : List β}, Paired F as bs → Paired G as bs
  | _, _, .nil => .nil
  | _, _, .cons h t => .cons (f _ _ h) (pair_imp f t)
theorem pair_map {f : α → V} : ∀ {as : List α} {ys : List V}, Paired (fun a y => y = f a) as ys → ys = as.map f
  | _, _, .nil => rfl
  | _, _, .cons h t => by rw [h, pair_map t]; rfl
/-- a relation of what is meant to a value in a heap that stays true as the heap grows -/
def Stays (B : β → V → Hp → Prop) : Prop := ∀ b x H H', Same H H' → B b x H → B b x H'
theorem take_succ {xs : List α} {i : Nat} {x : α} (h : xs[i]? = some x) : xs.take (i + 1) = xs.take i ++ [x] := by
  rw [List.take_succ, h]
  rfl
theorem sUpd {D : Addr} {o : HO} (s : Same H H') : Same (upd H D o) (upd H' D o) := fun b u e => by
  by_cases hb : b = D
  · subst hb; rw [upd_same] at e ⊢; exact e
  · rw [upd_ne hb] at e ⊢; exact s b u e
theorem upd_id {D : Addr} {o : HO} (h : H D = some o) : upd H D o = H := by
  funext b
  by_cases hb : b = D
  · subst hb; rw [upd_same, h]
  · rw [upd_ne hb]
/-- what holds of y in the heap behind, whatever the list in the making (which the heap ahead, H, does not know, and H1 does) holds -/
def Off (H H1 H2 : Hp) (B : V → Hp → Prop) (y : V) : Prop := ∀ D o, H D = none → H1 D ≠ none → B y (L2.upd H2 D o)
theorem off_old {H1 H2 : Hp} {B : V → Hp → Prop} {y : V} (hB : ∀ x H H', Same H H' → B x H → B x H') (s : Same H H2) (h : B y H) : Off H H1 H2 B y :=
  fun D o hD _ => hB _ _ _ (sMut s hD) h
theorem off_any {H1 H2 : Hp} {B : V → Prop} {y : V} (h : B y) : Off H H1 H2 (fun y _ => B y) y := fun D o hD _ => h
/-- a comprehension over a list of things -/
theorem lcL {tl te : TE} {tt : TT} {vs : List Nat} {j : Nat} {Q : VK} {a : Addr} {xs : List V} {bs : List α} (A : α → V → Hp → Prop) (B : β → V → Hp → Prop) (f : α → Bool) (g : α → β)
    (htl : ∀ R : V → Hp → Prop, R (.ref a) H → tl σ H R) (hl : SqL K H a xs) (hA : Stays A) (hB : Stays B) (pr : Paired (fun b x => A b x H) bs xs) (hz : xs.length ≤ 10000)
    (hw : ∀ x, wipe ((wipe σ vs).set j (some x)) vs = wipe σ vs)
    (turn : ∀ b x H1 (R : Bool → Hp → Prop), b ∈ bs → A b x H → A b x H1 → Same H H1 → (∀ H2, Same H1 H2 → R (f b) H2) → tt ((wipe σ vs).set j (some x)) H1 R)
    (elem : ∀ b x H1 (R : VK), b ∈ bs → f b = true → A b x H → A b x H1 → Same H H1 → (∀ y H2, Same H1 H2 → Off H H1 H2 (B (g b)) y → R y H2) → te ((wipe σ vs).set j (some x)) H1 R)
    (fin : ∀ D ys H1, H D = none → Same H H1 → H1 D = some (.lst ys) → Paired (fun c y => B c y H1) ((bs.filter f).map g) ys → Q (.ref D) H1) :
    tLc (iList K tl) (gName j) tt te vs σ H Q := by
  have hlen := pair_len pr
  refine htl _ ⟨a, rfl, ⟨xs, hl⟩, fun D hD => ?_⟩
  refine lc_list (K := K) (a := a) (xs := xs) (fun i H1 => ∃ ys, H1 D = some (.lst ys) ∧ ys.length ≤ i ∧ Same H H1 ∧ ∀ o, Paired (fun c y => B c y (upd H1 D o)) (((bs.take i).filter f).map g) ys) ?_ ?_ ?_ ?_
  · exact ⟨[], upd_same, Nat.le_refl _, sNew hD, fun _ => .nil⟩
  · rintro i H1 hi ⟨ys, _, _, s, _⟩
    exact s.seq hl
  · rintro i x H1 hx ⟨ys, hd, hy, s, pq⟩
    have hi : i < xs.length := (List.getElem?_eq_some_iff.mp hx).1
    obtain ⟨b, hb, hab⟩ := pair_get pr hx
    have mem : b ∈ bs := List.mem_of_getElem? hb
    have tk : bs.take (i + 1) = bs.take i ++ [b] := take_succ hb
    show wipe ((wipe σ vs).set j (some x)) vs = wipe σ vs ∧ _
    refine ⟨hw x, turn b x H1 _ mem hab (hA _ _ _ _ s hab) s fun H2 s2 => ?_⟩
    cases hf : f b with
    | false =>
      rw [if_neg Bool.false_ne_true]
      refine ⟨ys, s2 _ _ hd, by omega, s.trans s2, fun o => ?_⟩
      rw [tk, List.filter_append, List.filter_cons_of_neg (by simp [hf]), List.filter_nil, List.append_nil]
      exact pair_imp (fun c y => hB c y _ _ (sUpd s2)) (pq o)
    | true =>
      rw [if_pos rfl]
      refine elem b x H2 _ mem hf hab (hA _ _ _ _ (s.trans s2) hab) (s.trans s2) fun y H3 s3 hy3 => ?_
      have hd3 := s3 _ _ (s2 _ _ hd)
      have s4 : Same H H3 := (s.trans s2).trans s3
      refine ⟨ys, hd3, szl (by omega), ys ++ [y], upd_same, by rw [List.length_append]; simp; omega, sMut s4 hD, fun o => ?_⟩
      rw [tk, List.filter_append, List.filter_cons_of_pos (by simp [hf]), List.filter_nil, List.map_append, upd_upd]
      exact (pair_imp (fun c z h => hB c z _ _ (sUpd (s2.trans s3)) h) (pq o)).snoc (hy3 D o hD (by rw [s2 _ _ hd]; simp))
  · rintro H1 ⟨ys, hd, hy, s, pq⟩
    refine fin D ys H1 hD s hd ?_
    have pq := pq (.lst ys)
    rw [← hlen, List.take_length, upd_id hd] at pq
    exact pq
end
end Rd
namespace Rd
open PySem.Spec PyProof.Rows
section
variable {K : PySem.W.Frag} {σ : L2.St} {H H' : Hp} {Q : VK} {D : Ends} {z : Str}
/-! ### comprehensions and loops over ranges -/
def LcGo (J : It) (g : TG) (tt : TT) (te : TE) (vs : List Nat) (σ : L2.St) (Q : VK) (H1 : Hp) : Prop := ∀ D, H1 D = none → ∃ W : Nat → Nat → Hp → Prop, (∃ m, W 0 m (upd H1 D (.lst []))) ∧ ∀ i m H, W i m H →
  (J.stop i H ∧ Q (.ref D) H) ∨ (J.go i H ∧ ∃ Nx : Hp → Prop, (∀ H', Nx H' → ∃ m', m' < m ∧ W (i + 1) m' H') ∧ ∀ x H', J.yld i H x H' → g x (wipe σ vs) H' fun σ2 H2 => wipe σ2 vs = wipe σ vs ∧ tt σ2 H2 fun b H3 =>
    if b = true then te σ2 H3 fun y H4 => ∃ acc, H4 D = some (.lst acc) ∧ acc.length < sizeLine ∧ Nx (upd H4 D (.lst (acc ++ [y]))) else Nx H3)
theorem lcR {ta : TA} {g : TG} {tt : TT} {te : TE} {vs : List Nat} (k : ta σ H fun xs H1 => ∃ j : Int, xs = [.int j] ∧ -(2 ^ 62) ≤ j ∧ j < 2 ^ 62 ∧ LcGo (Itr 0 j.toNat) g tt te vs σ Q H1) : tLc (iRng1 ta) g tt te vs σ H Q := k
theorem rng {i : Int} {R : Prop} (h0 : 0 ≤ i) (h1 : i ≤ 100000) (k : R) : -(2 ^ 62) ≤ i ∧ i < 2 ^ 62 ∧ R := ⟨by omega, by omega, k⟩
/-- no test; each turn adds one thing -/
theorem goR {n j : Nat} {te : TE} {vs : List Nat} (Pv : Addr → Nat → List V → Hp → Prop) (h0 : ∀ D, H D = none → Pv D 0 [] (upd H D (.lst []))) (hw : ∀ x, wipe ((wipe σ vs).set j (some x)) vs = wipe σ vs) (hn : n ≤ 100000)
    (turn : ∀ D i acc H1, H D = none → i < n → acc.length = i → H1 D = some (.lst acc) → Pv D i acc H1 → ∀ R : VK, (∀ y H2, H2 D = some (.lst acc) → Pv D (i + 1) (acc ++ [y]) (upd H2 D (.lst (acc ++ [y]))) → R y H2) → te ((wipe σ vs).set j (some (.int (i : Int)))) H1 R)
    (fin : ∀ D acc H1, H D = none → acc.length = n → H1 D = some (.lst acc) → Pv D n acc H1 → Q (.ref D) H1) : LcGo (Itr 0 n) (gName j) tYes te vs σ Q H := by
  intro D hD
  refine lc_range (lo := 0) (n := n) (fun i H1 => ∃ acc, acc.length = i ∧ H1 D = some (.lst acc) ∧ Pv D i acc H1) ⟨[], rfl, upd_same, h0 D hD⟩ ?_ ?_
  · rintro i H1 hi ⟨acc, ha, hd, p⟩
    have e0 : (0 : Int) + (i : Int) = (i : Int) := Int.zero_add _
    rw [e0]
    refine ⟨hw _, ?_⟩
    refine turn D i acc H1 hD hi ha hd p _ fun y H2 h1 h2 => ?_
    exact ⟨acc, h1, szl (by omega), acc ++ [y], by simp [ha], upd_same, h2⟩
  · rintro H1 ⟨acc, ha, hd, p⟩
    exact fin D acc H1 hD ha hd p
def ForGo (J : It) (g : TG) (tb : TS) (D : Ends) (σ : L2.St) (H1 : Hp) : Prop := ∃ W : Nat → Nat → L2.St → Hp → Prop, (∃ m, W 0 m σ H1) ∧ ∀ i m σ H, W i m σ H →
  (J.stop i H ∧ D.nx σ H) ∨ (J.go i H ∧ ∃ N : L2.St → Hp → Prop, (∀ σ' H', N σ' H' → ∃ m', m' < m ∧ W (i + 1) m' σ' H') ∧ ∀ x H', J.yld i H x H' → g x σ H' fun σ2 H2 => tb { D with nx := N, ct := N, bk := D.nx } σ2 H2)
theorem forR {ta : TA} {g : TG} {tb : TS} (k : ta σ H fun xs H1 => ∃ j : Int, xs = [.int j] ∧ -(2 ^ 62) ≤ j ∧ j < 2 ^ 62 ∧ ForGo (Itr 0 j.toNat) g tb D σ H1) : tFor (iRng1 ta) g tb D σ H := k
theorem forGo {n j : Nat} {tb : TS} (Pv : Nat → L2.St → Hp → Prop) (h0 : Pv 0 σ H)
    (turn : ∀ i σ1 H1, i < n → Pv i σ1 H1 → tb { D with nx := Pv (i + 1), ct := Pv (i + 1), bk := D.nx } (σ1.set j (some (.int (i : Int)))) H1) (fin : ∀ σ1 H1, Pv n σ1 H1 → D.nx σ1 H1) : ForGo (Itr 0 n) (gName j) tb D σ H :=
  for_range (lo := 0) (n := n) Pv h0 (fun i σ1 H1 hi p => by
    show tb _ (σ1.set j (some (.int (0 + (i : Int))))) H1
    rw [Int.zero_add]
    exact turn i σ1 H1 hi p) fin
theorem adds {a b : Str} {R : Str → Str → Prop} (h : a.length + b.length ≤ 100000) (k : R a b) : ∃ i j, V.str a = .str i ∧ V.str b = .str j ∧ i.length + j.length ≤ sizeLine ∧ R i j := ⟨a, b, rfl, rfl, sz h, k⟩
theorem gtup {n : Nat} {t : TGs} {a : Addr} {xs : List V} {QS : L2.St → Hp → Prop} (h : SqT K H a xs) (hl : xs.length = n) (k : t xs σ H QS) : gTup K n t (.ref a) σ H QS := ⟨a, xs, rfl, h, hl, k⟩
theorem gcons {v : V} {r : List V} {t : TG} {u : TGs} {QS : L2.St → Hp → Prop} (k : t v σ H fun σ' H' => u r σ' H' QS) : gCons t u (v :: r) σ H QS := ⟨v, r, rfl, k⟩
theorem gnil {QS : L2.St → Hp → Prop} (k : QS σ H) : gNil [] σ H QS := ⟨rfl, k⟩
theorem cut {t u : TS} (Mid : L2.St → Hp → Prop) (h1 : t { D with nx := Mid } σ H) (h2 : ∀ σ' H', Mid σ' H' → u D σ' H') : C8.tCut t u D σ H := ⟨Mid, h1, h2⟩
/-- a method of a text -/
theorem m1 {r : V → List V → Hp → VK → Prop} {to te : TE} (k : to σ H fun x H1 => (∃ a, x = .str a) ∧ te σ H1 fun y H2 => r x [y] H2 Q) : tM1 r to te σ H Q := k
theorem isStr {R : Prop} (k : R) : (∃ a, V.str z = .str a) ∧ R := ⟨⟨z, rfl⟩, k⟩
end
end Rd
namespace W6
open L2 TL
/-! ### texts with a bound -/
structure W (n : Nat) (w : Str) : Prop where
  len : w.length ≤ n
  low : ∀ c ∈ tl w, c < 1000
theorem tl_len (w : Str) : (tl w).length = w.length := by show w.cps.toList.length = w.cps.size; simp
theorem W.app {n m : Nat} {a b : Str} (ha : W n a) (hb : W m b) : W (n + m) (a ++ b) := by
  have e : tl (a ++ b) = tl a ++ tl b := by show (a.cps ++ b.cps).toList = _; simp
  refine ⟨?_, fun c hc => ?_⟩
  · rw [← tl_len, e, List.length_append, tl_len, tl_len]
    exact Nat.add_le_add ha.len hb.len
  · rw [e, List.mem_append] at hc
    exact hc.elim (ha.low c) (hb.low c)
theorem W.cut {n : Nat} {a : Str} (ha : W n a) (lo hi : Option Int) : W n (cutS a lo hi) :=
  ⟨Nat.le_trans (cutS_length a lo hi) ha.len, fun c hc => ha.low c (by
    have hc : c ∈ ((a.cps.toList.drop (HT.sIx a.length 0 lo)).take (HT.sIx a.length a.length hi - HT.sIx a.length 0 lo)) := by simpa [cutS] using hc
    exact List.mem_of_mem_drop (List.mem_of_mem_take hc))⟩
theorem joinL_nil : ∀ ps : List (List Nat), joinL [] ps = ps.flatten
  | [] => rfl
  | [p] => by simp [joinL]
  | p :: q :: r => by rw [joinL, joinL_nil (q :: r)]; simp
theorem W.join {cs : List Str} (h : ∀ c ∈ cs, W 1 c) : W cs.length (Txt.join "" cs) := by
  have e : tl (Txt.join "" cs) = (cs.map tl).flatten := by
    rw [join_eq, tl_join]
    exact joinL_nil _
  refine ⟨?_, fun c hc => ?_⟩
  · rw [← tl_len, e]
    clear e
    induction cs with
    | nil => simp
    | cons a cs ih =>
      rw [List.map_cons, List.flatten_cons, List.length_append, List.length_cons, tl_len]
      have := ih fun c hc => h c (List.mem_cons_of_mem _ hc)
      have := (h a List.mem_cons_self).len
      omega
  · rw [e, List.mem_flatten] at hc
    obtain ⟨l, hl, hc⟩ := hc
    obtain ⟨s, hs, rfl⟩ := List.mem_map.mp hl
    exact (h s hs).low c hc
theorem W.mono {n m : Nat} {a : Str} (h : W n a) (l : n ≤ m) : W m a := ⟨Nat.le_trans h.len l, h.low⟩
theorem W.sum {cs : List Str} (h : ∀ c ∈ cs, W 1 c) : (cs.map (·.length)).sum ≤ cs.length := by
  induction cs with
  | nil => exact Nat.le_refl _
  | cons a cs ih =>
    rw [List.map_cons, List.sum_cons, List.length_cons]
    have := ih fun c hc => h c (List.mem_cons_of_mem _ hc)
    have := (h a List.mem_cons_self).len
    omega
theorem W.sign {n : Nat} {z : Str} {i : Int} (h : W n z) (h0 : 0 ≤ i) (h1 : i < (z.length : Int)) : ∃ c, atI z.cps.toList i = some c ∧ W 1 ⟨#[c]⟩ := by
  have l : i.toNat < z.cps.toList.length := by
    have e : z.cps.toList.length = z.length := tl_len z
    omega
  refine ⟨z.cps.toList[i.toNat], Rd.atN h0 (List.getElem?_eq_getElem l), Nat.le_refl _, fun c hc => ?_⟩
  have e : c = z.cps.toList[i.toNat] := by simpa using hc
  rw [e]
  exact h.low _ (List.getElem_mem l)
end W6
local macro_rules | `(tactic| walk_at "look") => `(tactic| first
  | assumption
  | exact upd_same
  | exact SqL.of (by assumption)
  | exact SqL.of upd_same)
local macro_rules | `(tactic| walk_at "cond") => `(tactic| first | decide | (show _ ∨ _; right; split <;> decide) | (show _ ∧ _; constructor <;> omega) | (show _ ∨ _; left; constructor <;> omega) | (show _ ∨ _; right; constructor <;> omega) | (show _ ≠ _; omega) | (show _ < _; omega))
local macro_rules | `(tactic| walk_at "rd") => `(tactic| (with_reducible first
  | refine Rd.var rfl ?_ | refine Rd.cst ?_ | refine Rd.op ?_ | refine Rd.un ?_ | refine Rd.i0 ?_ | refine Rd.u1 ?_ | refine Rd.cons ?_ | refine Rd.nil ?_
  | refine Rd.seq ?_ | refine Rd.ifs ?_ | refine Rd.asg ?_ | refine Rd.gname ?_ | refine Rd.gsub ?_ | refine Rd.ret ?_ | refine Rd.retN ?_ | refine Rd.drop ?_ | refine Rd.next ?_
  | refine Rd.test ?_ | refine Rd.tb_ ?_ | refine Rd.not_ ?_ | refine Rd.or_ ?_ | refine Rd.and_ ?_ | refine Rd.orV ?_ | refine Rd.andV ?_ | refine Rd.notV ?_ | refine Rd.tif ?_ | refine Rd.yes ?_
  | refine Rd.cb ?_ | refine Rd.call ?_ | refine Rd.sl ?_ | refine Rd.noPart ?_ | refine Rd.part ?_ | refine Rd.int_ ?_ | refine Rd.bl_ ?_
  | refine Rd.eq rfl ?_ | refine Rd.ne rfl ?_ | refine Rd.lst ?_ | refine Rd.tup ?_ | refine Rd.par ?_ | refine Rd.bm ?_ | refine Rd.bm0 ?_ | refine Rd.m1 ?_ | refine Rd.isStr ?_ | refine Rd.lcR ?_ | refine Rd.forR ?_ | refine Rd.gcons ?_ | refine Rd.gnil ?_
  | refine Rd.int1 ?_ | refine Rd.intB ?_ | refine Rd.two ?_ | refine Rd.one ?_ | refine Rd.andr ?_ | refine Rd.str_ ?_
  | (refine Rd.ic ?k1 ?_; (case k1 => with_unfolding_all walk_at "cond"))
  | (refine' Rd.ixL ?k1 ?k2 ?_; (case k1 => with_unfolding_all walk_at "look"); (case k2 => with_unfolding_all (first | rfl | exact Rd.at0)))
  | (refine' Rd.setL ?k1 ?k2 ?_; (case k1 => with_unfolding_all walk_at "look"); (case k2 => with_unfolding_all rfl))
  | (refine' Rd.lenL ?k1 ?_; (case k1 => with_unfolding_all walk_at "look"))
  | (refine' Rd.lenK ?k1 ?_; (case k1 => with_unfolding_all walk_at "look"))
  | refine Rd.tru ?_ | (refine' Rd.truL ?k1 ?_; (case k1 => with_unfolding_all walk_at "look"))))

namespace Ex
open PySem.Spec PyProof.Rows
/-! ### an own error with one field, f: def __init__(self, f): self.f = f -/
def spInit (C : Addr) (f : Str) : Sp := fun vs H Q _ => ∃ (a : Addr) (v : V), vs = [.ref a, v] ∧ H a = some (exo a C none) ∧ ∀ dx, H dx = none → dx ≠ a → Q .non (upd (upd H dx (exd dx [(f, v)])) a (exo a C (some dx)))
structure ErrC (K : PySem.W.Frag) (mg : Str → Option Value) (x f : Str) (C : Addr) : Prop where
  t : OexC K C
  xf : XfC K C
  ic : ExcC K C
  no : PySem.W.findIn K (.ref C) f = some none
  g : mg x = some (.ref C)
  te : PySem.W.exmOne K (.ref C) (.ref C) = some true
/-- its __init__ as a def that keeps its promise -/
def InitOk (P : Program) (w : World) (K : PySem.W.Frag) (mg : Str → Option Value) (base : Heap) (f : Str) (C : Addr) : Prop :=
  ∃ (fI : Addr) (fd : FuncData), PySem.W.findIn K (.ref C) "__init__" = some (some (.ref fI)) ∧ PySem.W.typeIn K (.ref fI) = some (.type "function") ∧ FnOk P w K mg base CX0 1 fI fd ["self", f] (spInit C f) ∧ Binds K fd ["self", f] []
theorem made_heap {H : Hp} {a d : Addr} {f : Str} {v : V} {C : Addr} (ha : H a = none) (hda : d ≠ a) :
    upd (L2.del (upd (upd (upd H a (exo a C none)) d (exd d [(f, v)])) a (exo a C (some d))) a) d (.xd [(f, v)]) = upd H d (.xd [(f, v)]) := by
  funext b
  by_cases hb : b = d
  · subst hb; rw [upd_same, upd_same]
  · rw [upd_ne hb, upd_ne hb]
    by_cases hba : b = a
    · subst hba; rw [del_same, ha]
    · rw [del_ne hba, upd_ne hba, upd_ne hb, upd_ne hba]
section
variable {X : Cx} {σ : L2.St} {H : Hp}
theorem pmkE {x f : Str} {C : Addr} {k : Nat} {e : Expr} {es : List Expr} {p pos : Pos} {ta : TA} (T : ErrC X.K X.mg x f C) (M : InitOk X.prog X.w X.K X.mg X.base f C) (hr : Room k X.A) (hk : 2 ≤ k) (ha : PA X (e :: es) ta) (hg : Gl X x := by rfl)
    (hdb : (x == ("__debug__" : Str)) = false := by decide) (he : starEach (e :: es) X.env = (false, eval e X.env) :: starEach es X.env := by rfl) (hpl : (backTo pos (starEach es X.env)).any (·.1) = false := by rfl) :
    PMk X (.Call (.Name x p) (e :: es) [] pos) (tMkO C (spInit C f) [] ta) := by
  obtain ⟨fI, fd, iC, tI, F, hb⟩ := M
  exact pmk_oex T.t iC tI F (hr.mono hk) hb .nil pass0 hg T.g ha hdb he hpl
theorem mk {C : Addr} {sp : Sp} {dvs : List V} {ta : TA} {Q : XK} (k : ta σ H fun vs H1 => vs.length ≤ 1000 ∧ ∀ a, H1 a = none → sp (.ref a :: (vs ++ dvs)) (upd H1 a (exo a C none)) (fun v H2 => v = .non ∧ ∃ (d : Addr) (fs : List (Str × V)), H2 a = some (exo a C (some d)) ∧ H2 d = some (exd d fs) ∧ H1 d = none ∧ Q (.ref C) (some d) (upd (L2.del (H2) a) d (.xd fs))) (fun _ _ _ => False)) :
    tMkO C sp dvs ta σ H Q := k
theorem made {C : Addr} {f : Str} {v : V} {Q : XK} (h : ∀ d, H d = none → Q (.ref C) (some d) (upd H d (.xd [(f, v)]))) :
    [v].length ≤ 1000 ∧ ∀ a, H a = none → spInit C f (.ref a :: ([v] ++ [])) (upd H a (exo a C none)) (fun u H2 => u = .non ∧ ∃ (d : Addr) (fs : List (Str × V)), H2 a = some (exo a C (some d)) ∧ H2 d = some (exd d fs) ∧ H d = none ∧ Q (.ref C) (some d) (upd (L2.del H2 a) d (.xd fs))) (fun _ _ _ => False) := by
  refine ⟨by simp, fun a ha => ⟨a, v, rfl, upd_same, fun d hd hda => ⟨rfl, d, [(f, v)], upd_same, ?_, ?_, ?_⟩⟩⟩
  · rw [upd_ne hda, upd_same]
  · rw [upd_ne hda] at hd; exact hd
  · rw [upd_ne hda] at hd
    rw [made_heap ha hda]
    exact h d hd
end
/-! ### defs that may raise -/
def CalX (P : Program) (w : World) (K : PySem.W.Frag) (mg : Str → Option Value) (base : Heap) (k : Nat) (x : Str) (sp : Sp) : Prop :=
  ∃ (f : Addr) (fd : FuncData) (ps : List Str), FnG P w K mg base (L2.CX P w) k f fd ps sp ∧ mg x = some (.ref f) ∧ PySem.W.keepIn K (.ref f) = true ∧ Binds K fd ps []
section
variable {P : Program} {w : World} {K : PySem.W.Frag} {mg : Str → Option Value} {base : Heap}
theorem byX {x : Str} {st : Stmt} {ps N : List Str} {k : Nat} {sp : Sp} (D : DefAt K mg x st ps) (S : FnScope N ps (defScope st)) (len : ∀ vs H Q E, sp vs H Q E → vs.length = ps.length)
    (inner : ∀ (f : Addr) (cd : Value) (A : Around), A.guards = some [] → ∀ (outer : List Env) (s : Shared) (H : Hp) (vs : List V) (Q : VK) (E : XK),
      Room k (A.deeper (envOfC x (defScope st) s.heap.objs.size f cd)) → sp vs H Q E →
      ∃ t, PSs (cxOf (L2.CX P w) P w K mg base N x (defScope st) f cd A outer s H E) (defBody st) t ∧ t { nx := fun _ H' => Q .non H', rt := Q } (start N vs) H) :
    CalX P w K mg base (k + 1) x sp := by
  obtain ⟨f, fd, hm, F, hb⟩ := D
  exact ⟨f, fd, ps, defG F S len (inner f), hm, F.kp, hb⟩
end
section
variable {X : Cx} {k j : Nat} {sp : Sp} {x : Str} {p pos : Pos} {e : Expr} {es : List Expr} {t : TA}
/-- called in a def that lets the same out -/
theorem pe_x {E : XK} (c : CalX X.prog X.w X.K X.mg X.base k x sp) (g : X.A.guards = some []) (hr : Room j X.A) (hk : k ≤ j) (tk : Takes X fun cls d _ H => E cls d H) (ha : PA X (e :: es) t) (hg : Gl X x := by rfl)
    (hdb : (x == ("__debug__" : Str)) = false := by decide) (he : starEach (e :: es) X.env = (false, eval e X.env) :: starEach es X.env := by rfl)
    (hpl : (backTo pos (starEach es X.env)).any (·.1) = false := by rfl) : PE X (.Call (.Name x p) (e :: es) [] pos) (tCall sp [] E t) := by
  obtain ⟨f, fd, ps, F, hm, hkp, hb⟩ := c
  exact pe_callG F g (hr.mono hk) hg hm hkp hb .nil (passes_call tk fun _ _ _ _ h => h) ha hdb he hpl
/-- called where nothing is raised -/
theorem pe_x0 (c : CalX X.prog X.w X.K X.mg X.base k x sp) (g : X.A.guards = some []) (hr : Room j X.A) (hk : k ≤ j) (ha : PA X (e :: es) t) (hg : Gl X x := by rfl)
    (hdb : (x == ("__debug__" : Str)) = false := by decide) (he : starEach (e :: es) X.env = (false, eval e X.env) :: starEach es X.env := by rfl)
    (hpl : (backTo pos (starEach es X.env)).any (·.1) = false := by rfl) : PE X (.Call (.Name x p) (e :: es) [] pos) (tCall sp [] E0 t) := by
  obtain ⟨f, fd, ps, F, hm, hkp, hb⟩ := c
  refine pe_callG F g (hr.mono hk) hg hm hkp hb .nil (fun pins σ H s u s' I z => ?_) ha hdb he hpl
  obtain ⟨_, _, _, _, _, _, _, _, _, _, _, _, z⟩ := z
  exact z.elim
/-- called in a try -/
theorem pe_xS {W : WX} (c : CalX X.prog X.w X.K X.mg X.base k x sp) (g : X.A.guards = some []) (hr : Room j X.A) (hk : k ≤ j) (tk : Takes X W) (ha : PA X (e :: es) t) (hg : Gl X x := by rfl)
    (hdb : (x == ("__debug__" : Str)) = false := by decide) (he : starEach (e :: es) X.env = (false, eval e X.env) :: starEach es X.env := by rfl)
    (hpl : (backTo pos (starEach es X.env)).any (·.1) = false := by rfl) : PE X (.Call (.Name x p) (e :: es) [] pos) (tCallS sp (WE W) t) := by
  obtain ⟨f, fd, ps, F, hm, hkp, hb⟩ := c
  refine ⟨fun pins s σ H Q I h => wpAny_Call_Name_kw (ld_glob I hg hm ?_ hdb)⟩
  refine PySem.W.callWith_K (h₀ := X.base) I.ok.mod.kin hkp (thn (ha.run pos pins s σ H _ I h) ?_) he hpl
  rintro us s1 ⟨vs, H1, I1, r, q⟩
  refine ⟨I1.kIn, ?_⟩
  have lens : us.length = ps.length := (r.length).symm.trans (F.len _ _ _ _ q)
  have body := F.go X.A g X.stack s1 H1 ⟨us, []⟩ us vs Q (WE W σ) (hr.mono hk) I1.env0 (by simpa using hb s1 us I1.kIn (by simpa using lens)) r q
  refine wpAny_call (codeAny_mono body ?_)
  intro res s' hres
  match res, hres with
  | .error e, z => exact passAt tk σ pins H1 s1 e s' I1 z
  | .ok (.ret u), z => exact I1.after z
  | .ok .next, z => exact z.elim
  | .ok .brk, z => exact z.elim
  | .ok .cont, z => exact z.elim
end
end Ex
namespace PySem.W
open PySem PySem.Calls PyProof.Rows
theorem clsIn_obj {K : Frag} {D : Addr} (h : hasDictIn K D = true) : ∃ c d cd sl, K.lookup D = some ⟨c, d, .cls cd, sl⟩ := by
  obtain ⟨cd, hc, _⟩ := any_some h
  unfold clsIn at hc
  split at hc
  · rename_i c d cd' sl ho
    exact ⟨c, d, cd', sl, ho⟩
  · cases hc
/-- an instance of an own exception class, with whatever dict, as isinstance asks it -/
theorem kitxD {K : Frag} {x D : Addr} {ox : Obj} {od : Option Obj} (C : L2.ExcC K D) : KitX K (.ref x) (.ref D) (fun h => InstAt h x ox D od) where
  ty := fun _ _ _ I => I.type
  it := fun _ _ X _ => by
    obtain ⟨c, d, cd, sl, ho⟩ := clsIn_obj C.hd
    intro A' Q' E' s' k q
    unfold isType loadHead
    exact wpAny_bind (wpAny_loadPart (k _ _ (X _ _ ho)) (wpAny_pure q))
  ne := fun h tp dd its n sl X htp => by
    obtain ⟨c, d, cd, sl', ho⟩ := clsIn_obj C.hd
    cases e : (Value.ref D == .ref tp) with
    | false => rfl
    | true =>
      obtain rfl : D = tp := Value.ref.inj (beq_iff_eq.mp e)
      have z := (X _ _ ho).symm.trans htp
      cases z
  ca := fun X I k => kx_classE X I C.hg C.hk C.hs (findObj_dataE (by obtain ⟨cd, hc, _⟩ := any_some C.hd; rw [hc]; rfl) C.ha C.hn C.ht) C.hm k
end PySem.W
namespace Ex
open PySem.Spec PyProof.Rows
/-- isinstance(e, c), e the exception that the suite holds, with its dict -/
def rIsD (K : PySem.W.Frag) (C a : Addr) (cls : Value) (d : Option Addr) : List V → Hp → VK → Prop := fun xs H Q => ∃ (c : V) (cv : Value) (b : Bool) (dd : Addr) (fs : List (Str × V)), xs = [.ref a, c] ∧ ClsV c cv ∧ cls = .ref C ∧ d = some dd ∧ H dd = some (.xd fs) ∧ PySem.W.kitOne K (.ref C) cv = some b ∧ Q (.bl b) H
theorem call_isD {X : Cx} {a C : Addr} {oe : Obj} {cls : Value} {d : Option Addr} {pn : List (Addr × Obj)} (T : ExcC X.K C) (hz : Zc cls d oe) (hf : ∃ vs, oe.data = .fields vs) : CallR (X.suite a ((a, oe) :: pn)) (.builtin "isinstance") (rIsD X.K C a cls d) := by
  intro pins s σ H xs us Q I r h
  obtain ⟨c, cv, b, dd, fs, rfl, kc, ec, ed, ea, e, q⟩ := h
  obtain ⟨u, t, rfl, ru, rt⟩ := vals2 r
  obtain rfl : u = Value.ref a := ru
  obtain rfl := kc.eq rt
  subst ec ed
  obtain ⟨hget, _⟩ := I.pin (a, oe) (List.mem_append.mpr (.inl List.mem_cons_self))
  obtain ⟨vs, hv⟩ := hf
  have hx : ObjOk X.prog X.w H s.heap dd (.xd fs) := I.hok dd _ ea
  obtain ⟨mA, hns, hr⟩ := hx
  obtain ⟨od, ho, hl⟩ := lookIn_ns hns
  have J : PySem.W.InstAt s.heap a oe C (some od) := ⟨hget, hz.1, by unfold PySem.W.notCls; rw [hv] <;> rfl, by rw [hz.2]; exact ho⟩
  exact PySem.W.kia_one (PySem.W.kitxD T) I.kIn J e (fun z => nomatch z) fun tk => ⟨.bl b, H, I.kept (t' := tk) fun _ _ z => z, rfl, q⟩
end Ex
namespace Gk
open PySem.Spec PyProof.Rows
section
variable {X : Cx}
def rReprX (K : PySem.W.Frag) : List V → Hp → VK → Prop := fun xs H Q => rRepr K xs H Q ∨ ∃ p, xs = [.ref p] ∧ H p = some (.dK []) ∧ Q (.str "{}") H
theorem call_reprX (hg : X.A.guards = some []) (hu : X.A.units + 64 < cLine) : CallR X (.builtin "repr") (rReprX X.K) := by
  intro pins s σ H xs us Q I r h
  rcases h with h | ⟨p, rfl, hp, q⟩
  · exact call_reprD hg hu pins s σ H xs us Q I r h
  · obtain ⟨u, rfl, ru⟩ := vals1 r
    obtain rfl : u = Value.ref p := ru
    obtain ⟨_, ns, vs, kv, dof⟩ := dk_of I.hok hp
    obtain rfl : vs = [] := by cases kv; rfl
    obtain ⟨o, es, ep, h1, h2, h3, _, h4, _⟩ := dof
    have he : es.toList = [] := by
      cases hz : es.toList with
      | nil => rfl
      | cons a l => rw [hz] at h4; cases h4
    have rd : Reads s.heap (.ref p) (.dict []) (p :: [] ++ []) := .dict h1 h2.1 h3 (by rw [he]; exact .nil) (by rw [he]; exact .nil)
    have e : (PyData.dict []).shown = "{}" := by decide +kernel
    have out : ∀ h' u' tk, (∀ b o, s.heap.get? b = some o → h'.get? b = some o) → EP X pins σ Q (.str (PyData.dict []).shown u') { s with heap := h', toks := tk } :=
      fun h' u' tk hk => ⟨.str "{}", H, I.kept hk, ⟨u', by rw [e]⟩, q⟩
    refine repr_of_reads' rd (by rfl) (fun _ m => ?_) hg (by show _ + (PyData.depth (.dict []) + 1) < _; have : PyData.depth (.dict []) = 1 := rfl; omega) (fun _ _ z => z) out (by rw [e]; decide +kernel)
    have : sysModules = p := by simpa using m
    rw [← this] at ns
    simp at ns
end
end Gk
namespace Gk
open PySem.Spec PyProof.Rows
section
variable {X : Cx} {k j : Nat} {sp : Sp} {x : Str} {p pos : Pos}
/-- a def without arguments -/
theorem pe_cG0 (c : CalG X.prog X.w X.K X.mg X.base k x sp) (g : X.A.guards = some []) (hr : Room j X.A) (hk : k ≤ j) (hg : Gl X x := by rfl) (hdb : (x == ("__debug__" : Str)) = false := by decide) :
    PE X (.Call (.Name x p) [] [] pos) (tCall sp [] E0 tNil) := by
  obtain ⟨f, fd, ps, F, hm, hkp, hb⟩ := c
  refine ⟨fun pins s σ H Q I h => wpAny_Call_Name_kw (ld_glob I hg hm ?_ hdb)⟩
  exact PySem.W.callWith_K0 I.kIn hkp (runG (us := []) F g (hr.mono hk) hb .nil pass0 I .nil h)
end
end Gk
namespace Kw
open PySem.Spec PyProof.Rows
section
variable {X : Cx}
/-- in of data in a tuple of data -/
def rInDT (K : PySem.W.Frag) : R2 := fun x y H Q => ∃ d ds, Dp K H x d ∧ Dp K H y (.tuple ds) ∧ SeqAt.shaped d = true ∧ SeqAt.shaped (.tuple ds) = true ∧ Q (.bl (ds.any fun z => z.eqv d)) H
theorem op_inDT (hu : X.A.units + 65 < cLine) : OpR X (compareOp .In) (rInDT X.K) := by
  intro pins s σ H x y v u Q I rx ry h
  obtain ⟨d, ds, hd, he, sd, se, q⟩ := h
  obtain ⟨as, r1⟩ := Dp.reads I d x v hd rx
  obtain ⟨bs, r2⟩ := Dp.reads I (.tuple ds) y u he ry
  exact SeqAt.in_tuple_reads r2 r1 (SeqAt.canLay_of_shaped se) (SeqAt.canLay_of_shaped sd) (room_in_shaped sd hu) ⟨.bl (ds.any fun y => y.eqv d), H, I, rfl, q⟩
/-! ### a def called with all its parameters by name -/
def CalXK (P : Program) (w : World) (K : PySem.W.Frag) (mg : Str → Option Value) (base : Heap) (k : Nat) (x : Str) (sp : Sp) (ks : List Str) (g : List Value → List Value) (gV : List V → List V) : Prop :=
  ∃ (f : Addr) (fd : FuncData) (ps : List Str), FnG P w K mg base (L2.CX P w) k f fd ps sp ∧ mg x = some (.ref f) ∧ PySem.W.keepIn K (.ref f) = true ∧
    (∀ (s : Shared) (ws : List Value), ws.length = ks.length → BindsTo s fd ⟨[], ks.zip ws⟩ (ps.zip (g ws))) ∧ (∀ {zs : List V} {ws : List Value}, zs.length = ks.length → Vals zs ws → Vals (gV zs) (g ws))
def tCallKw (sp : Sp) (n : Nat) (gV : List V → List V) (tk : TA) : TE := fun σ H Q => tk σ H fun zs H1 => zs.length = n ∧ sp (gV zs) H1 Q E0
theorem callKw {σ : L2.St} {H : Hp} {Q : VK} {sp : Sp} {n : Nat} {gV : List V → List V} {tk : TA} (k : tk σ H fun zs H1 => zs.length = n ∧ sp (gV zs) H1 Q E0) : tCallKw sp n gV tk σ H Q := k
theorem pe_xK0 {k j : Nat} {sp : Sp} {x : Str} {p pos : Pos} {kws : List Keyword} {tk : TA} {ks : List Str} {g : List Value → List Value} {gV : List V → List V} (c : CalXK X.prog X.w X.K X.mg X.base k x sp ks g gV) (hgd : X.A.guards = some []) (hr : Room j X.A) (hk : k ≤ j) (hkw : PK X kws tk)
    (hg : Gl X x := by rfl) (hdb : (x == ("__debug__" : Str)) = false := by decide) (hall : ((backToKw pos (keywordEach kws X.env)).all fun x => x.1.isSome) = true := by rfl) (hks : (backToKw pos (keywordEach kws X.env)).filterMap (·.1) = ks := by rfl)
    (hpl : (((backTo pos (starEach [] X.env)).any (·.1)) || (backToKw pos (keywordEach kws X.env)).any fun x => x.1.isNone) = false := by rfl) :
    PE X (.Call (.Name x p) [] kws pos) (tCallKw sp ks.length gV tk) := by
  obtain ⟨f, fd, ps, F, hm, hkp, hb, rel⟩ := c
  have hx : Passes (L2.CX X.prog X.w) X E0 := fun pins σ H s u s' I z => by
    obtain ⟨_, _, _, _, _, _, _, _, _, _, _, _, z⟩ := z
    exact z.elim
  refine ⟨fun pins s σ H Q I h => wpAny_Call_Name_kw (ld_glob I hg hm ?_ hdb)⟩
  refine PySem.W.callWith_KW0 I.ok.mod.kin hkp hall (thn (hkw.run pos pins s σ H _ I h) ?_) hpl
  rintro ws s1 ⟨zs, H1, I1, rz, lz, q⟩
  refine ⟨I1.kIn, ?_⟩
  rw [hks]
  have lw : ws.length = ks.length := by rw [← lz]; exact (rz.length).symm
  have body := F.go X.A hgd X.stack s1 H1 ⟨[], ks.zip ws⟩ (g ws) (gV zs) Q E0 (hr.mono hk) I1.env0 (hb s1 ws lw) (rel lz rz) q
  refine wpAny_call (codeAny_mono body ?_)
  intro res s' hres
  match res, hres with
  | .error e, z => exact hx pins σ H1 s1 e s' I1 z
  | .ok (.ret u), z => exact I1.after z
  | .ok .next, z => exact z.elim
  | .ok .brk, z => exact z.elim
  | .ok .cont, z => exact z.elim
end
end Kw
namespace Rd
open PySem.Spec PyProof.Rows
section
variable {K : PySem.W.Frag} {σ : L2.St} {H H' : Hp} {α β : Type}
theorem tupS {a : Addr} {xs : List V} (s : Same H H') (h : SqT K H a xs) : SqT K H' a xs := h.imp (fun r => r.imp (s _ _) (fun ⟨o, e⟩ => ⟨o, s _ _ e⟩)) id
theorem lcW {tl te : TE} {g : TG} {tt : TT} {vs : List Nat} {Q : VK} (k : tl σ H fun x H1 => tLc (iTup K (tC x)) g tt te vs σ H1 Q) : tLc (iTup K tl) g tt te vs σ H Q := k
/-- a comprehension over a tuple of things -/
theorem lcT {tl te : TE} {tt : TT} {vs : List Nat} {j : Nat} {Q : VK} {a : Addr} {xs : List V} {bs : List α} (A : α → V → Hp → Prop) (B : β → V → Hp → Prop) (f : α → Bool) (g : α → β)
    (htl : ∀ R : V → Hp → Prop, R (.ref a) H → tl σ H R) (hl : SqT K H a xs) (hA : Stays A) (hB : Stays B) (pr : Paired (fun b x => A b x H) bs xs) (hz : xs.length ≤ 10000)
    (hw : ∀ x, wipe ((wipe σ vs).set j (some x)) vs = wipe σ vs)
    (turn : ∀ b x H1 (R : Bool → Hp → Prop), b ∈ bs → A b x H → A b x H1 → Same H H1 → (∀ H2, Same H1 H2 → R (f b) H2) → tt ((wipe σ vs).set j (some x)) H1 R)
    (elem : ∀ b x H1 (R : VK), b ∈ bs → f b = true → A b x H → A b x H1 → Same H H1 → (∀ y H2, Same H1 H2 → Off H H1 H2 (B (g b)) y → R y H2) → te ((wipe σ vs).set j (some x)) H1 R)
    (fin : ∀ D ys H1, H D = none → Same H H1 → H1 D = some (.lst ys) → Paired (fun c y => B c y H1) ((bs.filter f).map g) ys → Q (.ref D) H1) :
    tLc (iTup K tl) (gName j) tt te vs σ H Q := by
  have hlen := pair_len pr
  refine htl _ ⟨a, rfl, ⟨xs, hl⟩, fun D hD => ?_⟩
  refine lc_tup (K := K) (a := a) (xs := xs) (fun i H1 => ∃ ys, H1 D = some (.lst ys) ∧ ys.length ≤ i ∧ Same H H1 ∧ ∀ o, Paired (fun c y => B c y (upd H1 D o)) (((bs.take i).filter f).map g) ys) ?_ ?_ ?_ ?_
  · exact ⟨[], upd_same, Nat.le_refl _, sNew hD, fun _ => .nil⟩
  · rintro i H1 hi ⟨ys, _, _, s, _⟩
    exact tupS s hl
  · rintro i x H1 hx ⟨ys, hd, hy, s, pq⟩
    have hi : i < xs.length := (List.getElem?_eq_some_iff.mp hx).1
    obtain ⟨b, hb, hab⟩ := pair_get pr hx
    have mem : b ∈ bs := List.mem_of_getElem? hb
    have tk : bs.take (i + 1) = bs.take i ++ [b] := take_succ hb
    show wipe ((wipe σ vs).set j (some x)) vs = wipe σ vs ∧ _
    refine ⟨hw x, turn b x H1 _ mem hab (hA _ _ _ _ s hab) s fun H2 s2 => ?_⟩
    cases hf : f b with
    | false =>
      rw [if_neg Bool.false_ne_true]
      refine ⟨ys, s2 _ _ hd, by omega, s.trans s2, fun o => ?_⟩
      rw [tk, List.filter_append, List.filter_cons_of_neg (by simp [hf]), List.filter_nil, List.append_nil]
      exact pair_imp (fun c y => hB c y _ _ (sUpd s2)) (pq o)
    | true =>
      rw [if_pos rfl]
      refine elem b x H2 _ mem hf hab (hA _ _ _ _ (s.trans s2) hab) (s.trans s2) fun y H3 s3 hy3 => ?_
      have hd3 := s3 _ _ (s2 _ _ hd)
      have s4 : Same H H3 := (s.trans s2).trans s3
      refine ⟨ys, hd3, szl (by omega), ys ++ [y], upd_same, by rw [List.length_append]; simp; omega, sMut s4 hD, fun o => ?_⟩
      rw [tk, List.filter_append, List.filter_cons_of_pos (by simp [hf]), List.filter_nil, List.map_append, upd_upd]
      exact (pair_imp (fun c z h => hB c z _ _ (sUpd (s2.trans s3)) h) (pq o)).snoc (hy3 D o hD (by rw [s2 _ _ hd]; simp))
  · rintro H1 ⟨ys, hd, hy, s, pq⟩
    refine fin D ys H1 hD s hd ?_
    have pq := pq (.lst ys)
    rw [← hlen, List.take_length, upd_id hd] at pq
    exact pq
end
end Rd
namespace Ab
open PySem L2 Gk
def top (i : Nat) : Stmt := PySem.Challenge.pw_answersby_k60_ends_related.main.body.getD i (.Pass ⟨0, 0, 0, 0⟩)
structure PoolOk (x y : Int) : Prop where
  x0 : 0 ≤ x
  y0 : 0 ≤ y
  y1 : y < 2147483647
def spTake : Sp := fun vs H Q _ => ∃ (p : Addr) (x y m : Int), vs = [.ref p, .int m] ∧ H p = some (.lst [.int x, .int y]) ∧ PoolOk x y ∧ 0 < m ∧ m < 1000 ∧
  ∀ r x' y' : Int, PoolOk x' y' → 0 ≤ r → r < m → Q (.int r) (upd H p (.lst [.int x', .int y']))
structure Txt (K : PySem.W.Frag) (mg : Str → Option Value) : Prop where
  int : mg "int" = none
  len : mg "len" = none
  max : mg "max" = none
  min : mg "min" = none
  isinstance : mg "isinstance" = none
  range : mg "range" = none
  bool : mg "bool" = none
  str : mg "str" = none
  any : mg "any" = none

section
variable {P : Program} {w : World} {K : PySem.W.Frag} {mg : Str → Option Value} {base : Heap}
abbrev sL_take : Stmt := top 14
abbrev nL_take : List Str := ["_law_pool_here", "_law_many", "_law_found"]
theorem scL_take : FnScope nL_take ["_law_pool_here", "_law_many"] (defScope sL_take) := ⟨rfl, rfl, rfl, by decide +kernel, rfl, by decide +kernel, by decide +kernel⟩
theorem ok_take (T : Txt K mg) (D : DefAt K mg "_law_take" sL_take ["_law_pool_here", "_law_many"]) : CalG P w K mg base 1 "_law_take" spTake := by
  refine D.by scL_take (fun vs H Q E h => ?_) (fun f cd A hg outer s H vs Q E hr h => ?_)
  · obtain ⟨p, x, y, m, rfl, _⟩ := h
    rfl
  · obtain ⟨p, x, y, m, rfl, hp, ok, m0, m1, k⟩ := h
    refine ⟨_, (pss_cons (ps_if (pt_cmpR op_gt (pe_ix (r := rIxL K) ix_list (pv 0) pe_int (fun _ _ => rfl)) pe_int (nomark _))
  (pss_cons (ps_set (i := 2) scL_take.nd rfl (Or.inl rfl) (pe_op op_modN (pe_callTy call_int1 (by rfl) T.int (by decide +kernel) (pa_cons (pe_ix (r := rIxL K) ix_list (pv 0) pe_int (fun _ _ => rfl)) pa_nil)) (pv 1)))
  (pss_cons (ps_asg (pe_op op_fdivN (pe_ix (r := rIxL K) ix_list (pv 0) pe_int (fun _ _ => rfl)) (pv 1)) (pg_sub (pv 0) pe_int set_list))
  (pss_one (ps_ret (pv 2)))))
  pss_nil)
  (pss_cons (ps_asg (pe_op op_modN (pe_callTy call_int1 (by rfl) T.int (by decide +kernel) (pa_cons (pe_op op_add (pe_op op_mul (pe_ix (r := rIxL K) ix_list (pv 0) pe_int (fun _ _ => rfl)) pe_int) pe_int) pa_nil)) pe_int) (pg_sub (pv 0) pe_int set_list))
  (pss_one (ps_ret (pe_op op_modN (pe_op op_fdivN (pe_op op_modN (pe_callTy call_int1 (by rfl) T.int (by decide +kernel) (pa_cons (pe_op op_mul (pe_ix (r := rIxL K) ix_list (pv 0) pe_int (fun _ _ => rfl)) (pe_ix (r := rIxL K) ix_list (pv 0) pe_int (fun _ _ => rfl))) pa_nil)) pe_int) pe_int) (pv 1)))))), ?_⟩
    repeat walk_at "rd"
    refine Rd.dec (fun c => ?_) (fun c => ?_)
    · repeat walk_at "rd"
      have e := Int.fdiv_eq_ediv_of_nonneg x (Int.le_of_lt m0)
      have e' := Int.fmod_eq_emod_of_nonneg x (Int.le_of_lt m0)
      have a := Int.emod_nonneg x (show m ≠ 0 by omega)
      have b := Int.emod_lt_of_pos x m0
      have d := Int.ediv_nonneg (a := x) (b := m) (by omega) (by omega)
      exact k _ _ _ ⟨by omega, ok.y0, ok.y1⟩ (by omega) (by omega)
    · have y0 := ok.y0
      have y1 := ok.y1
      obtain ⟨z0, z1⟩ := Rd.fm (i := y * 48271 + 11) (m := 2147483647) (by decide)
      repeat walk_at "rd"
      obtain ⟨r0, r1⟩ := Rd.fm (i := ((((y * 48271 + 11).fmod 2147483647) * ((y * 48271 + 11).fmod 2147483647)).fmod 2147483629).fdiv 64) m0
      exact k _ _ _ ⟨ok.x0, z0, z1⟩ r0 r1
def spPool (K : PySem.W.Frag) : Sp := fun vs H Q _ => ∃ (a : Addr) (ns : List Int) (k : Int), vs = [.ref a, .int k] ∧ SqL K H a (ns.map V.int) ∧ 0 ≤ k ∧ k < 1000 ∧
  ∀ (p : Addr) (x y : Int), H p = none → PoolOk x y → Q (.ref p) (upd H p (.lst [.int x, .int y]))
abbrev sL_pool : Stmt := top 13
abbrev nL_pool : List Str := ["_law_script", "_law_k", "_law_cell", "_law_size"]
theorem scL_pool : FnScope nL_pool ["_law_script", "_law_k"] (defScope sL_pool) := ⟨rfl, rfl, rfl, by decide +kernel, rfl, by decide +kernel, by decide +kernel⟩
theorem ok_pool (T : Txt K mg) (D : DefAt K mg "_law_pool" sL_pool ["_law_script", "_law_k"]) : CalG P w K mg base 1 "_law_pool" (spPool K) := by
  refine D.by scL_pool (fun vs H Q E h => ?_) (fun f cd A hg outer s H vs Q E hr h => ?_)
  · obtain ⟨a, ns, k, rfl, _⟩ := h
    rfl
  · obtain ⟨a, ns, k, rfl, hS, k0, k1, q⟩ := h
    refine ⟨_, (pss_cons (ps_set (i := 2) scL_pool.nd rfl (Or.inl rfl) pe_int)
  (pss_cons (ps_if (pt_cmpR op_lt (pv 1) (pe_callB (r := Rd.rLenK K) Rd.callLen (by rfl) T.len PySem.boot_len (pa_cons (pv 0) pa_nil)) (nomark _))
  (pss_one (ps_set (i := 2) scL_pool.nd rfl (Or.inl rfl) (pe_ix (r := rIxL K) ix_list (pv 0) (pv 1) (fun _ _ => rfl))))
  pss_nil)
  (pss_cons (ps_set (i := 3) scL_pool.nd rfl (Or.inl rfl) (pe_callB (call_max2 rfl) (by rfl) T.max (by decide +kernel) (pa_cons (pv 2) (pa_cons (pe_op op_sub (pe_un un_neg pe_int) (pv 2)) pa_nil))))
  (pss_one (ps_ret (pe_lst (pa_cons (pe_op op_mul (pv 3) (pe_callTy call_int1 (by rfl) T.int (by decide +kernel) (pa_cons (pe_cmpR op_ge (pv 3) (pe_op op_pow pe_int pe_int) (nomark _)) pa_nil))) (pa_cons (pe_op op_modN (pe_op op_mul (pe_callTy call_int1 (by rfl) T.int (by decide +kernel) (pa_cons (pe_op op_add (pe_op op_add (pe_op op_modN (pe_callTy call_int1 (by rfl) T.int (by decide +kernel) (pa_cons (pv 3) pa_nil)) pe_int) (pe_op op_mul pe_int (pv 1))) pe_int) pa_nil)) pe_int) pe_int) pa_nil)))))))), ?_⟩
    repeat walk_at "rd"
    have fin : ∀ (sz : Int) (k1 : Int), 0 ≤ sz → 0 ≤ k1 → k1 < 1000 → PoolOk (sz * (if decide ((10 : Int) ^ (Int.toNat 18) ≤ sz) = true then 1 else 0)) (((sz.fmod 2147483629 + 7919 * k1 + 104729) * 48271).fmod 2147483647) := by
      intro sz k1 h0 h1 h2
      obtain ⟨y0, y1⟩ := Rd.fm (i := (sz.fmod 2147483629 + 7919 * k1 + 104729) * 48271) (m := 2147483647) (by decide)
      refine ⟨?_, y0, y1⟩
      split
      · omega
      · omega
    refine Rd.dec (fun c => ?_) (fun c => ?_)
    · repeat walk_at "rd"
      obtain ⟨cell, ix⟩ := Rd.at_int k0 c
      refine Rd.ixL hS ix ?_
      have sz0 : 0 ≤ (if (-1 : Int) - cell > cell then -1 - cell else cell) := by split <;> omega
      have fmz := Rd.fm (i := (if (-1 : Int) - cell > cell then -1 - cell else cell)) (m := 2147483629) (by decide)
      repeat walk_at "rd"
      refine ⟨Rd.sz (by simp), fun p hp => ?_⟩
      exact q p _ _ hp (fin _ _ sz0 k0 k1)
    · have sz0 : 0 ≤ (if (-1 : Int) - 0 > 0 then -1 - 0 else (0 : Int)) := by split <;> omega
      have fmz := Rd.fm (i := (if (-1 : Int) - 0 > 0 then -1 - 0 else (0 : Int))) (m := 2147483629) (by decide)
      repeat walk_at "rd"
      refine ⟨Rd.sz (by simp), fun p hp => ?_⟩
      exact q p _ _ hp (fin _ _ sz0 k0 k1)
end
end Ab
namespace Ab
open PySem.Spec PyProof.Rows
def isStr : V → Bool
  | .str _ => true
  | _ => false
def isBl : V → Bool
  | .bl _ => true
  | _ => false
def isInt : V → Bool
  | .int _ => true
  | .bl _ => true
  | _ => false
/-- a value's own kind, as isinstance tells it -/
structure Kd (K : PySem.W.Frag) (H : Hp) (v : V) (tn : String) : Prop where
  ty : TyX K H v (.type tn)
  s : kitB tn "str" = some (isStr v)
  i : kitB tn "int" = some (isInt v)
  b : kitB tn "bool" = some (isBl v)
def isIn (v : V) (ws : List Str) : Bool := match v with
  | .str s => decide (s ∈ ws)
  | _ => false
def isNum : V → Bool
  | .int _ => true
  | _ => false
theorem isi {K : PySem.W.Frag} {H : Hp} {v : V} {tn c : String} {b : Bool} {Q : VK} (h : TyX K H v (.type tn)) (k : kitB tn c = some b) (q : Q (.bl b) H) : rIsi K [v, .ty c] H Q :=
  ⟨v, .ty c, .type tn, .type c, b, rfl, .ty c, h, kit_ty k, q⟩
theorem inT {K : PySem.W.Frag} {H : Hp} {x : V} {p : Addr} {xs : List V} {Q : VK} {neg : Bool} (h : SqT K H p xs) (hx : flatV x = true) (ha : xs.all flatV = true) (k : Q (.bl (if neg then !inV x xs else inV x xs)) H) : rIn K neg x (.ref p) H Q := ⟨p, xs, rfl, .inr h, hx, ha, k⟩
theorem inV_str (w : Str) (l : List Str) : inV (.str w) (l.map V.str) = decide (w ∈ l) := by
  induction l with
  | nil => rfl
  | cons a l ih =>
    show (eqV (.str a) (.str w) || inV (.str w) (l.map V.str)) = _
    rw [ih]
    show ((a == w) || _) = _
    by_cases e : a = w
    · subst e; simp
    · have e' : ¬ w = a := fun z => e z.symm
      simp [e, e']
theorem flat_strs (l : List Str) : (l.map V.str).all flatV = true := by
  rw [List.all_eq_true]
  intro x hx
  obtain ⟨s, _, rfl⟩ := List.mem_map.mp hx
  rfl
section
variable {P : Program} {w : World} {K : PySem.W.Frag} {mg : Str → Option Value} {base : Heap}
abbrev sIs_one_of : Stmt := top 5
abbrev nIs_one_of : List Str := ["value", "words"]
theorem scIs_one_of : FnScope nIs_one_of ["value", "words"] (defScope sIs_one_of) := ⟨rfl, rfl, rfl, by decide +kernel, rfl, by decide +kernel, by decide +kernel⟩
def spOneOf (K : PySem.W.Frag) : Sp := fun vs H Q _ => ∃ (v : V) (p : Addr) (tn : String) (ws : List Str), vs = [v, .ref p] ∧ Kd K H v tn ∧ SqT K H p (ws.map V.str) ∧ Q (.bl (isIn v ws)) H
theorem ok_one_of (T : Txt K mg) (D : DefAt K mg "is_one_of" sIs_one_of ["value", "words"]) : CalG P w K mg base 1 "is_one_of" (spOneOf K) := by
  refine D.by scIs_one_of (fun vs H Q E h => ?_) (fun f cd A hg outer s H vs Q E hr h => ?_)
  · obtain ⟨v, p, tn, ws, rfl, _⟩ := h
    rfl
  · obtain ⟨v, p, tn, ws, rfl, k, hp, q⟩ := h
    refine ⟨_, (pss_one (ps_ret (pe_and (pe_callB (r := rIsi K) call_isi (by rfl) T.isinstance (by decide +kernel) (pa_cons (pv 0) (pa_cons (pe_bltn (v := .ty "str") (by rfl) T.str (by decide +kernel) rfl) pa_nil))) (pe_one (pe_cmpR (r := rIn K false) op_in_seq (pv 0) (pv 1) (by rfl)))))), ?_⟩
    repeat walk_at "rd"
    refine isi k.ty k.s ?_
    repeat walk_at "rd"
    refine Rd.bool (fun c => ?_) (fun c => ?_)
    · obtain ⟨z, rfl⟩ : ∃ z, v = .str z := by cases v <;> first | exact ⟨_, rfl⟩ | cases c
      repeat walk_at "rd"
      refine inT hp rfl (flat_strs _) ?_
      have e : (if (false : Bool) = true then !inV (.str z) (ws.map V.str) else inV (.str z) (ws.map V.str)) = decide (z ∈ ws) := by rw [inV_str]; rfl
      rw [e]
      exact q
    · have e : isIn v ws = false := by cases v <;> first | rfl | cases c
      rw [e] at q
      exact q
end

/-! ### ends, as data -/
def rels : List Str := ["same", "opposite", "nonzero", "counts"]
def answersW : List Str := ["yes", "no", "count", "done", "got"]
def one1 (s : Str) : PyData := .tuple [.str s]
def cnt (n : Int) : PyData := .tuple [.str "count", .int n]
def ends : List PyData := [one1 "yes", one1 "no", one1 "done", one1 "got", cnt 0, cnt 1, cnt 2, cnt 3, cnt 4, .tuple [.str "loop", .tuple [.tuple [.str "a", .str "truth", .int 0, .none]]],
  .tuple [.str "refused", .str "size"], .tuple [.str "barred", .str "ab"], .tuple [.str "wrong", .str "has"], .tuple [.str "raised", .str "step"]]
def wd : PyData → Str
  | .tuple (.str w :: _) => w
  | _ => ""
def tlD : PyData → List PyData
  | .tuple (_ :: l) => l
  | _ => []
def nm : PyData → Int
  | .tuple (_ :: .int n :: _) => n
  | _ => 0
theorem ends_form : ∀ d ∈ ends, d = .tuple (.str (wd d) :: tlD d) := by
  intro d h
  simp only [ends, List.mem_cons, List.not_mem_nil, or_false] at h
  rcases h with rfl | rfl | rfl | rfl | rfl | rfl | rfl | rfl | rfl | rfl | rfl | rfl | rfl | rfl <;> rfl
theorem ends_cnt : ∀ d ∈ ends, wd d = "count" → d = .tuple [.str "count", .int (nm d)] := by
  intro d h
  simp only [ends, List.mem_cons, List.not_mem_nil, or_false] at h
  rcases h with rfl | rfl | rfl | rfl | rfl | rfl | rfl | rfl | rfl | rfl | rfl | rfl | rfl | rfl <;> first | (intro _; rfl) | (intro c; exact absurd c (by decide +kernel))
theorem ends_nm : ∀ d ∈ ends, 0 ≤ nm d ∧ nm d ≤ 4 := by decide +kernel
theorem sh_cnt (n : Int) : SeqAt.shaped (cnt n) = true := by with_unfolding_all rfl
theorem ends_sh2 : ∀ d ∈ ends, ∀ e ∈ ends, SeqAt.shaped (.tuple [d, e]) = true ∧ SeqAt.shaped (.list [d, e]) = true := by decide +kernel
theorem ends_sh : ∀ d ∈ ends, SeqAt.shaped d = true := by decide +kernel
mutual
theorem dp_mono {K : PySem.W.Frag} {H H' : Hp} (s : Same H H') : ∀ {v : V} {d : PyData}, Dp K H v d → Dp K H' v d
  | _, _, .non => .non
  | _, _, .bl b => .bl b
  | _, _, .int i => .int i
  | _, _, .str x => .str x
  | _, _, .lst h a => .lst (s.seq h) (dpa_mono s a)
  | _, _, .tup h a => .tup (h.imp (fun r => r.imp (s _ _) (fun ⟨o, e⟩ => ⟨o, s _ _ e⟩)) id) (dpa_mono s a)
theorem dpa_mono {K : PySem.W.Frag} {H H' : Hp} (s : Same H H') : ∀ {vs : List V} {ds : List PyData}, DpAll K H vs ds → DpAll K H' vs ds
  | _, _, .nil => .nil
  | _, _, .cons h t => .cons (dp_mono s h) (dpa_mono s t)
end
structure En (K : PySem.W.Frag) (H : Hp) (v : V) (d : PyData) : Prop where
  mem : d ∈ ends
  dp : Dp K H v d
theorem En.mono {K : PySem.W.Frag} {H H' : Hp} {v : V} {d : PyData} (h : En K H v d) (s : Same H H') : En K H' v d := ⟨h.mem, dp_mono s h.dp⟩
theorem En.sh {K : PySem.W.Frag} {H : Hp} {v : V} {d : PyData} (h : En K H v d) : SeqAt.shaped d = true := ends_sh d h.mem
theorem En.first {K : PySem.W.Frag} {H : Hp} {v : V} {d : PyData} (h : En K H v d) : ∃ p xs, v = .ref p ∧ SqT K H p (.str (wd d) :: xs) := by
  have e := ends_form d h.mem
  have p := h.dp
  rw [e] at p
  cases p with
  | tup h1 a => cases a with
    | cons b c => cases b; exact ⟨_, _, rfl, h1⟩
theorem En.second {K : PySem.W.Frag} {H : Hp} {v : V} {d : PyData} (h : En K H v d) (c : wd d = "count") : ∃ p, v = .ref p ∧ SqT K H p [.str "count", .int (nm d)] := by
  have e := ends_cnt d h.mem c
  have p := h.dp
  rw [e] at p
  cases p with
  | tup h1 a => cases a with
    | cons b c => cases b; cases c with
      | cons b c => cases b; cases c; exact ⟨_, rfl, h1⟩
/-- [0] and [1] of an end -/
theorem En.ix0 {K : PySem.W.Frag} {H : Hp} {v : V} {d : PyData} {Q : VK} (h : En K H v d) (k : Q (.str (wd d)) H) : rIxT K v (.int 0) H Q := by
  obtain ⟨p, xs, rfl, hs⟩ := h.first
  exact Rd.ixT hs Rd.at0 k
theorem En.ix1 {K : PySem.W.Frag} {H : Hp} {v : V} {d : PyData} {Q : VK} (h : En K H v d) (c : wd d = "count") (k : Q (.int (nm d)) H) : rIxT K v (.int 1) H Q := by
  obtain ⟨p, rfl, hs⟩ := h.second c
  exact Rd.ixT hs rfl k
theorem in_ {k : Nat} {A : Around} (r : Room k A) : A.units + 65 < cLine := by have := r.un; omega
/-! ### the program's answer -/
def opp : List PyData := [.tuple [one1 "yes", one1 "no"], .tuple [one1 "no", one1 "yes"]]
def relA (rel : Str) (d e : PyData) (n : Int) : Bool :=
  if rel = "same" then PyData.eqv d e
  else if rel = "opposite" then opp.any fun z => z.eqv (.tuple [d, e])
  else if rel = "nonzero" then (if wd e = "count" then PyData.eqv d (if nm e = 0 then one1 "no" else one1 "yes") else false)
  else PyData.eqv d (cnt n) && PyData.eqv e (one1 "done")
def isAns (d : PyData) : Bool := decide (wd d ∈ answersW)
def relF (rel : Str) (d e : PyData) (n : Int) : Bool := if (isAns d || isAns e) = true then relA rel d e n else true
section
variable {P : Program} {w : World} {K : PySem.W.Frag} {mg : Str → Option Value} {base : Heap}
abbrev sAre_related_answers : Stmt := top 9
abbrev nAre_related_answers : List Str := ["relation", "first", "second", "items"]
theorem scAre_related_answers : FnScope nAre_related_answers ["relation", "first", "second", "items"] (defScope sAre_related_answers) := ⟨rfl, rfl, rfl, by decide +kernel, rfl, by decide +kernel, by decide +kernel⟩
def spAns (K : PySem.W.Frag) : Sp := fun vs H Q _ => ∃ (rel : Str) (v1 v2 : V) (d e : PyData) (n : Int), vs = [.str rel, v1, v2, .int n] ∧ En K H v1 d ∧ En K H v2 e ∧ ∀ H', Same H H' → Q (.bl (relA rel d e n)) H'
theorem ok_ans (T : Txt K mg) (D : DefAt K mg "_are_related_answers" sAre_related_answers ["relation", "first", "second", "items"]) : CalG P w K mg base 1 "_are_related_answers" (spAns K) := by
  refine D.by scAre_related_answers (fun vs H Q E h => ?_) (fun f cd A hg outer s H vs Q E hr h => ?_)
  · obtain ⟨_, _, _, _, _, _, rfl, _⟩ := h
    rfl
  · obtain ⟨rel, v1, v2, d, e, n, rfl, h1, h2, q⟩ := h
    refine ⟨_, (pss_cons (ps_if (pt_cmpR op_eq (pv 0) pe_str (nomark _))
  (pss_one (ps_ret (pe_cmpR (r := rEqD K) (op_eqD hr.units) (pv 1) (pv 2) (nomark _))))
  pss_nil)
  (pss_cons (ps_if (pt_cmpR op_eq (pv 0) pe_str (nomark _))
  (pss_one (ps_ret (pe_cmpR (r := Kw.rInDT K) (Kw.op_inDT (in_ hr)) (pe_tup (pa_cons (pv 1) (pa_cons (pv 2) pa_nil))) (pe_tup (pa_cons (pe_tup (pa_cons (pe_tup (pa_cons pe_str pa_nil)) (pa_cons (pe_tup (pa_cons pe_str pa_nil)) pa_nil))) (pa_cons (pe_tup (pa_cons (pe_tup (pa_cons pe_str pa_nil)) (pa_cons (pe_tup (pa_cons pe_str pa_nil)) pa_nil))) pa_nil))) (by rfl))))
  pss_nil)
  (pss_cons (ps_if (pt_cmpR op_eq (pv 0) pe_str (nomark _))
  (pss_cons (ps_if (pt_cmpR op_ne (pe_ix (r := rIxT K) ix_tup (pv 2) pe_int (fun _ _ => rfl)) pe_str (nomark _))
  (pss_one (ps_ret pe_bl))
  pss_nil)
  (pss_one (ps_ret (pe_cmpR (r := rEqD K) (op_eqD hr.units) (pv 1) (pe_ifExp (pt_cmpR op_eq (pe_ix (r := rIxT K) ix_tup (pv 2) pe_int (fun _ _ => rfl)) pe_int (nomark _)) (pe_tup (pa_cons pe_str pa_nil)) (pe_tup (pa_cons pe_str pa_nil))) (nomark _)))))
  pss_nil)
  (pss_one (ps_ret (pe_and (pe_cmpR (r := rEqD K) (op_eqD hr.units) (pv 1) (pe_tup (pa_cons pe_str (pa_cons (pv 3) pa_nil))) (nomark _)) (pe_one (pe_cmpR (r := rEqD K) (op_eqD hr.units) (pv 2) (pe_tup (pa_cons pe_str pa_nil)) (nomark _))))))))), ?_⟩
    repeat walk_at "rd"
    refine Rd.dec (fun c => ?_) (fun c0 => ?_)
    · have c' : rel = "same" := V.str.inj c
      repeat walk_at "rd"
      refine Rd.eqD h1.dp h2.dp h1.sh h2.sh ?_
      have := q H (Same.refl _)
      rw [relA, if_pos c'] at this
      exact this
    have c0' : rel ≠ "same" := fun z => c0 (by rw [z])
    repeat walk_at "rd"
    refine Rd.dec (fun c => ?_) (fun c1 => ?_)
    · have c' : rel = "opposite" := V.str.inj c
      repeat walk_at "rd"
      refine ⟨Rd.sz (by simp), fun p0 g0 => ?_⟩
      repeat walk_at "rd"
      refine ⟨Rd.sz (by simp), fun p1 g1 => ?_⟩
      repeat walk_at "rd"
      refine ⟨Rd.sz (by simp), fun p2 g2 => ?_⟩
      repeat walk_at "rd"
      refine ⟨Rd.sz (by simp), fun p3 g3 => ?_⟩
      repeat walk_at "rd"
      refine ⟨Rd.sz (by simp), fun p4 g4 => ?_⟩
      repeat walk_at "rd"
      refine ⟨Rd.sz (by simp), fun p5 g5 => ?_⟩
      repeat walk_at "rd"
      refine ⟨Rd.sz (by simp), fun p6 g6 => ?_⟩
      repeat walk_at "rd"
      refine ⟨Rd.sz (by simp), fun p7 g7 => ?_⟩
      repeat walk_at "rd"
      have S6 := Rd.sNew (o := .tup [.ref p3, .ref p6]) g7
      have S5 := (Rd.sNew (o := .tup [.ref p4, .ref p5]) g6).trans S6
      have S4 := (Rd.sNew (o := .tup [.str "yes"]) g5).trans S5
      have S3 := (Rd.sNew (o := .tup [.str "no"]) g4).trans S4
      have S2 := (Rd.sNew (o := .tup [.ref p1, .ref p2]) g3).trans S3
      have S1 := (Rd.sNew (o := .tup [.str "no"]) g2).trans S2
      have S0 := (Rd.sNew (o := .tup [.str "yes"]) g1).trans S1
      have SH := (Rd.sNew (o := .tup [v1, v2]) g0).trans S0
      refine ⟨.tuple [d, e], opp, .tup (.inl (.inl (S0 _ _ upd_same))) (.cons (dp_mono SH h1.dp) (.cons (dp_mono SH h2.dp) .nil)),
        .tup (.inl (.inl upd_same)) (.cons (.tup (.inl (.inl (S3 _ _ upd_same))) (.cons (.tup (.inl (.inl (S1 _ _ upd_same))) (.cons (.str _) .nil)) (.cons (.tup (.inl (.inl (S2 _ _ upd_same))) (.cons (.str _) .nil)) .nil)))
          (.cons (.tup (.inl (.inl (S6 _ _ upd_same))) (.cons (.tup (.inl (.inl (S4 _ _ upd_same))) (.cons (.str _) .nil)) (.cons (.tup (.inl (.inl (S5 _ _ upd_same))) (.cons (.str _) .nil)) .nil))) .nil)),
        (ends_sh2 d h1.mem e h2.mem).1, by decide +kernel, ?_⟩
      have := q _ SH
      rw [relA, if_neg c0', if_pos c'] at this
      exact this
    have c1' : rel ≠ "opposite" := fun z => c1 (by rw [z])
    repeat walk_at "rd"
    refine Rd.dec (fun c => ?_) (fun c2 => ?_)
    · have c' : rel = "nonzero" := V.str.inj c
      repeat walk_at "rd"
      refine h2.ix0 ?_
      repeat walk_at "rd"
      refine Rd.ndec (fun c3 => ?_) (fun c3 => ?_)
      · have c3' : wd e ≠ "count" := fun z => c3 (by rw [z])
        repeat walk_at "rd"
        have := q H (Same.refl _)
        rw [relA, if_neg c0', if_neg c1', if_pos c', if_neg c3'] at this
        exact this
      · have c3' : wd e = "count" := V.str.inj c3
        repeat walk_at "rd"
        refine h2.ix1 c3' ?_
        repeat walk_at "rd"
        refine Rd.dec (fun c4 => ?_) (fun c4 => ?_)
        · have c4' : nm e = 0 := V.int.inj c4
          repeat walk_at "rd"
          refine ⟨Rd.sz (by simp), fun p hp => ?_⟩
          have s := Rd.sNew (o := .tup [.str "no"]) hp
          refine Rd.eqD (dp_mono s h1.dp) (.tup (.inl (.inl upd_same)) (.cons (.str _) .nil)) h1.sh (by decide +kernel) ?_
          have := q _ s
          rw [relA, if_neg c0', if_neg c1', if_pos c', if_pos c3', if_pos c4'] at this
          exact this
        · have c4' : nm e ≠ 0 := fun z => c4 (by rw [z])
          repeat walk_at "rd"
          refine ⟨Rd.sz (by simp), fun p hp => ?_⟩
          have s := Rd.sNew (o := .tup [.str "yes"]) hp
          refine Rd.eqD (dp_mono s h1.dp) (.tup (.inl (.inl upd_same)) (.cons (.str _) .nil)) h1.sh (by decide +kernel) ?_
          have := q _ s
          rw [relA, if_neg c0', if_neg c1', if_pos c', if_pos c3', if_neg c4'] at this
          exact this
    have c2' : rel ≠ "nonzero" := fun z => c2 (by rw [z])
    repeat walk_at "rd"
    refine ⟨Rd.sz (by simp), fun p hp => ?_⟩
    have s := Rd.sNew (o := .tup [.str "count", .int n]) hp
    have q' := q _ s
    rw [relA, if_neg c0', if_neg c1', if_neg c2'] at q'
    refine Rd.eqD (dp_mono s h1.dp) (.tup (.inl (.inl upd_same)) (.cons (.str _) (.cons (.int _) .nil))) h1.sh (sh_cnt n) ?_
    refine ⟨_, rfl, ?_⟩
    refine Rd.bool (fun c3 => ?_) (fun c3 => ?_)
    · rw [show PyData.eqv d (cnt n) = true from c3, Bool.true_and] at q'
      repeat walk_at "rd"
      refine ⟨Rd.sz (by simp), fun p2 hp2 => ?_⟩
      have s2 := s.trans (Rd.sNew (o := .tup [.str "done"]) hp2)
      refine Rd.eqD (dp_mono s2 h2.dp) (.tup (.inl (.inl upd_same)) (.cons (.str _) .nil)) h2.sh (by decide +kernel) ?_
      have := q _ s2
      rw [relA, if_neg c0', if_neg c1', if_neg c2', show PyData.eqv d (cnt n) = true from c3, Bool.true_and] at this
      exact this
    · rw [show PyData.eqv d (cnt n) = false from c3, Bool.false_and] at q'
      exact q'
end
end Ab
namespace Ab
open PySem.Spec PyProof.Rows
/-- an error out of the class at C, that keeps v -/
def Out (C : Addr) (v : V) (H : Hp) (E : XK) : Prop := ∀ d, H d = none → E (.ref C) (some d) (upd H d (.xd [(("value" : Str), v)]))
/-- a def that stands there, and takes its parameters by name too -/
def DefAtK (K : PySem.W.Frag) (mg : Str → Option Value) (x : Str) (st : Stmt) (ps ks : List Str) (g : List Value → List Value) : Prop :=
  ∃ f fd, mg x = some (.ref f) ∧ Fun K x x st f fd ∧ Binds K fd ps [] ∧ (∀ (s : Shared) (ws : List Value), ws.length = ks.length → BindsTo s fd ⟨[], ks.zip ws⟩ (ps.zip (g ws)))
def relKs : List Str := ["items", "second", "first", "relation"]
theorem rel_rev {zs : List V} {ws : List Value} : Vals zs ws → Vals zs.reverse ws.reverse := fun h => by
  have go : ∀ {zs : List V} {ws : List Value} {as : List V} {bs : List Value}, Vals zs ws → Vals as bs → Vals (zs.reverseAux as) (ws.reverseAux bs) := by
    intro zs
    induction zs with
    | nil => intro ws as bs h k; cases h; exact k
    | cons z zs ih => intro ws as bs h k; cases h with
      | @cons _ u _ us a b => exact ih (ws := us) (as := z :: as) (bs := u :: bs) b (.cons a k)
  exact go h .nil
section
variable {P : Program} {w : World} {K : PySem.W.Frag} {mg : Str → Option Value} {base : Heap}
abbrev sCheck_relation : Stmt := top 10
abbrev nCheck_relation : List Str := ["relation"]
theorem scCheck_relation : FnScope nCheck_relation ["relation"] (defScope sCheck_relation) := ⟨rfl, rfl, rfl, by decide +kernel, rfl, by decide +kernel, by decide +kernel⟩
def spCheckR (K : PySem.W.Frag) (C : Addr) : Sp := fun vs H Q E => ∃ (v : V) (tn : String), vs = [v] ∧ Kd K H v tn ∧ (isIn v rels = true → Q .non H) ∧ (isIn v rels = false → Out C v H E)
theorem ok_check_relation (T : Txt K mg) {C p_RELATIONS : Addr} (g_RELATIONS : mg "RELATIONS" = some (.ref p_RELATIONS)) (tR : ∀ H, SqT K H p_RELATIONS (rels.map V.str)) (T_NoRelation : Ex.ErrC K mg "NoRelation" "value" C) (M_NoRelation : Ex.InitOk P w K mg base "value" C)
    (D : DefAt K mg "check_relation" sCheck_relation ["relation"]) (CIs_one_of : CalG P w K mg base 1 "is_one_of" (spOneOf K)) : Ex.CalX P w K mg base 3 "check_relation" (spCheckR K C) := by
  refine Ex.byX D scCheck_relation (fun vs H Q E h => ?_) (fun f cd A hg outer s H vs Q E hr h => ?_)
  · obtain ⟨v, tn, rfl, _⟩ := h
    rfl
  · obtain ⟨v, tn, rfl, k, q1, q2⟩ := h
    refine ⟨_, (pss_one (ps_if (pt_not (pt_val (pe_cG CIs_one_of hg hr (by decide) (pa_cons (pv 0) (pa_cons (pe_glob (v := .ref p_RELATIONS) (by rfl) g_RELATIONS rfl) pa_nil)))))
  (pss_one (ps_raise rfl (takes_of rfl rfl rfl rfl) (Ex.pmkE T_NoRelation M_NoRelation hr (by decide) (pa_cons (pv 0) pa_nil))))
  pss_nil)), ?_⟩
    repeat walk_at "rd"
    refine ⟨v, p_RELATIONS, tn, rels, rfl, k, tR H, ?_⟩
    repeat walk_at "rd"
    refine Rd.bool (fun c => ?_) (fun c => ?_)
    · have c' : isIn v rels = false := by simpa using c
      refine Ex.mk ?_
      repeat walk_at "rd"
      exact Ex.made (q2 c')
    · have c' : isIn v rels = true := by simpa using c
      repeat walk_at "rd"
      exact q1 c'
abbrev sRelated : Stmt := top 11
abbrev nRelated : List Str := ["relation", "first", "second", "items", "end"]
theorem scRelated : FnScope nRelated ["relation", "first", "second", "items"] (defScope sRelated) := ⟨rfl, rfl, rfl, by decide +kernel, rfl, by decide +kernel, by decide +kernel⟩
def spRel (K : PySem.W.Frag) (C : Addr) : Sp := fun vs H Q E => ∃ (v v1 v2 : V) (tn : String) (d e : PyData) (n : Int), vs = [v, v1, v2, .int n] ∧ Kd K H v tn ∧ En K H v1 d ∧ En K H v2 e ∧
  (∀ rel, v = .str rel → rel ∈ rels → ∀ H', Same H H' → Q (.bl (relF rel d e n)) H') ∧ (isIn v rels = false → ∀ H', Same H H' → Out C v H' E)
theorem fn_related (T : Txt K mg) {C p_ANSWERS : Addr} (g_ANSWERS : mg "ANSWERS" = some (.ref p_ANSWERS)) (tA : ∀ H, SqT K H p_ANSWERS (answersW.map V.str))
    (CCheck_relation : Ex.CalX P w K mg base 3 "check_relation" (spCheckR K C)) (CAre_related_answers : CalG P w K mg base 1 "_are_related_answers" (spAns K))
    {f : Addr} {fd : FuncData} (F : Fun K "related" "related" sRelated f fd) : FnG P w K mg base (L2.CX P w) 4 f fd ["relation", "first", "second", "items"] (spRel K C) := by
  refine defG F scRelated (fun vs H Q E h => ?_) (fun cd A hg outer s H vs Q E hr h => ?_)
  · obtain ⟨_, _, _, _, _, _, _, rfl, _⟩ := h
    rfl
  · obtain ⟨v, v1, v2, tn, d, e, n, rfl, kv, h1, h2, q1, q2⟩ := h
    refine ⟨_, (pss_cons (ps_expr (Ex.pe_x CCheck_relation hg hr (by decide) (takes_of rfl rfl rfl rfl) (pa_cons (pv 0) pa_nil)))
  (pss_cons (ps_if (pt_not (pt_val (pe_callB (r := rAny K) (cr_any rfl) (by rfl) T.any (by decide +kernel) (pa_cons (pe_lc (wi := iTup K _) (own := [("end", 4)]) (g := gName 4) (by rfl) scRelated.nd (pi_tup (pe_tup (pa_cons (pv 1) (pa_cons (pv 2) pa_nil)))) (blkOk_by (N := nRelated) (sc := defScope sRelated) (by decide +kernel)) (fun _ _ _ _ _ => pg_name (i := 4) scRelated.nd rfl (Or.inl rfl)) (fun _ _ _ _ _ => pts_nil) (fun _ _ _ _ _ => (pe_cmpR (r := rIn K false) op_in_seq (pe_ix (r := rIxT K) ix_tup (pv 4) pe_int (fun _ _ => rfl)) (pe_glob (v := .ref p_ANSWERS) (by rfl) g_ANSWERS rfl) (by rfl)))) pa_nil))))
  (pss_one (ps_ret pe_bl))
  pss_nil)
  (pss_one (ps_ret (pe_cG CAre_related_answers hg hr (by decide) (pa_cons (pv 0) (pa_cons (pv 1) (pa_cons (pv 2) (pa_cons (pv 3) pa_nil))))))))), ?_⟩
    repeat walk_at "rd"
    refine ⟨v, tn, rfl, kv, fun c' => ?_, fun c' => q2 c' _ (Same.refl _)⟩
    · obtain ⟨rel, rfl⟩ : ∃ z, v = .str z := by cases v <;> first | exact ⟨_, rfl⟩ | cases c'
      have cr : rel ∈ rels := of_decide_eq_true c'
      have q := q1 rel rfl cr
      repeat walk_at "rd"
      refine Rd.lcW ?_
      repeat walk_at "rd"
      refine ⟨Rd.sz (by simp), fun p hp => ?_⟩
      have s := Rd.sNew (o := .tup [v1, v2]) hp
      show tLc (iTup K (tC (.ref p))) _ _ _ _ _ _ _
      refine Rd.lcT (tl := tC (.ref p)) (a := p) (H := upd H p (.tup [v1, v2])) (xs := [v1, v2]) (bs := [d, e]) (fun d v H => En K H v d) (fun (b : Bool) y _ => y = .bl b) (fun _ => true) (fun d => isAns d) (fun R k => k) (.inl (.inl upd_same)) ?_ ?_ ?_ ?_ ?_ ?_ ?_ ?_
      · exact fun b x H H' s h => En.mono h s
      · exact fun b x H H' s h => h
      · exact .cons (h1.mono s) (.cons (h2.mono s) .nil)
      · simp
      · exact fun x => rfl
      · exact fun b x H1 R _ _ _ _ k => Rd.yes (k _ (Same.refl _))
      · intro b x H1 R hb _ _ h s1 k
        repeat walk_at "rd"
        refine h.ix0 ?_
        repeat walk_at "rd"
        refine inT (tA _) rfl (flat_strs _) ?_
        have e : (if (false : Bool) = true then !inV (.str (wd b)) (answersW.map V.str) else inV (.str (wd b)) (answersW.map V.str)) = isAns b := by rw [inV_str]; rfl
        rw [e]
        exact k _ _ (Same.refl _) (Rd.off_any rfl)
      · intro D ys H1 hD s1 hd pr
        have ey : ys = [isAns d, isAns e].map V.bl := Rd.pair_map pr
        have s2 := s.trans s1
        repeat walk_at "rd"
        refine Rd.any_ (bs := [isAns d, isAns e]) (SqL.of (by rw [hd, ey])) ?_
        refine ⟨_, rfl, ?_⟩
        have ea : ([isAns d, isAns e].any id) = (isAns d || isAns e) := by simp
        rw [ea]
        refine Rd.bool (fun c2 => ?_) (fun c2 => ?_)
        · have c3 : ¬ (isAns d || isAns e) = true := by intro z; rw [z] at c2; cases c2
          repeat walk_at "rd"
          have := q _ s2
          rw [relF, if_neg c3] at this
          exact this
        · have c3 : (isAns d || isAns e) = true := by cases z : (isAns d || isAns e) with | true => rfl | false => rw [z] at c2; cases c2
          repeat walk_at "rd"
          refine ⟨rel, v1, v2, d, e, n, rfl, h1.mono s2, h2.mono s2, fun H' s3 => ?_⟩
          have := q _ (s2.trans s3)
          rw [relF, if_pos c3] at this
          exact this
end
end Ab
namespace Ab
open PySem.Spec PyProof.Rows
/-! ### the law's own answer, and its ends -/
def oppL : List PyData := [.list [one1 "yes", one1 "no"], .list [one1 "no", one1 "yes"]]
def relL (rel : Str) (d e : PyData) (n : Int) : Bool :=
  if (!isAns d || !isAns e) = true then !isAns d && !isAns e
  else if rel = "same" then PyData.eqv d e
  else if rel = "opposite" then oppL.any fun z => z.eqv (.list [d, e])
  else if rel = "nonzero" then decide (wd e = "count") && PyData.eqv d (if nm e > 0 then one1 "yes" else one1 "no")
  else decide (wd d = "count") && (PyData.eqv e (one1 "done") && decide (nm d = n))
theorem notKnown {K : PySem.W.Frag} {H : Hp} {p : Addr} {d : PyData} {Q : VK} (h : SqL K H p (answersW.map V.str)) (k : Q (.bl (!isAns d)) H) : rIn K true (.str (wd d)) (.ref p) H Q := by
  refine Rd.inL h rfl (flat_strs _) ?_
  have e : (if (true : Bool) = true then !inV (.str (wd d)) (answersW.map V.str) else inV (.str (wd d)) (answersW.map V.str)) = !isAns d := by rw [if_pos rfl, inV_str]; rfl
  rw [e]
  exact k
def spNew (L : List V) : Sp := fun vs H Q _ => vs = [] ∧ ∀ p H', H p = none → Same H H' → H' p = some (.lst L) → Q (.ref p) H'
section
variable {P : Program} {w : World} {K : PySem.W.Frag} {mg : Str → Option Value} {base : Heap}
abbrev sL_relations : Stmt := top 17
abbrev nL_relations : List Str := []
theorem scL_relations : FnScope nL_relations [] (defScope sL_relations) := ⟨rfl, rfl, rfl, by decide +kernel, rfl, by decide +kernel, by decide +kernel⟩
theorem ok_relations (D : DefAt K mg "_law_relations" sL_relations []) : CalG P w K mg base 1 "_law_relations" (spNew (rels.map V.str)) := by
  refine D.by scL_relations (fun vs H Q E h => ?_) (fun f cd A hg outer s H vs Q E hr h => ?_)
  · rw [h.1]; rfl
  · obtain ⟨rfl, q⟩ := h
    refine ⟨_, (pss_one (ps_ret (pe_lst (pa_cons pe_str (pa_cons pe_str (pa_cons pe_str (pa_cons pe_str pa_nil))))))), ?_⟩
    repeat walk_at "rd"
    refine ⟨Rd.sz (by simp), fun p hp => ?_⟩
    exact q p _ hp (Rd.sNew hp) upd_same
abbrev sL_related : Stmt := top 16
abbrev nL_related : List Str := ["_law_kind", "_law_one_here", "_law_other", "_law_many", "_law_known"]
theorem scL_related : FnScope nL_related ["_law_kind", "_law_one_here", "_law_other", "_law_many"] (defScope sL_related) := ⟨rfl, rfl, rfl, by decide +kernel, rfl, by decide +kernel, by decide +kernel⟩
def spLR (K : PySem.W.Frag) : Sp := fun vs H Q _ => ∃ (rel : Str) (v1 v2 : V) (d e : PyData) (n : Int), vs = [.str rel, v1, v2, .int n] ∧ En K H v1 d ∧ En K H v2 e ∧ ∀ H', Same H H' → Q (.bl (relL rel d e n)) H'
theorem ok_lrel (T : Txt K mg) (D : DefAt K mg "_law_related" sL_related ["_law_kind", "_law_one_here", "_law_other", "_law_many"]) : CalG P w K mg base 1 "_law_related" (spLR K) := by
  refine D.by scL_related (fun vs H Q E h => ?_) (fun f cd A hg outer s H vs Q E hr h => ?_)
  · obtain ⟨_, _, _, _, _, _, rfl, _⟩ := h
    rfl
  · obtain ⟨rel, v1, v2, d, e, n, rfl, h1, h2, q⟩ := h
    refine ⟨_, (pss_cons (ps_set (i := 4) scL_related.nd rfl (Or.inl rfl) (pe_lst (pa_cons pe_str (pa_cons pe_str (pa_cons pe_str (pa_cons pe_str (pa_cons pe_str pa_nil)))))))
  (pss_cons (ps_if (PW.pt (pw_or (pt_cmpR (r := rIn K true) op_notIn_seq (pe_ix (r := rIxT K) ix_tup (pv 1) pe_int (fun _ _ => rfl)) (pv 4) (by rfl)) (pw_or1 (pt_cmpR (r := rIn K true) op_notIn_seq (pe_ix (r := rIxT K) ix_tup (pv 2) pe_int (fun _ _ => rfl)) (pv 4) (by rfl)))))
  (pss_one (ps_ret (pe_and (pe_cmpR (r := rIn K true) op_notIn_seq (pe_ix (r := rIxT K) ix_tup (pv 1) pe_int (fun _ _ => rfl)) (pv 4) (by rfl)) (pe_one (pe_cmpR (r := rIn K true) op_notIn_seq (pe_ix (r := rIxT K) ix_tup (pv 2) pe_int (fun _ _ => rfl)) (pv 4) (by rfl))))))
  pss_nil)
  (pss_cons (ps_if (pt_cmpR op_eq (pv 0) pe_str (nomark _))
  (pss_one (ps_ret (pe_cmpR (r := rEqD K) (op_eqD hr.units) (pv 1) (pv 2) (nomark _))))
  pss_nil)
  (pss_cons (ps_if (pt_cmpR op_eq (pv 0) pe_str (nomark _))
  (pss_one (ps_ret (pe_cmpR (r := rInD K) (op_inD (in_ hr)) (pe_lst (pa_cons (pv 1) (pa_cons (pv 2) pa_nil))) (pe_lst (pa_cons (pe_lst (pa_cons (pe_tup (pa_cons pe_str pa_nil)) (pa_cons (pe_tup (pa_cons pe_str pa_nil)) pa_nil))) (pa_cons (pe_lst (pa_cons (pe_tup (pa_cons pe_str pa_nil)) (pa_cons (pe_tup (pa_cons pe_str pa_nil)) pa_nil))) pa_nil))) (by rfl))))
  pss_nil)
  (pss_cons (ps_if (pt_cmpR op_eq (pv 0) pe_str (nomark _))
  (pss_one (ps_ret (pe_and (pe_cmpR op_eq (pe_ix (r := rIxT K) ix_tup (pv 2) pe_int (fun _ _ => rfl)) pe_str (nomark _)) (pe_one (pe_cmpR (r := rEqD K) (op_eqD hr.units) (pv 1) (pe_ifExp (pt_cmpR op_gt (pe_ix (r := rIxT K) ix_tup (pv 2) pe_int (fun _ _ => rfl)) pe_int (nomark _)) (pe_tup (pa_cons pe_str pa_nil)) (pe_tup (pa_cons pe_str pa_nil))) (nomark _))))))
  pss_nil)
  (pss_one (ps_ret (pe_and (pe_cmpR op_eq (pe_ix (r := rIxT K) ix_tup (pv 1) pe_int (fun _ _ => rfl)) pe_str (nomark _)) (pe_and (pe_cmpR (r := rEqD K) (op_eqD hr.units) (pv 2) (pe_tup (pa_cons pe_str pa_nil)) (nomark _)) (pe_one (pe_cmpR op_eq (pe_ix (r := rIxT K) ix_tup (pv 1) pe_int (fun _ _ => rfl)) (pv 3) (nomark _)))))))))))), ?_⟩
    repeat walk_at "rd"
    refine ⟨Rd.sz (by simp), fun p hp => ?_⟩
    have s := Rd.sNew (o := .lst [.str "yes", .str "no", .str "count", .str "done", .str "got"]) hp
    have h1 := h1.mono s
    have h2 := h2.mono s
    replace q := fun H' s' => q H' (s.trans s')
    have hk : SqL K (upd H p (.lst [.str "yes", .str "no", .str "count", .str "done", .str "got"])) p (answersW.map V.str) := SqL.of upd_same
    generalize upd H p (.lst [.str "yes", .str "no", .str "count", .str "done", .str "got"]) = H1 at *
    repeat walk_at "rd"
    refine h1.ix0 ?_
    repeat walk_at "rd"
    refine notKnown hk ?_
    refine ⟨_, rfl, ?_⟩
    refine Rd.bool (fun c1 => ?_) (fun c1 => ?_)
    · rw [if_pos rfl]
      repeat walk_at "rd"
      refine h1.ix0 ?_
      repeat walk_at "rd"
      refine notKnown hk ?_
      refine ⟨_, rfl, ?_⟩
      rw [c1, if_pos rfl]
      repeat walk_at "rd"
      refine h2.ix0 ?_
      repeat walk_at "rd"
      refine notKnown hk ?_
      have := q _ (Same.refl _)
      rw [relL, c1, Bool.true_or, if_pos rfl, Bool.true_and] at this
      exact this
    repeat walk_at "rd"
    refine h2.ix0 ?_
    repeat walk_at "rd"
    refine notKnown hk ?_
    refine ⟨_, rfl, ?_⟩
    refine Rd.bool (fun c2 => ?_) (fun c2 => ?_)
    · repeat walk_at "rd"
      refine h1.ix0 ?_
      repeat walk_at "rd"
      refine notKnown hk ?_
      refine ⟨_, rfl, ?_⟩
      rw [c1, if_neg Bool.false_ne_true]
      have := q _ (Same.refl _)
      rw [relL, c1, c2, Bool.false_or, if_pos rfl, Bool.false_and] at this
      exact this
    have c3 : ¬ (!isAns d || !isAns e) = true := by rw [c1, c2]; exact Bool.false_ne_true
    replace q : ∀ H', Same H1 H' → Q (.bl (if rel = "same" then PyData.eqv d e else if rel = "opposite" then oppL.any fun z => z.eqv (.list [d, e]) else if rel = "nonzero" then decide (wd e = "count") && PyData.eqv d (if nm e > 0 then one1 "yes" else one1 "no") else decide (wd d = "count") && (PyData.eqv e (one1 "done") && decide (nm d = n)))) H' := fun H' s' => by
      have := q H' s'
      rw [relL, if_neg c3] at this
      exact this
    repeat walk_at "rd"
    refine Rd.dec (fun c => ?_) (fun c0 => ?_)
    · have c' : rel = "same" := V.str.inj c
      repeat walk_at "rd"
      refine Rd.eqD h1.dp h2.dp h1.sh h2.sh ?_
      have := q H1 (Same.refl _)
      rw [if_pos c'] at this
      exact this
    have c0' : rel ≠ "same" := fun z => c0 (by rw [z])
    repeat walk_at "rd"
    refine Rd.dec (fun c => ?_) (fun c1 => ?_)
    · have c' : rel = "opposite" := V.str.inj c
      repeat walk_at "rd"
      refine ⟨Rd.sz (by simp), fun p0 g0 => ?_⟩
      repeat walk_at "rd"
      refine ⟨Rd.sz (by simp), fun p1 g1 => ?_⟩
      repeat walk_at "rd"
      refine ⟨Rd.sz (by simp), fun p2 g2 => ?_⟩
      repeat walk_at "rd"
      refine ⟨Rd.sz (by simp), fun p3 g3 => ?_⟩
      repeat walk_at "rd"
      refine ⟨Rd.sz (by simp), fun p4 g4 => ?_⟩
      repeat walk_at "rd"
      refine ⟨Rd.sz (by simp), fun p5 g5 => ?_⟩
      repeat walk_at "rd"
      refine ⟨Rd.sz (by simp), fun p6 g6 => ?_⟩
      repeat walk_at "rd"
      refine ⟨Rd.sz (by simp), fun p7 g7 => ?_⟩
      repeat walk_at "rd"
      have S6 := Rd.sNew (o := .lst [.ref p3, .ref p6]) g7
      have S5 := (Rd.sNew (o := .lst [.ref p4, .ref p5]) g6).trans S6
      have S4 := (Rd.sNew (o := .tup [.str "yes"]) g5).trans S5
      have S3 := (Rd.sNew (o := .tup [.str "no"]) g4).trans S4
      have S2 := (Rd.sNew (o := .lst [.ref p1, .ref p2]) g3).trans S3
      have S1 := (Rd.sNew (o := .tup [.str "no"]) g2).trans S2
      have S0 := (Rd.sNew (o := .tup [.str "yes"]) g1).trans S1
      have SH := (Rd.sNew (o := .lst [v1, v2]) g0).trans S0
      refine ⟨.list [d, e], oppL, .lst (SqL.of (S0 _ _ upd_same)) (.cons (dp_mono SH h1.dp) (.cons (dp_mono SH h2.dp) .nil)),
        .lst (SqL.of upd_same) (.cons (.lst (SqL.of (S3 _ _ upd_same)) (.cons (.tup (.inl (.inl (S1 _ _ upd_same))) (.cons (.str _) .nil)) (.cons (.tup (.inl (.inl (S2 _ _ upd_same))) (.cons (.str _) .nil)) .nil)))
          (.cons (.lst (SqL.of (S6 _ _ upd_same)) (.cons (.tup (.inl (.inl (S4 _ _ upd_same))) (.cons (.str _) .nil)) (.cons (.tup (.inl (.inl (S5 _ _ upd_same))) (.cons (.str _) .nil)) .nil))) .nil)),
        (ends_sh2 d h1.mem e h2.mem).2, by decide +kernel, ?_⟩
      have := q _ SH
      rw [if_neg c0', if_pos c'] at this
      exact this
    have c1' : rel ≠ "opposite" := fun z => c1 (by rw [z])
    repeat walk_at "rd"
    refine Rd.dec (fun c => ?_) (fun c2 => ?_)
    · have c' : rel = "nonzero" := V.str.inj c
      repeat walk_at "rd"
      refine h2.ix0 ?_
      repeat walk_at "rd"
      refine Rd.dec (fun c3 => ?_) (fun c3 => ?_)
      · have c3' : wd e = "count" := V.str.inj c3
        repeat walk_at "rd"
        refine h2.ix1 c3' ?_
        repeat walk_at "rd"
        refine Rd.dec (fun c4 => ?_) (fun c4 => ?_)
        · have c4' : nm e > 0 := c4
          repeat walk_at "rd"
          refine ⟨Rd.sz (by simp), fun p hp => ?_⟩
          have s := Rd.sNew (o := .tup [.str "yes"]) hp
          refine Rd.eqD (dp_mono s h1.dp) (.tup (.inl (.inl upd_same)) (.cons (.str _) .nil)) h1.sh (by decide +kernel) ?_
          have := q _ s
          rw [if_neg c0', if_neg c1', if_pos c', decide_eq_true c3', if_pos c4', Bool.true_and] at this
          exact this
        · have c4' : ¬ nm e > 0 := c4
          repeat walk_at "rd"
          refine ⟨Rd.sz (by simp), fun p hp => ?_⟩
          have s := Rd.sNew (o := .tup [.str "no"]) hp
          refine Rd.eqD (dp_mono s h1.dp) (.tup (.inl (.inl upd_same)) (.cons (.str _) .nil)) h1.sh (by decide +kernel) ?_
          have := q _ s
          rw [if_neg c0', if_neg c1', if_pos c', decide_eq_true c3', if_neg c4', Bool.true_and] at this
          exact this
      · have c3' : wd e ≠ "count" := fun z => c3 (by rw [z])
        have := q H1 (Same.refl _)
        rw [if_neg c0', if_neg c1', if_pos c', decide_eq_false c3', Bool.false_and] at this
        exact this
    have c2' : rel ≠ "nonzero" := fun z => c2 (by rw [z])
    repeat walk_at "rd"
    refine h1.ix0 ?_
    repeat walk_at "rd"
    refine Rd.dec (fun c3 => ?_) (fun c3 => ?_)
    · have c3' : wd d = "count" := V.str.inj c3
      repeat walk_at "rd"
      refine ⟨Rd.sz (by simp), fun p hp => ?_⟩
      have s := Rd.sNew (o := .tup [.str "done"]) hp
      refine Rd.eqD (dp_mono s h2.dp) (.tup (.inl (.inl upd_same)) (.cons (.str _) .nil)) h2.sh (by decide +kernel) ?_
      refine ⟨_, rfl, ?_⟩
      have := q _ s
      rw [if_neg c0', if_neg c1', if_neg c2', decide_eq_true c3', Bool.true_and] at this
      refine Rd.bool (fun c4 => ?_) (fun c4 => ?_)
      · rw [show PyData.eqv e (one1 "done") = true from c4, Bool.true_and] at this
        repeat walk_at "rd"
        refine (h1.mono s).ix1 c3' ?_
        repeat walk_at "rd"
        rw [show decide (V.int (nm d) = V.int n) = decide (nm d = n) by simp]
        exact this
      · rw [show PyData.eqv e (one1 "done") = false from c4, Bool.false_and] at this
        exact this
    · have c3' : wd d ≠ "count" := fun z => c3 (by rw [z])
      have := q H1 (Same.refl _)
      rw [if_neg c0', if_neg c1', if_neg c2', decide_eq_false c3', Bool.false_and] at this
      exact this
end
end Ab
namespace Ab
open PySem.Spec PyProof.Rows
theorem nf {H : Hp} {p b : Addr} (hp : H p = none) (hb : H b ≠ none) : b ≠ p := fun e => hb (by rw [e]; exact hp)
/-- all but what stands at p stays -/
def Keep (p : Addr) (H H' : Hp) : Prop := ∀ b o, b ≠ p → H b = some o → H' b = some o
theorem Keep.same {p : Addr} {H H1 : Hp} (s : Same H H1) : Keep p H H1 := fun b u _ e => s b u e
theorem Keep.put {p : Addr} {H H1 : Hp} {o : HO} (a : Keep p H H1) : Keep p H (upd H1 p o) := fun b u n e => by rw [upd_ne n]; exact a b u n e
theorem Keep.trans {p : Addr} {H H1 H2 : Hp} (a : Keep p H H1) (b : Keep p H1 H2) : Keep p H H2 := fun q u n e => b q u n (a q u n e)
mutual
def noL : PyData → Bool
  | .tuple l => noLs l
  | .list _ => false
  | _ => true
def noLs : List PyData → Bool
  | [] => true
  | a :: l => noL a && noLs l
end
theorem sqT_keep {K : PySem.W.Frag} {p a : Addr} {H H' : Hp} {xs l : List V} (k : Keep p H H') (hp : H p = some (.lst l)) (h : SqT K H a xs) : SqT K H' a xs := by
  rcases h with (h | ⟨o, h⟩) | h
  · exact .inl (.inl (k _ _ (by intro z; rw [z, hp] at h; cases h) h))
  · exact .inl (.inr ⟨o, k _ _ (by intro z; rw [z, hp] at h; cases h) h⟩)
  · exact .inr h
mutual
theorem dp_keep {K : PySem.W.Frag} {p : Addr} {H H' : Hp} {l : List V} (k : Keep p H H') (hp : H p = some (.lst l)) : ∀ {v : V} {d : PyData}, Dp K H v d → noL d = true → Dp K H' v d
  | _, _, .non, _ => .non
  | _, _, .bl b, _ => .bl b
  | _, _, .int i, _ => .int i
  | _, _, .str x, _ => .str x
  | _, _, .lst h a, n => by simp [noL] at n
  | _, _, .tup h a, n => .tup (sqT_keep k hp h) (dpa_keep k hp a (by simpa [noL] using n))
theorem dpa_keep {K : PySem.W.Frag} {p : Addr} {H H' : Hp} {l : List V} (k : Keep p H H') (hp : H p = some (.lst l)) : ∀ {vs : List V} {ds : List PyData}, DpAll K H vs ds → noLs ds = true → DpAll K H' vs ds
  | _, _, .nil, _ => .nil
  | _, _, .cons h t, n => .cons (dp_keep k hp h (by simp [noLs] at n; exact n.1)) (dpa_keep k hp t (by simp [noLs] at n; exact n.2))
end
theorem ends_noL : ∀ d ∈ ends, noL d = true := by decide +kernel
theorem En.keep {K : PySem.W.Frag} {p : Addr} {H H' : Hp} {l : List V} {v : V} {d : PyData} (h : En K H v d) (k : Keep p H H') (hp : H p = some (.lst l)) : En K H' v d := ⟨h.mem, dp_keep k hp h.dp (ends_noL d h.mem)⟩
section
variable {P : Program} {w : World} {K : PySem.W.Frag} {mg : Str → Option Value} {base : Heap}
abbrev sL_end : Stmt := top 18
abbrev nL_end : List Str := ["_law_pool_here", "_law_way"]
theorem scL_end : FnScope nL_end ["_law_pool_here"] (defScope sL_end) := ⟨rfl, rfl, rfl, by decide +kernel, rfl, by decide +kernel, by decide +kernel⟩
def spEnd (K : PySem.W.Frag) : Sp := fun vs H Q _ => ∃ (p : Addr) (x y : Int), vs = [.ref p] ∧ H p = some (.lst [.int x, .int y]) ∧ PoolOk x y ∧
  ∀ v d H' x' y', En K H' v d → PoolOk x' y' → H' p = some (.lst [.int x', .int y']) → Keep p H H' → Q v H'
theorem ok_end (T : Txt K mg) (D : DefAt K mg "_law_end" sL_end ["_law_pool_here"]) (CL_take : CalG P w K mg base 1 "_law_take" spTake) : CalG P w K mg base 2 "_law_end" (spEnd K) := by
  refine D.by scL_end (fun vs H Q E h => ?_) (fun f cd A hg outer s H vs Q E hr h => ?_)
  · obtain ⟨p, x, y, rfl, _⟩ := h
    rfl
  · obtain ⟨p, x, y, rfl, hp, ok, q⟩ := h
    refine ⟨_, (pss_cons (ps_set (i := 1) scL_end.nd rfl (Or.inl rfl) (pe_cG CL_take hg hr (by decide) (pa_cons (pv 0) (pa_cons pe_int pa_nil))))
  (pss_cons (ps_if (pt_cmpR op_lt (pv 1) pe_int (nomark _))
  (pss_one (ps_ret (pe_ix (r := rIxL K) ix_list (pe_lst (pa_cons (pe_tup (pa_cons pe_str pa_nil)) (pa_cons (pe_tup (pa_cons pe_str pa_nil)) (pa_cons (pe_tup (pa_cons pe_str pa_nil)) (pa_cons (pe_tup (pa_cons pe_str pa_nil)) pa_nil))))) (pv 1) (fun _ _ => rfl))))
  pss_nil)
  (pss_cons (ps_if (pt_cmpR op_lt (pv 1) pe_int (nomark _))
  (pss_one (ps_ret (pe_tup (pa_cons pe_str (pa_cons (pe_cG CL_take hg hr (by decide) (pa_cons (pv 0) (pa_cons pe_int pa_nil))) pa_nil)))))
  pss_nil)
  (pss_cons (ps_if (pt_cmpR op_eq (pv 1) pe_int (nomark _))
  (pss_one (ps_ret (pe_tup (pa_cons pe_str (pa_cons (pe_tup (pa_cons (pe_tup (pa_cons pe_str (pa_cons pe_str (pa_cons pe_int (pa_cons pe_non pa_nil))))) pa_nil)) pa_nil)))))
  pss_nil)
  (pss_one (ps_ret (pe_ix (r := rIxL K) ix_list (pe_lst (pa_cons (pe_tup (pa_cons pe_str (pa_cons pe_str pa_nil))) (pa_cons (pe_tup (pa_cons pe_str (pa_cons pe_str pa_nil))) (pa_cons (pe_tup (pa_cons pe_str (pa_cons pe_str pa_nil))) (pa_cons (pe_tup (pa_cons pe_str (pa_cons pe_str pa_nil))) pa_nil))))) (pe_op op_sub (pv 1) pe_int) (fun _ _ => rfl)))))))), ?_⟩
    repeat walk_at "rd"
    refine ⟨p, x, y, _, rfl, hp, ok, by decide, by decide, fun r x1 y1 ok1 r0 r1 => ?_⟩
    replace q := fun v d H' x' y' (a : En K H' v d) (b : PoolOk x' y') (c : H' p = some (.lst [.int x', .int y'])) (k : Keep p (upd H p (.lst [.int x1, .int y1])) H') => q v d H' x' y' a b c ((Keep.same (Same.refl H)).put.trans k)
    have hp1 : upd H p (.lst [.int x1, .int y1]) p = some (.lst [.int x1, .int y1]) := upd_same
    generalize upd H p (.lst [.int x1, .int y1]) = H1 at *
    repeat walk_at "rd"
    refine Rd.dec (fun c => ?_) (fun c => ?_)
    · repeat walk_at "rd"
      refine ⟨Rd.sz (by simp), fun p1 g1 => ?_⟩
      repeat walk_at "rd"
      refine ⟨Rd.sz (by simp), fun p2 g2 => ?_⟩
      repeat walk_at "rd"
      refine ⟨Rd.sz (by simp), fun p3 g3 => ?_⟩
      repeat walk_at "rd"
      refine ⟨Rd.sz (by simp), fun p4 g4 => ?_⟩
      repeat walk_at "rd"
      refine ⟨Rd.sz (by simp), fun p5 g5 => ?_⟩
      repeat walk_at "rd"
      have S4 := Rd.sNew (o := .lst [.ref p1, .ref p2, .ref p3, .ref p4]) g5
      have S3 := (Rd.sNew (o := .tup [.str "got"]) g4).trans S4
      have S2 := (Rd.sNew (o := .tup [.str "done"]) g3).trans S3
      have S1 := (Rd.sNew (o := .tup [.str "no"]) g2).trans S2
      have S0 := (Rd.sNew (o := .tup [.str "yes"]) g1).trans S1
      have rr : r = 0 ∨ r = 1 ∨ r = 2 ∨ r = 3 := by omega
      rcases rr with rfl | rfl | rfl | rfl
      · exact Rd.ixL (SqL.of upd_same) rfl (q _ (one1 "yes") _ _ _ ⟨by simp [ends], .tup (.inl (.inl (S1 _ _ upd_same))) (.cons (.str _) .nil)⟩ ok1 (S0 _ _ hp1) (Keep.same S0))
      · exact Rd.ixL (SqL.of upd_same) rfl (q _ (one1 "no") _ _ _ ⟨by simp [ends], .tup (.inl (.inl (S2 _ _ upd_same))) (.cons (.str _) .nil)⟩ ok1 (S0 _ _ hp1) (Keep.same S0))
      · exact Rd.ixL (SqL.of upd_same) rfl (q _ (one1 "done") _ _ _ ⟨by simp [ends], .tup (.inl (.inl (S3 _ _ upd_same))) (.cons (.str _) .nil)⟩ ok1 (S0 _ _ hp1) (Keep.same S0))
      · exact Rd.ixL (SqL.of upd_same) rfl (q _ (one1 "got") _ _ _ ⟨by simp [ends], .tup (.inl (.inl (S4 _ _ upd_same))) (.cons (.str _) .nil)⟩ ok1 (S0 _ _ hp1) (Keep.same S0))
    have r4 : 4 ≤ r := by omega
    repeat walk_at "rd"
    refine Rd.dec (fun c2 => ?_) (fun c2 => ?_)
    · repeat walk_at "rd"
      refine ⟨p, x1, y1, _, rfl, hp1, ok1, by decide, by decide, fun n x2 y2 ok2 n0 n1 => ?_⟩
      repeat walk_at "rd"
      refine ⟨Rd.sz (by simp), fun p1 g1 => ?_⟩
      have S0 := Rd.sNew (o := .tup [.str "count", .int n]) g1
      have en : cnt n ∈ ends := by
        have rr : n = 0 ∨ n = 1 ∨ n = 2 ∨ n = 3 ∨ n = 4 := by omega
        rcases rr with rfl | rfl | rfl | rfl | rfl <;> simp [ends]
      exact q _ (cnt n) _ _ _ ⟨en, .tup (.inl (.inl upd_same)) (.cons (.str _) (.cons (.int _) .nil))⟩ ok2 (S0 _ _ upd_same) ((Keep.same (Same.refl H1)).put.trans (Keep.same S0))
    have r7 : 7 ≤ r := by omega
    repeat walk_at "rd"
    refine Rd.dec (fun c3 => ?_) (fun c3 => ?_)
    · repeat walk_at "rd"
      refine ⟨Rd.sz (by simp), fun p1 g1 => ?_⟩
      repeat walk_at "rd"
      refine ⟨Rd.sz (by simp), fun p2 g2 => ?_⟩
      repeat walk_at "rd"
      refine ⟨Rd.sz (by simp), fun p3 g3 => ?_⟩
      repeat walk_at "rd"
      have S2 := Rd.sNew (o := .tup [.str "loop", .ref p2]) g3
      have S1 := (Rd.sNew (o := .tup [.ref p1]) g2).trans S2
      have S0 := (Rd.sNew (o := .tup [.str "a", .str "truth", .int 0, .non]) g1).trans S1
      exact q _ (.tuple [.str "loop", .tuple [.tuple [.str "a", .str "truth", .int 0, .none]]]) _ _ _ ⟨by simp [ends], .tup (.inl (.inl upd_same)) (.cons (.str _) (.cons (.tup (.inl (.inl (S2 _ _ upd_same))) (.cons (.tup (.inl (.inl (S1 _ _ upd_same))) (.cons (.str _) (.cons (.str _) (.cons (.int _) (.cons .non .nil))))) .nil)) .nil))⟩ ok1 (S0 _ _ hp1) (Keep.same S0)
    have r8 : 8 ≤ r := by
      have : r ≠ 7 := fun z => c3 (by rw [z])
      omega
    repeat walk_at "rd"
    refine ⟨Rd.sz (by simp), fun p1 g1 => ?_⟩
    repeat walk_at "rd"
    refine ⟨Rd.sz (by simp), fun p2 g2 => ?_⟩
    repeat walk_at "rd"
    refine ⟨Rd.sz (by simp), fun p3 g3 => ?_⟩
    repeat walk_at "rd"
    refine ⟨Rd.sz (by simp), fun p4 g4 => ?_⟩
    repeat walk_at "rd"
    refine ⟨Rd.sz (by simp), fun p5 g5 => ?_⟩
    repeat walk_at "rd"
    have S4 := Rd.sNew (o := .lst [.ref p1, .ref p2, .ref p3, .ref p4]) g5
    have S3 := (Rd.sNew (o := .tup [.str "raised", .str "step"]) g4).trans S4
    have S2 := (Rd.sNew (o := .tup [.str "wrong", .str "has"]) g3).trans S3
    have S1 := (Rd.sNew (o := .tup [.str "barred", .str "ab"]) g2).trans S2
    have S0 := (Rd.sNew (o := .tup [.str "refused", .str "size"]) g1).trans S1
    have rr : r = 8 ∨ r = 9 ∨ r = 10 ∨ r = 11 := by omega
    rcases rr with rfl | rfl | rfl | rfl
    · exact Rd.ixL (SqL.of upd_same) rfl (q _ (.tuple [.str "refused", .str "size"]) _ _ _ ⟨by simp [ends], .tup (.inl (.inl (S1 _ _ upd_same))) (.cons (.str _) (.cons (.str _) .nil))⟩ ok1 (S0 _ _ hp1) (Keep.same S0))
    · exact Rd.ixL (SqL.of upd_same) rfl (q _ (.tuple [.str "barred", .str "ab"]) _ _ _ ⟨by simp [ends], .tup (.inl (.inl (S2 _ _ upd_same))) (.cons (.str _) (.cons (.str _) .nil))⟩ ok1 (S0 _ _ hp1) (Keep.same S0))
    · exact Rd.ixL (SqL.of upd_same) rfl (q _ (.tuple [.str "wrong", .str "has"]) _ _ _ ⟨by simp [ends], .tup (.inl (.inl (S3 _ _ upd_same))) (.cons (.str _) (.cons (.str _) .nil))⟩ ok1 (S0 _ _ hp1) (Keep.same S0))
    · exact Rd.ixL (SqL.of upd_same) rfl (q _ (.tuple [.str "raised", .str "step"]) _ _ _ ⟨by simp [ends], .tup (.inl (.inl (S4 _ _ upd_same))) (.cons (.str _) (.cons (.str _) .nil))⟩ ok1 (S0 _ _ hp1) (Keep.same S0))
end
end Ab
namespace Ab
open PySem.Spec PyProof.Rows
theorem tyX_mono {K : PySem.W.Frag} {H H' : Hp} {v : V} {t : Value} (s : Same H H') (h : TyX K H v t) : TyX K H' v t := by
  cases h with
  | base b =>
    refine .base ?_
    cases b with
    | non => exact .non
    | bl x => exact .bl x
    | int x => exact .int x
    | str x => exact .str x
    | flt x => exact .flt x
    | lst e => exact .lst (s _ _ e)
    | frz e => exact .frz (s _ _ e)
    | tup e => exact .tup (s _ _ e)
    | dK e => exact .dK (s _ _ e)
    | dT e => exact .dT (s _ _ e)
    | ins e a b c d f => exact .ins (s _ _ e) a b c d f
  | byt b => exact .byt b
  | set e => exact .set (s _ _ e)
  | kList e c => exact .kList e c
  | kTuple e c => exact .kTuple e c
  | kDict e c => exact .kDict e c
  | fTuple e => exact .fTuple (s _ _ e)
  | fDict e => exact .fDict (s _ _ e)
theorem Kd.mono {K : PySem.W.Frag} {H H' : Hp} {v : V} {tn : String} (s : Same H H') (k : Kd K H v tn) : Kd K H' v tn := ⟨tyX_mono s k.ty, k.s, k.i, k.b⟩
theorem kd_str {K : PySem.W.Frag} {H : Hp} (z : Str) : Kd K H (.str z) "str" := ⟨.base (.str z), (by show kitB "str" "str" = some true; decide +kernel), (by show kitB "str" "int" = some false; decide +kernel), (by show kitB "str" "bool" = some false; decide +kernel)⟩
section
variable {K : PySem.W.Frag} {H : Hp}
theorem kd_int (i : Int) : Kd K H (.int i) "int" := ⟨.base (.int i), rfl, rfl, rfl⟩
theorem kd_bl (b : Bool) : Kd K H (.bl b) "bool" := ⟨.base (.bl b), rfl, rfl, rfl⟩
theorem kd_non : Kd K H .non "NoneType" := ⟨.base .non, rfl, rfl, rfl⟩
theorem kd_lst {p : Addr} {xs : List V} (h : H p = some (.lst xs)) : Kd K H (.ref p) "list" := ⟨.base (.lst h), rfl, rfl, rfl⟩
theorem kd_tup {p : Addr} {xs : List V} (h : H p = some (.tup xs)) : Kd K H (.ref p) "tuple" := ⟨.base (.tup h), rfl, rfl, rfl⟩
end
theorem forD {K : PySem.W.Frag} {tl : TE} {g : TG} {tb : TS} {D : Ends} {σ : L2.St} {H : Hp} (k : tl σ H fun x H1 => tFor (iList K (tC x)) g tb D σ H1) : tFor (iList K tl) g tb D σ H := k
theorem callS0 {sp : Sp} {E : XK} {σ : L2.St} {H : Hp} {Q : VK} (k : sp [] H Q E) : tCall sp [] E tNil σ H Q := k
theorem callS {sp : Sp} {E : L2.St → XK} {t : TA} {σ : L2.St} {H : Hp} {Q : VK} (k : t σ H fun vs H1 => sp vs H1 Q (E σ)) : tCallS sp E t σ H Q := k
theorem xf {a C : Addr} {cls : Value} {d : Option Addr} {f : Str} {te : TE} {σ : L2.St} {H : Hp} {Q : VK} (k : te σ H fun x H1 => x = .ref a ∧ cls = .ref C ∧ ∃ (dd : Addr) (fs : List (Str × V)) (v : V), d = some dd ∧ H1 dd = some (.xd fs) ∧ fs.lookup f = some v ∧ Q v H1) : tXf a cls d C f te σ H Q := k
theorem all_rel : ∀ rel ∈ rels, ∀ d ∈ ends, ∀ e ∈ ends, ∀ n ∈ ([0, 1, 2, 3, 4, 5, 6] : List Int), relF rel d e n = relL rel d e n := by decide +kernel
section
variable {P : Program} {w : World} {K : PySem.W.Frag} {mg : Str → Option Value} {base : Heap}
abbrev sL_refused : Stmt := top 19
abbrev nL_refused : List Str := ["_law_value", "_law_one_here", "_law_other", "e"]
theorem scL_refused : FnScope nL_refused ["_law_value", "_law_one_here", "_law_other"] (defScope sL_refused) := ⟨rfl, rfl, rfl, by decide +kernel, rfl, by decide +kernel, by decide +kernel⟩
def spRef (K : PySem.W.Frag) : Sp := fun vs H Q _ => ∃ (v v1 v2 : V) (tn : String) (d e u : PyData), vs = [v, v1, v2] ∧ Kd K H v tn ∧ isIn v rels = false ∧ En K H v1 d ∧ En K H v2 e ∧ Dp K H v u ∧ SeqAt.shaped u = true ∧ PyData.eqv u u = true ∧ ∀ H', Same H H' → Q (.bl true) H'
theorem ok_refused (T : Txt K mg) {C_NoRelation C_AnswerError C_NoAgreement : Addr} (T_NoRelation : Ex.ErrC K mg "NoRelation" "value" C_NoRelation) (G_AnswerError : mg "AnswerError" = some (.ref C_AnswerError)) (G_NoAgreement : mg "NoAgreement" = some (.ref C_NoAgreement))
    (k1 : PySem.W.kitOne K (.ref C_NoRelation) (.ref C_AnswerError) = some true) (k2 : PySem.W.kitOne K (.ref C_NoRelation) (.ref C_NoAgreement) = some false)
    (D : DefAt K mg "_law_refused" sL_refused ["_law_value", "_law_one_here", "_law_other"]) (CRelated : Ex.CalX P w K mg base 4 "related" (spRel K C_NoRelation)) : CalG P w K mg base 5 "_law_refused" (spRef K) := by
  refine D.by scL_refused (fun vs H Q E h => ?_) (fun f cd A hg outer s H vs Q E hr h => ?_)
  · obtain ⟨_, _, _, _, _, _, _, rfl, _⟩ := h
    rfl
  · obtain ⟨v, v1, v2, tn, d, e, u, rfl, kv, ni, h1, h2, du, su, eu, q⟩ := h
    refine ⟨_, (pss_one (ps_try_as (i := 3) (Wout := fun _ _ _ _ => False) rfl rfl scL_refused.nd rfl rfl ⟨rfl, by decide, Or.inl T_NoRelation.g⟩ takes0
  (fun W pn xe tk _ => (pss_cons (ps_expr (Ex.pe_xS CRelated hg hr (by decide) tk (pa_cons (pv 0) (pa_cons (pv 1) (pa_cons (pv 2) (pa_cons pe_int pa_nil))))))
  (pss_one (ps_ret pe_bl))))
  (fun a oe cls d pn hz hf => (pss_one (ps_ret (pe_and (pe_cmpR (r := rEqD K) (op_eqD hr.units) (pe_xf T_NoRelation.xf T_NoRelation.no hz hf (pv 3)) (pv 0) (nomark _)) (pe_and (pe_callB (r := Ex.rIsD K C_NoRelation a cls d) (Ex.call_isD T_NoRelation.ic hz hf) (by rfl) T.isinstance (by decide +kernel) (pa_cons (pv 3) (pa_cons (pe_glob (v := .ref C_AnswerError) (by rfl) G_AnswerError rfl) pa_nil))) (pe_one (pe_not (pe_callB (r := Ex.rIsD K C_NoRelation a cls d) (Ex.call_isD T_NoRelation.ic hz hf) (by rfl) T.isinstance (by decide +kernel) (pa_cons (pv 3) (pa_cons (pe_glob (v := .ref C_NoAgreement) (by rfl) G_NoAgreement rfl) pa_nil)))))))))))), ?_⟩
    repeat walk_at "rd"
    refine callS ?_
    repeat walk_at "rd"
    refine ⟨v, v1, v2, tn, d, e, 0, rfl, kv, h1, h2, fun rel ev hm => ?_, fun _ H1 s1 dd hdd => ?_⟩
    · rw [ev] at ni
      exact absurd ni (by rw [show isIn (.str rel) rels = true from decide_eq_true hm]; simp)
    · have s2 := s1.trans (Rd.sNew (o := .xd [(("value" : Str), v)]) hdd)
      refine ⟨true, T_NoRelation.te, fun _ a0 ha0 => ?_, fun q => nomatch q⟩
      repeat walk_at "rd"
      refine xf ?_
      repeat walk_at "rd"
      refine ⟨rfl, dd, _, v, rfl, upd_same, by simp [List.lookup], ?_⟩
      repeat walk_at "rd"
      refine Rd.eqD (dp_mono s2 du) (dp_mono s2 du) su su ?_
      refine ⟨_, rfl, ?_⟩
      rw [eu, if_pos rfl]
      repeat walk_at "rd"
      refine ⟨_, _, true, dd, _, rfl, .own _, rfl, rfl, upd_same, k1, ?_⟩
      refine ⟨_, rfl, ?_⟩
      rw [if_pos rfl]
      repeat walk_at "rd"
      refine ⟨_, _, false, dd, _, rfl, .own _, rfl, rfl, upd_same, k2, ?_⟩
      refine ⟨_, rfl, ?_⟩
      exact q _ s2
abbrev sL_right : Stmt := top 20
abbrev nL_right : List Str := ["_law_one_here", "_law_other", "_law_many", "_law_kind", "_law_told"]
theorem scL_right : FnScope nL_right ["_law_one_here", "_law_other", "_law_many"] (defScope sL_right) := ⟨rfl, rfl, rfl, by decide +kernel, rfl, by decide +kernel, by decide +kernel⟩
def spRight (K : PySem.W.Frag) : Sp := fun vs H Q _ => ∃ (v1 v2 : V) (d e : PyData) (n : Int), vs = [v1, v2, .int n] ∧ En K H v1 d ∧ En K H v2 e ∧ 0 ≤ n ∧ n ≤ 6 ∧ ∀ H', Same H H' → Q (.bl true) H'
theorem ok_right (T : Txt K mg) {C : Addr} (D : DefAt K mg "_law_right" sL_right ["_law_one_here", "_law_other", "_law_many"]) (CL_relations : CalG P w K mg base 1 "_law_relations" (spNew (rels.map V.str)))
    (CRelated : Ex.CalX P w K mg base 4 "related" (spRel K C)) (KRelated : Kw.CalXK P w K mg base 4 "related" (spRel K C) relKs List.reverse List.reverse) (CL_related : CalG P w K mg base 1 "_law_related" (spLR K)) : CalG P w K mg base 5 "_law_right" (spRight K) := by
  refine D.by scL_right (fun vs H Q E h => ?_) (fun f cd A hg outer s H vs Q E hr h => ?_)
  · obtain ⟨_, _, _, _, _, rfl, _⟩ := h
    rfl
  · obtain ⟨v1, v2, d, e, n, rfl, h1, h2, n0, n6, q⟩ := h
    have nm : n ∈ ([0, 1, 2, 3, 4, 5, 6] : List Int) := by
      have : n = 0 ∨ n = 1 ∨ n = 2 ∨ n = 3 ∨ n = 4 ∨ n = 5 ∨ n = 6 := by omega
      simpa using this
    refine ⟨_, (pss_cons (ps_for (wi := iList K _) PassesOwn.never rfl (pi_list (pe_cG0 CL_relations hg hr (by decide))) (pg_name (i := 3) scL_right.nd rfl (Or.inl rfl))
  (pss_cons (ps_set (i := 4) scL_right.nd rfl (Or.inl rfl) (Ex.pe_x0 CRelated hg hr (by decide) (pa_cons (pv 3) (pa_cons (pv 0) (pa_cons (pv 1) (pa_cons (pv 2) pa_nil))))))
  (pss_cons (ps_if (PW.pt (pw_or (pt_not (pt_val (pe_callB (r := rIsi K) call_isi (by rfl) T.isinstance (by decide +kernel) (pa_cons (pv 4) (pa_cons (pe_bltn (v := .ty "bool") (by rfl) T.bool (by decide +kernel) rfl) pa_nil))))) (pw_or1 (pt_cmpR op_ne (pv 4) (pe_cG CL_related hg hr (by decide) (pa_cons (pv 3) (pa_cons (pv 0) (pa_cons (pv 1) (pa_cons (pv 2) pa_nil))))) (nomark _)))))
  (pss_one (ps_ret pe_bl))
  pss_nil)
  (pss_one (ps_if (pt_cmpR op_ne (Kw.pe_xK0 KRelated hg hr (by decide) (pk_cons (pv 2) (pk_cons (pv 1) (pk_cons (pv 0) (pk_cons (pv 3) pk_nil))))) (pv 4) (nomark _))
  (pss_one (ps_ret pe_bl))
  pss_nil)))))
  (pss_one (ps_ret pe_bl))), ?_⟩
    repeat walk_at "rd"
    refine forD ?_
    refine callS0 ?_
    refine ⟨rfl, fun lm H6 hlm s6 e6 => ?_⟩
    refine ⟨lm, rfl, ⟨_, SqL.of e6⟩, ?_⟩
    refine for_list (K := K) (a := lm) (xs := rels.map V.str) (fun i σ' H' => ∃ w2 w3, σ' = [some v1, some v2, some (.int n), w2, w3] ∧ Same H6 H') ⟨_, _, rfl, Same.refl _⟩ ?_ ?_ ?_
    · rintro i σ' H' _ ⟨w2, w3, rfl, s7⟩
      exact SqL.of (s7 _ _ e6)
    · rintro i x σ' H' hx ⟨w2, w3, rfl, s7⟩
      obtain ⟨z, hz, rfl⟩ := List.mem_map.mp (List.mem_of_getElem? hx)
      have inz : isIn (.str z) rels = true := decide_eq_true hz
      have s8 := s6.trans s7
      repeat walk_at "rd"
      refine ⟨_, v1, v2, _, d, e, n, rfl, kd_str z, h1.mono s8, h2.mono s8, fun z' ez _ H1 s9 => ?_, fun c => by rw [inz] at c; cases c⟩
      cases ez
      have s10 := s8.trans s9
      repeat walk_at "rd"
      refine isi (b := true) (kd_bl (relF z d e n)).ty (kd_bl (K := K) (H := H1) (relF z d e n)).b ?_
      refine ⟨_, rfl, ?_⟩
      refine Rd.bool (fun c => by cases c) (fun _ => ?_)
      repeat walk_at "rd"
      refine ⟨z, v1, v2, d, e, n, rfl, h1.mono s10, h2.mono s10, fun H2 s11 => ?_⟩
      rw [← all_rel z hz d h1.mem e h2.mem n nm]
      have s12 := s10.trans s11
      repeat walk_at "rd"
      refine Rd.ndec (fun c => absurd rfl c) (fun _ => ?_)
      repeat walk_at "rd"
      refine Kw.callKw ?_
      repeat walk_at "rd"
      refine ⟨rfl, .str z, v1, v2, _, d, e, n, rfl, kd_str z, h1.mono s12, h2.mono s12, fun z' ez _ H3 s13 => ?_, fun c => by rw [inz] at c; cases c⟩
      cases ez
      repeat walk_at "rd"
      refine Rd.ndec (fun c => absurd rfl c) (fun _ => ?_)
      repeat walk_at "rd"
      exact ⟨_, _, rfl, ((s7.trans s9).trans s11).trans s13⟩
    · rintro σ' H' ⟨w2, w3, rfl, s7⟩
      repeat walk_at "rd"
      exact q _ (s6.trans s7)
end
end Ab
namespace Ab
open PySem.Spec PyProof.Rows
theorem keep_same {p : Addr} {H H' : Hp} (k : Keep p H H') (hp : H p = none) : Same H H' := fun b o e => k b o (nf hp (by rw [e]; exact fun h => nomatch h)) e
theorem dp_strs {K : PySem.W.Frag} {H : Hp} : ∀ l : List Str, DpAll K H (l.map V.str) (l.map PyData.str)
  | [] => .nil
  | _ :: l => .cons (.str _) (dp_strs l)
theorem ifEnd {K : PySem.W.Frag} {σ : L2.St} {H : Hp} {Q : VK} {v : V} {e : PyData} (hv : σ[4]? = some (some v)) (h : En K H v e) (k : ∀ m : Int, 0 ≤ m → m ≤ 6 → Q (.int m) H) :
    tIf (tTest (tOp rEq (tOp (rIxT K) (tVar 4) (tC (.int 0))) (tC (.str "count")))) (tOp (rIxT K) (tVar 4) (tC (.int 1))) (tC (.int 1)) σ H Q := by
  refine Rd.tif ?_
  refine Rd.test ?_
  refine Rd.op ?_
  refine Rd.op ?_
  refine Rd.var hv ?_
  refine Rd.cst ?_
  refine h.ix0 ?_
  refine Rd.cst ?_
  refine Rd.eq rfl ?_
  refine ⟨_, rfl, ?_⟩
  refine Rd.dec (fun c => ?_) (fun c => ?_)
  · refine Rd.op ?_
    refine Rd.var hv ?_
    refine Rd.cst ?_
    have b := ends_nm e h.mem
    exact h.ix1 (V.str.inj c) (k _ b.1 (by omega))
  · exact Rd.cst (k 1 (by decide) (by decide))
section
variable {P : Program} {w : World} {K : PySem.W.Frag} {mg : Str → Option Value} {base : Heap}
abbrev sLaw : Stmt := top 21
abbrev nLaw : List Str := ["_law_script", "_law_k", "_law_pool_here", "_law_one_here", "_law_other", "_law_many", "_law_wrong"]
theorem scLaw : FnScope nLaw ["_law_script"] (defScope sLaw) := ⟨rfl, rfl, rfl, by decide +kernel, rfl, by decide +kernel, by decide +kernel⟩
def spLaw (K : PySem.W.Frag) : Sp := fun vs H Q _ => ∃ (a : Addr) (ns : List Int), vs = [.ref a] ∧ SqL K H a (ns.map V.int) ∧ ns.length ≤ 63 ∧ ∀ H', Q (.bl true) H'
theorem ok_law (T : Txt K mg) {p_RELATIONS : Addr} (g_RELATIONS : mg "RELATIONS" = some (.ref p_RELATIONS)) (tR : ∀ H, SqT K H p_RELATIONS (rels.map V.str)) {f : Addr} {fd : FuncData} (F : Fun K "law" "law" sLaw f fd)
    (CL_pool : CalG P w K mg base 1 "_law_pool" (spPool K)) (CL_end : CalG P w K mg base 2 "_law_end" (spEnd K)) (CL_take : CalG P w K mg base 1 "_law_take" spTake) (CL_right : CalG P w K mg base 5 "_law_right" (spRight K)) (CL_refused : CalG P w K mg base 5 "_law_refused" (spRef K)) :
    FnG P w K mg base CX0 6 f fd ["_law_script"] (spLaw K) := by
  refine defG0 F scLaw (fun vs H Q E h => ?_) (fun cd A hg outer s H vs Q E hr h => ?_)
  · obtain ⟨_, _, rfl, _⟩ := h
    rfl
  · obtain ⟨a, ns, rfl, hS, h63, q⟩ := h
    refine ⟨_, (pss_cons (ps_if (pt_cmpR (r := rNeD K) (op_neD hr.units) (pe_glob (v := .ref p_RELATIONS) (by rfl) g_RELATIONS rfl) (pe_tup (pa_cons pe_str (pa_cons pe_str (pa_cons pe_str (pa_cons pe_str pa_nil))))) (nomark _))
  (pss_one (ps_ret pe_bl))
  pss_nil)
  (pss_cons (ps_for PassesOwn.never rfl (pi_range1 (by rfl) T.range (pa_cons (pe_callB (call_max2 rfl) (by rfl) T.max (by decide +kernel) (pa_cons pe_int (pa_cons (pe_callB (call_min2 rfl) (by rfl) T.min (by decide +kernel) (pa_cons pe_int (pa_cons (pe_callB (r := Rd.rLenK K) Rd.callLen (by rfl) T.len PySem.boot_len (pa_cons (pv 0) pa_nil)) pa_nil))) pa_nil))) pa_nil)) (pg_name (i := 1) scLaw.nd rfl (Or.inl rfl))
  (pss_cons (ps_set (i := 2) scLaw.nd rfl (Or.inl rfl) (pe_cG CL_pool hg hr (by decide) (pa_cons (pv 0) (pa_cons (pv 1) pa_nil))))
  (pss_cons (ps_par (i := 3) (j := 4) (by rfl) scLaw.nd rfl rfl (by decide) rfl rfl (pa_cons (pe_cG CL_end hg hr (by decide) (pa_cons (pv 2) pa_nil)) (pa_cons (pe_cG CL_end hg hr (by decide) (pa_cons (pv 2) pa_nil)) pa_nil)) (by rfl))
  (C8.pss_cut (ps_if (pt_cmpR op_eq (pe_cG CL_take hg hr (by decide) (pa_cons (pv 2) (pa_cons pe_int pa_nil))) pe_int (nomark _))
  (pss_one (ps_set (i := 4) scLaw.nd rfl (Or.inl rfl) (pv 3)))
  pss_nil)
  (pss_cons (ps_for (wi := iList K _) PassesOwn.never rfl (pi_list (pe_lst (pa_cons (pe_cG CL_take hg hr (by decide) (pa_cons (pv 2) (pa_cons pe_int pa_nil))) (pa_cons pe_int (pa_cons (pe_ifExp (pt_cmpR op_eq (pe_ix (r := rIxT K) ix_tup (pv 4) pe_int (fun _ _ => rfl)) pe_str (nomark _)) (pe_ix (r := rIxT K) ix_tup (pv 4) pe_int (fun _ _ => rfl)) pe_int) pa_nil))))) (pg_name (i := 5) scLaw.nd rfl (Or.inl rfl))
  (pss_one (ps_if (PW.pt (pw_or (pt_not (pt_val (pe_cG CL_right hg hr (by decide) (pa_cons (pv 3) (pa_cons (pv 4) (pa_cons (pv 5) pa_nil)))))) (pw_or1 (pt_not (pt_val (pe_cG CL_right hg hr (by decide) (pa_cons (pv 4) (pa_cons (pv 3) (pa_cons (pv 5) pa_nil)))))))))
  (pss_one (ps_ret pe_bl))
  pss_nil)))
  (pss_one (ps_for (wi := iList K _) PassesOwn.never rfl (pi_list (pe_lst (pa_cons pe_non (pa_cons pe_str (pa_cons pe_str (pa_cons pe_int (pa_cons pe_bl (pa_cons (pe_lst (pa_cons pe_str pa_nil)) (pa_cons (pe_tup (pa_cons pe_str pa_nil)) (pa_cons pe_str pa_nil)))))))))) (pg_name (i := 6) scLaw.nd rfl (Or.inl rfl))
  (pss_one (ps_if (pt_not (pt_val (pe_cG CL_refused hg hr (by decide) (pa_cons (pv 6) (pa_cons (pv 3) (pa_cons (pv 4) pa_nil))))))
  (pss_one (ps_ret pe_bl))
  pss_nil)))))))))
  (pss_one (ps_ret pe_bl)))), ?_⟩
    repeat walk_at "rd"
    refine ⟨Rd.sz (by simp), fun p0 g0 => ?_⟩
    have S0 := Rd.sNew (o := .tup [.str "same", .str "opposite", .str "nonzero", .str "counts"]) g0
    refine Rd.neD (d := .tuple (rels.map PyData.str)) (e := .tuple (rels.map PyData.str)) (.tup (tR _) (dp_strs rels)) (.tup (.inl (.inl upd_same)) (dp_strs rels)) (by decide +kernel) (by decide +kernel) ?_
    rw [show PyData.eqv (.tuple (rels.map PyData.str)) (.tuple (rels.map PyData.str)) = true by decide +kernel]
    refine ⟨false, rfl, ?_⟩
    rw [if_neg Bool.false_ne_true]
    have hS := S0.seq hS
    generalize upd H p0 (.tup [.str "same", .str "opposite", .str "nonzero", .str "counts"]) = H0 at *
    repeat walk_at "rd"
    (try refine Rd.forR ?_)
    repeat walk_at "rd"
    refine Rd.rng (by (repeat' split) <;> omega) (by (repeat' split) <;> omega) ?_
    refine Rd.forGo (fun i σ H1 => ∃ w1 w2 w3 w4 w5 w6, σ = [some (.ref a), w1, w2, w3, w4, w5, w6] ∧ Same H0 H1) ⟨_, _, _, _, _, _, rfl, Same.refl _⟩ ?_ ?_
    · rintro i σ H1 hi ⟨w1, w2, w3, w4, w5, w6, rfl, sb⟩
      have i9 : i < 40 := by
        revert hi
        (repeat' split) <;> intro hi <;> omega
      repeat walk_at "rd"
      refine ⟨a, ns, i, rfl, sb.seq hS, by omega, by omega, fun p x y hp ok => ?_⟩
      have hp2 : upd H1 p (.lst [.int x, .int y]) p = some (.lst [.int x, .int y]) := upd_same
      have k2 : Keep p H1 (upd H1 p (.lst [.int x, .int y])) := (Keep.same (Same.refl H1)).put
      generalize upd H1 p (.lst [.int x, .int y]) = H2 at *
      repeat walk_at "rd"
      refine ⟨p, x, y, rfl, hp2, ok, fun v1 d H3 x3 y3 h1 ok3 hp3 k3 => ?_⟩
      repeat walk_at "rd"
      refine ⟨p, x3, y3, rfl, hp3, ok3, fun v2 e H4 x4 y4 h2 ok4 hp4 k4 => ?_⟩
      have h1 := h1.keep k4 hp3
      have k24 := (k2.trans k3).trans k4
      repeat walk_at "rd"
      refine ⟨_, _, rfl, ?_⟩
      repeat walk_at "rd"
      refine Rd.cut (fun σ H5 => ∃ v2 e x y w5 w6, σ = [some (.ref a), some (.int i), some (.ref p), some v1, some v2, w5, w6] ∧ En K H5 v1 d ∧ En K H5 v2 e ∧ H5 p = some (.lst [.int x, .int y]) ∧ PoolOk x y ∧ Keep p H1 H5) ?_ ?_
      · repeat walk_at "rd"
        refine ⟨p, x4, y4, _, rfl, hp4, ok4, by decide, by decide, fun r x5 y5 ok5 r0 r1 => ?_⟩
        have kp : Keep p H4 (upd H4 p (.lst [.int x5, .int y5])) := (Keep.same (Same.refl H4)).put
        repeat walk_at "rd"
        refine Rd.dec (fun c => ?_) (fun c => ?_)
        · repeat walk_at "rd"
          exact ⟨v1, d, x5, y5, _, _, rfl, h1.keep kp hp4, h1.keep kp hp4, upd_same, ok5, k24.trans kp⟩
        · repeat walk_at "rd"
          exact ⟨v2, e, x5, y5, _, _, rfl, h1.keep kp hp4, h2.keep kp hp4, upd_same, ok5, k24.trans kp⟩
      · rintro σ H5 ⟨v2, e, x5, y5, w5, w6, rfl, h1, h2, hp5, ok5, k5⟩
        repeat walk_at "rd"
        refine forD ?_
        repeat walk_at "rd"
        refine ⟨p, x5, y5, _, rfl, hp5, ok5, by decide, by decide, fun m1 x6 y6 ok6 m0 m7 => ?_⟩
        have kp : Keep p H5 (upd H5 p (.lst [.int x6, .int y6])) := (Keep.same (Same.refl H5)).put
        have h1 := h1.keep kp hp5
        have h2 := h2.keep kp hp5
        have k6 := k5.trans kp
        generalize upd H5 p (.lst [.int x6, .int y6]) = H6 at *
        first | (refine ifEnd ?hv h2 ?kk) | (walk_at "rd"; refine ifEnd ?hv h2 ?kk) | (walk_at "rd"; walk_at "rd"; refine ifEnd ?hv h2 ?kk) | (walk_at "rd"; walk_at "rd"; walk_at "rd"; refine ifEnd ?hv h2 ?kk) | (walk_at "rd"; walk_at "rd"; walk_at "rd"; walk_at "rd"; refine ifEnd ?hv h2 ?kk) | (walk_at "rd"; walk_at "rd"; walk_at "rd"; walk_at "rd"; walk_at "rd"; refine ifEnd ?hv h2 ?kk) | (walk_at "rd"; walk_at "rd"; walk_at "rd"; walk_at "rd"; walk_at "rd"; walk_at "rd"; refine ifEnd ?hv h2 ?kk) | (walk_at "rd"; walk_at "rd"; walk_at "rd"; walk_at "rd"; walk_at "rd"; walk_at "rd"; walk_at "rd"; refine ifEnd ?hv h2 ?kk) | (walk_at "rd"; walk_at "rd"; walk_at "rd"; walk_at "rd"; walk_at "rd"; walk_at "rd"; walk_at "rd"; walk_at "rd"; refine ifEnd ?hv h2 ?kk)
        case hv => rfl
        case kk =>
        intro m3 a3 b3
        refine ⟨Rd.sz (by simp), fun lm glm => ?_⟩
        have sl := Rd.sNew (o := .lst [.int m1, .int 0, .int m3]) glm
        have hlm : upd H6 lm (.lst [.int m1, .int 0, .int m3]) lm = some (.lst [.int m1, .int 0, .int m3]) := upd_same
        have h1 := h1.mono sl
        have h2 := h2.mono sl
        have k7 := k6.trans (Keep.same (p := p) sl)
        generalize upd H6 lm (.lst [.int m1, .int 0, .int m3]) = H7 at *
        refine ⟨lm, rfl, ⟨_, SqL.of hlm⟩, ?_⟩
        refine for_list (K := K) (a := lm) (xs := [.int m1, .int 0, .int m3]) (fun i' σ' H' => ∃ w5, σ' = [some (.ref a), some (.int i), some (.ref p), some v1, some v2, w5, w6] ∧ Same H7 H') ⟨_, rfl, Same.refl _⟩ ?_ ?_ ?_
        · rintro i' σ' H' _ ⟨w5, rfl, s7⟩
          exact SqL.of (s7 _ _ hlm)
        · rintro i' x σ' H' hx ⟨w5, rfl, s7⟩
          have mx : ∃ m : Int, x = .int m ∧ 0 ≤ m ∧ m ≤ 6 := by
            have := List.mem_of_getElem? hx
            simp only [List.mem_cons, List.not_mem_nil, or_false] at this
            rcases this with rfl | rfl | rfl
            · exact ⟨_, rfl, m0, by omega⟩
            · exact ⟨0, rfl, by decide, by decide⟩
            · exact ⟨_, rfl, a3, b3⟩
          obtain ⟨m, rfl, ma, mb⟩ := mx
          repeat walk_at "rd"
          refine ⟨v1, v2, d, e, m, rfl, h1.mono s7, h2.mono s7, ma, mb, fun H8 s8 => ?_⟩
          refine ⟨_, rfl, ?_⟩
          refine Rd.bool (fun c => by cases c) (fun _ => ?_)
          have s9 := s7.trans s8
          repeat walk_at "rd"
          refine ⟨v2, v1, e, d, m, rfl, h2.mono s9, h1.mono s9, ma, mb, fun H9 s10 => ?_⟩
          refine ⟨_, rfl, ?_⟩
          refine Rd.bool (fun c => by cases c) (fun _ => ?_)
          repeat walk_at "rd"
          exact ⟨_, rfl, s9.trans s10⟩
        · rintro σ' H8 ⟨w5, rfl, s7⟩
          have h1 := h1.mono s7
          have h2 := h2.mono s7
          have k8 := k7.trans (Keep.same (p := p) s7)
          dsimp only
          refine forD ?_
          repeat walk_at "rd"
          refine ⟨Rd.sz (by simp), fun q1 e1 => ?_⟩
          repeat walk_at "rd"
          refine ⟨Rd.sz (by simp), fun q2 e2 => ?_⟩
          repeat walk_at "rd"
          refine ⟨Rd.sz (by simp), fun q3 e3 => ?_⟩
          have t3 := Rd.sNew (o := .lst [.non, .str "", .str "equal", .int 0, .bl true, .ref q1, .ref q2, .str "Same"]) e3
          have t2 := (Rd.sNew (o := .tup [.str "same"]) e2).trans t3
          have t1 := (Rd.sNew (o := .lst [.str "same"]) e1).trans t2
          have E1 := t2 _ _ (upd_same (H := H8) (a := q1) (o := .lst [.str "same"]))
          have E2 := t3 _ _ (upd_same (a := q2) (o := .tup [.str "same"]))
          have E3 : (upd (upd (upd H8 q1 (.lst [.str "same"])) q2 (.tup [.str "same"])) q3 (.lst [.non, .str "", .str "equal", .int 0, .bl true, .ref q1, .ref q2, .str "Same"])) q3 = some (.lst [.non, .str "", .str "equal", .int 0, .bl true, .ref q1, .ref q2, .str "Same"]) := upd_same
          generalize upd (upd (upd H8 q1 (.lst [.str "same"])) q2 (.tup [.str "same"])) q3 (.lst [.non, .str "", .str "equal", .int 0, .bl true, .ref q1, .ref q2, .str "Same"]) = H9 at t1 E1 E2 E3 ⊢
          refine ⟨q3, rfl, ⟨_, SqL.of E3⟩, ?_⟩
          refine for_list (K := K) (a := q3) (xs := [.non, .str "", .str "equal", .int 0, .bl true, .ref q1, .ref q2, .str "Same"]) (fun i' σ' H' => ∃ w6, σ' = [some (.ref a), some (.int i), some (.ref p), some v1, some v2, w5, w6] ∧ Same H9 H') ⟨_, rfl, Same.refl _⟩ ?_ ?_ ?_
          · rintro i' σ' H' _ ⟨w6, rfl, u⟩
            exact SqL.of (u _ _ E3)
          · rintro i' x σ' H' hx ⟨w6, rfl, u⟩
            have E1 := u _ _ E1
            have E2 := u _ _ E2
            have mx : ∃ (tn : String) (dx : PyData), Kd K H' x tn ∧ isIn x rels = false ∧ Dp K H' x dx ∧ SeqAt.shaped dx = true ∧ PyData.eqv dx dx = true := by
              have := List.mem_of_getElem? hx
              simp only [List.mem_cons, List.not_mem_nil, or_false] at this
              rcases this with rfl | rfl | rfl | rfl | rfl | rfl | rfl | rfl
              · exact ⟨_, .none, kd_non, rfl, .non, by decide +kernel, by decide +kernel⟩
              · exact ⟨_, .str "", kd_str _, by decide +kernel, .str _, by decide +kernel, by decide +kernel⟩
              · exact ⟨_, .str "equal", kd_str _, by decide +kernel, .str _, by decide +kernel, by decide +kernel⟩
              · exact ⟨_, .int 0, kd_int 0, rfl, .int 0, by decide +kernel, by decide +kernel⟩
              · exact ⟨_, .bool true, kd_bl true, rfl, .bl true, by decide +kernel, by decide +kernel⟩
              · exact ⟨_, .list [.str "same"], kd_lst E1, rfl, .lst (SqL.of E1) (.cons (.str _) .nil), by decide +kernel, by decide +kernel⟩
              · exact ⟨_, .tuple [.str "same"], kd_tup E2, rfl, .tup (.inl (.inl E2)) (.cons (.str _) .nil), by decide +kernel, by decide +kernel⟩
              · exact ⟨_, .str "Same", kd_str _, by decide +kernel, .str _, by decide +kernel, by decide +kernel⟩
            obtain ⟨tn, dx, kx, nx, px, sx, ex⟩ := mx
            have s9 := t1.trans u
            repeat walk_at "rd"
            refine ⟨x, v1, v2, tn, d, e, dx, rfl, kx, nx, h1.mono s9, h2.mono s9, px, sx, ex, fun H10 u2 => ?_⟩
            refine ⟨_, rfl, ?_⟩
            refine Rd.bool (fun c => by cases c) (fun _ => ?_)
            repeat walk_at "rd"
            exact ⟨_, rfl, u.trans u2⟩
          · rintro σ' H10 ⟨w6, rfl, u⟩
            exact ⟨_, _, _, _, _, _, rfl, sb.trans ((keep_same k8 hp).trans (t1.trans u))⟩
    · rintro σ H1 ⟨w1, w2, w3, w4, w5, w6, rfl, sb⟩
      repeat walk_at "rd"
      exact q _
end
end Ab
namespace Ab
open PySem.Spec PyProof.Rows
def clsBody : Stmt → List Stmt
  | .ClassDef _ _ _ b _ _ _ _ _ _ _ => b
  | _ => []
abbrev sInit : Stmt := (clsBody (top 2)).headD (.Pass ⟨0, 0, 0, 0⟩)
theorem scInit : FnScope ["self", "value"] ["self", "value"] (defScope sInit) := ⟨rfl, rfl, rfl, by decide +kernel, rfl, by decide +kernel, by decide +kernel⟩
/-- a tuple that the top has written -/
theorem sqT_of {K : PySem.W.Frag} {p : Addr} {d : Option Addr} {its : Array Value} {m : Nat} {sl : Array (Option Value)} {xs : List V} (l : K.lookup p = some ⟨.type "tuple", d, .seq its m, sl⟩) (z : its.size ≤ sizeLine) (v : Vals xs its.toList) : ∀ H, SqT K H p xs :=
  fun _ => .inr ⟨_, its, m, l, rfl, rfl, z, v⟩
/-- what except and isinstance ask, out of what the top has written -/
theorem kitCls_ref {K : PySem.W.Frag} {C D : Addr} {b : Bool} (h2 : PySem.W.isClsIn K D = true) (h3 : PySem.W.typeIn K (.ref D) = some (.type "type")) (h4 : PySem.W.subIn K (.ref C) (.ref D) = some b) : PySem.W.kitCls K (.ref C) (.ref D) = some b := by
  have h2' : (PySem.W.clsIn K D).isSome = true := h2
  show (if ((PySem.W.clsIn K D).isSome && PySem.W.typeIn K (.ref D) == some (.type "type")) = true then PySem.W.subIn K (.ref C) (.ref D) else none) = some b
  rw [h2', h3, if_pos (by rfl)]
  exact h4
theorem exm_own {K : PySem.W.Frag} {C : Addr} (h1 : PySem.W.subIn K (.ref C) (.type "BaseException") = some true) (h2 : PySem.W.isClsIn K C = true) (h3 : PySem.W.typeIn K (.ref C) = some (.type "type")) (h4 : PySem.W.subIn K (.ref C) (.ref C) = some true) : PySem.W.exmOne K (.ref C) (.ref C) = some true := by
  show (if (PySem.W.subIn K (.ref C) (.type "BaseException") == some true) = true then PySem.W.kitCls K (.ref C) (.ref C) else none) = some true
  rw [h1, if_pos (by rfl)]
  exact kitCls_ref h2 h3 h4
theorem kit_own {K : PySem.W.Frag} {C D : Addr} {b : Bool} (ne : (Value.ref C == Value.ref D) = false) (h2 : PySem.W.isClsIn K D = true) (h3 : PySem.W.typeIn K (.ref D) = some (.type "type")) (h4 : PySem.W.subIn K (.ref C) (.ref D) = some b) : PySem.W.kitOne K (.ref C) (.ref D) = some b := by
  show (if (Value.ref C == Value.ref D) = true then some true else PySem.W.kitCls K (.ref C) (.ref D)) = some b
  rw [ne, if_neg Bool.false_ne_true]
  exact kitCls_ref h2 h3 h4
section
variable {P : Program} {w : World} {K : PySem.W.Frag} {mg : Str → Option Value} {base : Heap}
theorem ok_init {C fI : Addr} {fd : FuncData} (T : Ex.ErrC K mg "NoRelation" "value" C) (F : Fun K "__init__" "NoRelation.__init__" sInit fI fd) : FnOk P w K mg base CX0 1 fI fd ["self", "value"] (Ex.spInit C "value") := by
  refine F.ok scInit (fun vs H Q E h => ?_) (fun cdv A outer s H vs Q E hr h => ⟨_, pss_one (ps_ost (pv 0) (pv 1)), ?_⟩)
  · obtain ⟨a, v, rfl, _⟩ := h
    rfl
  · obtain ⟨a, v, rfl, ha, q⟩ := h
    exact ⟨_, rfl, _, rfl, a, C, rfl, T.t, T.no, .inl ⟨ha, q⟩⟩
end
theorem all_mk {l : PySem.W.OpenLaw} {w : World} {K : PySem.W.Frag} {h : Heap} {mg : Str → Option Value} {fa : Addr} (X : K.In h) (G : h.Ns mainGlobals mg) (hfa : mg "law" = some (.ref fa))
    {f1 : Addr} {od1 an1 : Option Addr} {sl1 : Array (Option Value)} {oc1 kV1 dc1 pm1 cd1 ct1 : Value}
    {f2 : Addr} {od2 an2 : Option Addr} {sl2 : Array (Option Value)} {oc2 kV2 dc2 pm2 cd2 ct2 : Value}
    {f3 : Addr} {od3 an3 : Option Addr} {sl3 : Array (Option Value)} {oc3 kV3 dc3 pm3 cd3 ct3 : Value}
    {f4 : Addr} {od4 an4 : Option Addr} {sl4 : Array (Option Value)} {oc4 kV4 dc4 pm4 cd4 ct4 : Value}
    {f5 : Addr} {od5 an5 : Option Addr} {sl5 : Array (Option Value)} {oc5 kV5 dc5 pm5 cd5 ct5 : Value}
    {f6 : Addr} {od6 an6 : Option Addr} {sl6 : Array (Option Value)} {oc6 kV6 dc6 pm6 cd6 ct6 : Value}
    {f7 : Addr} {od7 an7 : Option Addr} {sl7 : Array (Option Value)} {oc7 kV7 dc7 pm7 cd7 ct7 : Value}
    {f8 : Addr} {od8 an8 : Option Addr} {sl8 : Array (Option Value)} {oc8 kV8 dc8 pm8 cd8 ct8 : Value}
    {f9 : Addr} {od9 an9 : Option Addr} {sl9 : Array (Option Value)} {oc9 kV9 dc9 pm9 cd9 ct9 : Value}
    {f10 : Addr} {od10 an10 : Option Addr} {sl10 : Array (Option Value)} {oc10 kV10 dc10 pm10 cd10 ct10 : Value}
    {f11 : Addr} {od11 an11 : Option Addr} {sl11 : Array (Option Value)} {oc11 kV11 dc11 pm11 cd11 ct11 : Value}
    {f12 : Addr} {od12 an12 : Option Addr} {sl12 : Array (Option Value)} {oc12 kV12 dc12 pm12 cd12 ct12 : Value}
    (a1 : PySem.W.nsIn K mainGlobals "is_one_of" = some (some (.ref f1))) (l1 : K.lookup f1 = some ⟨oc1, od1, .func (PySem.W.fnOf "is_one_of" "is_one_of" (defArgs sIs_one_of) (defBody sIs_one_of) (defScope sIs_one_of) .none kV1 dc1 pm1 an1 cd1 ct1), sl1⟩) (c1 : PySem.W.codeIn K cd1 "is_one_of" = true) (k1 : PySem.W.keepIn K (.ref f1) = true)
    (a2 : PySem.W.nsIn K mainGlobals "_are_related_answers" = some (some (.ref f2))) (l2 : K.lookup f2 = some ⟨oc2, od2, .func (PySem.W.fnOf "_are_related_answers" "_are_related_answers" (defArgs sAre_related_answers) (defBody sAre_related_answers) (defScope sAre_related_answers) .none kV2 dc2 pm2 an2 cd2 ct2), sl2⟩) (c2 : PySem.W.codeIn K cd2 "_are_related_answers" = true) (k2 : PySem.W.keepIn K (.ref f2) = true)
    (a3 : PySem.W.nsIn K mainGlobals "check_relation" = some (some (.ref f3))) (l3 : K.lookup f3 = some ⟨oc3, od3, .func (PySem.W.fnOf "check_relation" "check_relation" (defArgs sCheck_relation) (defBody sCheck_relation) (defScope sCheck_relation) .none kV3 dc3 pm3 an3 cd3 ct3), sl3⟩) (c3 : PySem.W.codeIn K cd3 "check_relation" = true) (k3 : PySem.W.keepIn K (.ref f3) = true)
    (a4 : PySem.W.nsIn K mainGlobals "related" = some (some (.ref f4))) (l4 : K.lookup f4 = some ⟨oc4, od4, .func (PySem.W.fnOf "related" "related" (defArgs sRelated) (defBody sRelated) (defScope sRelated) .none kV4 dc4 pm4 an4 cd4 ct4), sl4⟩) (c4 : PySem.W.codeIn K cd4 "related" = true) (k4 : PySem.W.keepIn K (.ref f4) = true)
    (a5 : PySem.W.nsIn K mainGlobals "_law_pool" = some (some (.ref f5))) (l5 : K.lookup f5 = some ⟨oc5, od5, .func (PySem.W.fnOf "_law_pool" "_law_pool" (defArgs sL_pool) (defBody sL_pool) (defScope sL_pool) .none kV5 dc5 pm5 an5 cd5 ct5), sl5⟩) (c5 : PySem.W.codeIn K cd5 "_law_pool" = true) (k5 : PySem.W.keepIn K (.ref f5) = true)
    (a6 : PySem.W.nsIn K mainGlobals "_law_take" = some (some (.ref f6))) (l6 : K.lookup f6 = some ⟨oc6, od6, .func (PySem.W.fnOf "_law_take" "_law_take" (defArgs sL_take) (defBody sL_take) (defScope sL_take) .none kV6 dc6 pm6 an6 cd6 ct6), sl6⟩) (c6 : PySem.W.codeIn K cd6 "_law_take" = true) (k6 : PySem.W.keepIn K (.ref f6) = true)
    (a7 : PySem.W.nsIn K mainGlobals "_law_related" = some (some (.ref f7))) (l7 : K.lookup f7 = some ⟨oc7, od7, .func (PySem.W.fnOf "_law_related" "_law_related" (defArgs sL_related) (defBody sL_related) (defScope sL_related) .none kV7 dc7 pm7 an7 cd7 ct7), sl7⟩) (c7 : PySem.W.codeIn K cd7 "_law_related" = true) (k7 : PySem.W.keepIn K (.ref f7) = true)
    (a8 : PySem.W.nsIn K mainGlobals "_law_relations" = some (some (.ref f8))) (l8 : K.lookup f8 = some ⟨oc8, od8, .func (PySem.W.fnOf "_law_relations" "_law_relations" (defArgs sL_relations) (defBody sL_relations) (defScope sL_relations) .none kV8 dc8 pm8 an8 cd8 ct8), sl8⟩) (c8 : PySem.W.codeIn K cd8 "_law_relations" = true) (k8 : PySem.W.keepIn K (.ref f8) = true)
    (a9 : PySem.W.nsIn K mainGlobals "_law_end" = some (some (.ref f9))) (l9 : K.lookup f9 = some ⟨oc9, od9, .func (PySem.W.fnOf "_law_end" "_law_end" (defArgs sL_end) (defBody sL_end) (defScope sL_end) .none kV9 dc9 pm9 an9 cd9 ct9), sl9⟩) (c9 : PySem.W.codeIn K cd9 "_law_end" = true) (k9 : PySem.W.keepIn K (.ref f9) = true)
    (a10 : PySem.W.nsIn K mainGlobals "_law_refused" = some (some (.ref f10))) (l10 : K.lookup f10 = some ⟨oc10, od10, .func (PySem.W.fnOf "_law_refused" "_law_refused" (defArgs sL_refused) (defBody sL_refused) (defScope sL_refused) .none kV10 dc10 pm10 an10 cd10 ct10), sl10⟩) (c10 : PySem.W.codeIn K cd10 "_law_refused" = true) (k10 : PySem.W.keepIn K (.ref f10) = true)
    (a11 : PySem.W.nsIn K mainGlobals "_law_right" = some (some (.ref f11))) (l11 : K.lookup f11 = some ⟨oc11, od11, .func (PySem.W.fnOf "_law_right" "_law_right" (defArgs sL_right) (defBody sL_right) (defScope sL_right) .none kV11 dc11 pm11 an11 cd11 ct11), sl11⟩) (c11 : PySem.W.codeIn K cd11 "_law_right" = true) (k11 : PySem.W.keepIn K (.ref f11) = true)
    (a12 : PySem.W.nsIn K mainGlobals "law" = some (some (.ref f12))) (l12 : K.lookup f12 = some ⟨oc12, od12, .func (PySem.W.fnOf "law" "law" (defArgs sLaw) (defBody sLaw) (defScope sLaw) .none kV12 dc12 pm12 an12 cd12 ct12), sl12⟩) (c12 : PySem.W.codeIn K cd12 "law" = true) (k12 : PySem.W.keepIn K (.ref f12) = true)
    (z_int : PySem.W.nsIn K mainGlobals "int" = some none)
    (z_len : PySem.W.nsIn K mainGlobals "len" = some none)
    (z_max : PySem.W.nsIn K mainGlobals "max" = some none)
    (z_min : PySem.W.nsIn K mainGlobals "min" = some none)
    (z_isinstance : PySem.W.nsIn K mainGlobals "isinstance" = some none)
    (z_range : PySem.W.nsIn K mainGlobals "range" = some none)
    (z_bool : PySem.W.nsIn K mainGlobals "bool" = some none)
    (z_str : PySem.W.nsIn K mainGlobals "str" = some none)
    (z_any : PySem.W.nsIn K mainGlobals "any" = some none)
    {C CA CB fI N : Addr} {nm q : Str} {bs : List Value} {sn : List Str} {sub : List Value} {ab : Bool} {col : Option Bool} {dd odI anI : Option Addr} {m0 m1 m2 m3 m5 : Option Value} {slI : Array (Option Value)} {ocI dcI pmI cdI ctI : Value}
    (aC : PySem.W.nsIn K mainGlobals "NoRelation" = some (some (.ref C)))
    (aA : PySem.W.nsIn K mainGlobals "AnswerError" = some (some (.ref CA)))
    (aB : PySem.W.nsIn K mainGlobals "NoAgreement" = some (some (.ref CB)))
    (xL : K.lookup C = some (excClassObj nm q C N bs [.ref CA, .type "ValueError", .type "Exception", .type "BaseException", .type "object"] true sn sub ab col dd m0 m1 m2 m3 m5 "ValueError.__new__"))
    (sa : PySem.W.findIn K (.ref C) "__setattr__" = some (some (.builtin "object.__setattr__")))
    (eC : PySem.W.subIn K (.ref C) (.type "BaseException") = some true)
    (tC : PySem.W.typeIn K (.ref C) = some (.type "type"))
    (kC : PySem.W.keepIn K (.ref C) = true)
    (ga : PySem.W.findIn K (.ref C) "__getattribute__" = some (some (.builtin "BaseException.__getattribute__")))
    (gg : PySem.W.findIn K (.ref C) "__getattr__" = some none)
    (hC : PySem.W.hasDictIn K C = true)
    (hcl : PySem.W.findIn K (.ref C) "__class__" = some (some (.builtin "object.__class__")))
    (hsp : PySem.W.specialIn K (.builtin "object.__class__") "__get__" = some (some (.builtin "getset_descriptor.__get__")))
    (htk : PySem.W.takesIn K (.builtin "object.__class__") = some true)
    (hmr : PySem.W.mroIn K C (.type "object") = some true)
    (nf_ : PySem.W.findIn K (.ref C) "value" = some none)
    (cC : PySem.W.isClsIn K C = true)
    (sC : PySem.W.subIn K (.ref C) (.ref C) = some true)
    (cA : PySem.W.isClsIn K CA = true)
    (tyA : PySem.W.typeIn K (.ref CA) = some (.type "type"))
    (sA : PySem.W.subIn K (.ref C) (.ref CA) = some true)
    (cB : PySem.W.isClsIn K CB = true)
    (tyB : PySem.W.typeIn K (.ref CB) = some (.type "type"))
    (sB : PySem.W.subIn K (.ref C) (.ref CB) = some false)
    (nA : (Value.ref C == Value.ref CA) = false)
    (nB : (Value.ref C == Value.ref CB) = false)
    (iI : PySem.W.findIn K (.ref C) "__init__" = some (some (.ref fI)))
    (tI : PySem.W.typeIn K (.ref fI) = some (.type "function"))
    (lI : K.lookup fI = some ⟨ocI, odI, .func (PySem.W.fnOf "__init__" "NoRelation.__init__" (defArgs sInit) (defBody sInit) (defScope sInit) .none .none dcI pmI anI cdI ctI), slI⟩)
    (cI : PySem.W.codeIn K cdI "NoRelation.__init__" = true)
    (kI : PySem.W.keepIn K (.ref fI) = true)
    {p_RELATIONS : Addr} {d_RELATIONS : Option Addr} {i_RELATIONS : Array Value} {n_RELATIONS : Nat} {s_RELATIONS : Array (Option Value)} (a_RELATIONS : PySem.W.nsIn K mainGlobals "RELATIONS" = some (some (.ref p_RELATIONS))) (l_RELATIONS : K.lookup p_RELATIONS = some ⟨.type "tuple", d_RELATIONS, .seq i_RELATIONS n_RELATIONS, s_RELATIONS⟩) (z_RELATIONS : i_RELATIONS.size ≤ sizeLine) (v_RELATIONS : Vals (rels.map V.str) i_RELATIONS.toList)
    {p_ANSWERS : Addr} {d_ANSWERS : Option Addr} {i_ANSWERS : Array Value} {n_ANSWERS : Nat} {s_ANSWERS : Array (Option Value)} (a_ANSWERS : PySem.W.nsIn K mainGlobals "ANSWERS" = some (some (.ref p_ANSWERS))) (l_ANSWERS : K.lookup p_ANSWERS = some ⟨.type "tuple", d_ANSWERS, .seq i_ANSWERS n_ANSWERS, s_ANSWERS⟩) (z_ANSWERS : i_ANSWERS.size ≤ sizeLine) (v_ANSWERS : Vals (answersW.map V.str) i_ANSWERS.toList)
    : ∃ fd : FuncData, (∀ (s : Shared) (u : Value), BindsTo s fd ⟨[u], []⟩ [("_law_script", u)]) ∧ ∀ base : Heap, K.In base → base.Ns mainGlobals mg → FnG l.prog w K mg base CX0 6 fa fd ["_law_script"] (spLaw K) := by
  have e := hfa.symm.trans (PySem.W.mg_of X G a12)
  cases e
  have T : Txt K mg := { int := PySem.W.mg_none_of X G z_int, len := PySem.W.mg_none_of X G z_len, max := PySem.W.mg_none_of X G z_max, min := PySem.W.mg_none_of X G z_min, isinstance := PySem.W.mg_none_of X G z_isinstance, range := PySem.W.mg_none_of X G z_range, bool := PySem.W.mg_none_of X G z_bool, str := PySem.W.mg_none_of X G z_str, any := PySem.W.mg_none_of X G z_any }
  have D1 : DefAt K mg "is_one_of" sIs_one_of ["value", "words"] := defAt X G (fun _ _ _ _ _ _ us hl => match us, hl with | [_, _], _ => rfl) a1 l1 c1 k1
  have D2 : DefAt K mg "_are_related_answers" sAre_related_answers ["relation", "first", "second", "items"] := defAt X G (fun _ _ _ _ _ _ us hl => match us, hl with | [_, _, _, _], _ => rfl) a2 l2 c2 k2
  have D3 : DefAt K mg "check_relation" sCheck_relation ["relation"] := defAt X G (fun _ _ _ _ _ _ us hl => match us, hl with | [_], _ => rfl) a3 l3 c3 k3
  have D5 : DefAt K mg "_law_pool" sL_pool ["_law_script", "_law_k"] := defAt X G (fun _ _ _ _ _ _ us hl => match us, hl with | [_, _], _ => rfl) a5 l5 c5 k5
  have D6 : DefAt K mg "_law_take" sL_take ["_law_pool_here", "_law_many"] := defAt X G (fun _ _ _ _ _ _ us hl => match us, hl with | [_, _], _ => rfl) a6 l6 c6 k6
  have D7 : DefAt K mg "_law_related" sL_related ["_law_kind", "_law_one_here", "_law_other", "_law_many"] := defAt X G (fun _ _ _ _ _ _ us hl => match us, hl with | [_, _, _, _], _ => rfl) a7 l7 c7 k7
  have D8 : DefAt K mg "_law_relations" sL_relations [] := defAt X G (fun _ _ _ _ _ _ us hl => match us, hl with | [], _ => rfl) a8 l8 c8 k8
  have D9 : DefAt K mg "_law_end" sL_end ["_law_pool_here"] := defAt X G (fun _ _ _ _ _ _ us hl => match us, hl with | [_], _ => rfl) a9 l9 c9 k9
  have D10 : DefAt K mg "_law_refused" sL_refused ["_law_value", "_law_one_here", "_law_other"] := defAt X G (fun _ _ _ _ _ _ us hl => match us, hl with | [_, _, _], _ => rfl) a10 l10 c10 k10
  have D11 : DefAt K mg "_law_right" sL_right ["_law_one_here", "_law_other", "_law_many"] := defAt X G (fun _ _ _ _ _ _ us hl => match us, hl with | [_, _, _], _ => rfl) a11 l11 c11 k11
  have FL := fun_mk (st := sLaw) l12 c12 k12
  have FR := fun_mk (st := sRelated) l4 c4 k4
  have bR := FR.binds (ps := ["relation", "first", "second", "items"]) fun _ _ _ _ _ _ us hl => match us, hl with | [_, _, _, _], _ => rfl
  have TN : Ex.ErrC K mg "NoRelation" "value" C := { t := ⟨⟨nm, q, N, bs, _, sn, sub, ab, col, dd, m0, m1, m2, m3, m5, xL, by rfl⟩, sa, eC, tC, kC⟩, xf := ⟨ga, gg, eC, hC⟩, ic := ⟨ga, gg, eC, hC, hcl, hsp, htk, hmr⟩, no := nf_, g := PySem.W.mg_of X G aC, te := exm_own eC cC tC sC }
  have FI := fun_mk (st := sInit) lI cI kI
  have bI := FI.binds (ps := ["self", "value"]) fun _ _ _ _ _ _ us hl => match us, hl with | [_, _], _ => rfl
  have S_RELATIONS := sqT_of l_RELATIONS z_RELATIONS v_RELATIONS
  have S_ANSWERS := sqT_of l_ANSWERS z_ANSWERS v_ANSWERS
  refine ⟨PySem.W.fnOf "law" "law" (defArgs sLaw) (defBody sLaw) (defScope sLaw) .none kV12 dc12 pm12 an12 cd12 ct12, fun s v => .of_eq rfl, fun base _ _ => ?_⟩
  have IN : Ex.InitOk l.prog w K mg base "value" C := ⟨fI, _, iI, tI, ok_init TN FI, bI⟩
  have B_one := ok_one_of (P := l.prog) (w := w) (base := base) T D1
  have B_ans := ok_ans (P := l.prog) (w := w) (base := base) T D2
  have B_cr := ok_check_relation T (PySem.W.mg_of X G a_RELATIONS) S_RELATIONS TN IN D3 B_one
  have GR := fn_related T (PySem.W.mg_of X G a_ANSWERS) S_ANSWERS B_cr B_ans FR
  have B_rel : Ex.CalX l.prog w K mg base 4 "related" (spRel K C) := ⟨_, _, _, GR, PySem.W.mg_of X G a4, FR.kp, bR⟩
  have B_relK : Kw.CalXK l.prog w K mg base 4 "related" (spRel K C) relKs List.reverse List.reverse := ⟨_, _, _, GR, PySem.W.mg_of X G a4, FR.kp, fun s ws hl => (match ws, hl with | [_, _, _, _], _ => .of_eq rfl), fun _ hv => rel_rev hv⟩
  have B_pool := ok_pool (P := l.prog) (w := w) (base := base) T D5
  have B_take := ok_take (P := l.prog) (w := w) (base := base) T D6
  have B_lrel := ok_lrel (P := l.prog) (w := w) (base := base) T D7
  have B_rels := ok_relations (P := l.prog) (w := w) (base := base) D8
  have B_end := ok_end T D9 B_take
  have B_ref := ok_refused T TN (PySem.W.mg_of X G aA) (PySem.W.mg_of X G aB) (kit_own nA cA tyA sA) (kit_own nB cB tyB sB) D10 B_rel
  have B_right := ok_right T D11 B_rels B_rel B_relK B_lrel
  exact ok_law T (PySem.W.mg_of X G a_RELATIONS) S_RELATIONS FL B_pool B_end B_take B_right B_ref
end Ab
open PySem PySem.W PyProof.Rows
set_option maxRecDepth 100000 in
set_option maxHeartbeats 0 in
theorem PySem.Challenge.cw_answersby_k60_ends_related_holds : PySem.Challenge.rw_answersby_k60_ends_related.Holds := by
  w_on; o_law; k_head; (case hw => w_witness2)
  k_fill
  refine Gk.walkG (l := PySem.Challenge.rw_answersby_k60_ends_related) (n := 63) (k := 6) (x := "_law_script") (sp := fun w => Ab.spLaw _) rfl (by decide) rfl ⟨rfl, by decide, by decide⟩ (fun w h Y => PySem.W.kIn_of Y) ?F (fun w H a ns hl _ hS => ⟨a, ns, rfl, hS, hl, fun _ => rfl⟩)
  case F =>
    intro w mg fa h KX G hmg
    refine' Ab.all_mk KX G hmg ?a1 ?l1 ?c1 ?k1 ?a2 ?l2 ?c2 ?k2 ?a3 ?l3 ?c3 ?k3 ?a4 ?l4 ?c4 ?k4 ?a5 ?l5 ?c5 ?k5 ?a6 ?l6 ?c6 ?k6 ?a7 ?l7 ?c7 ?k7 ?a8 ?l8 ?c8 ?k8 ?a9 ?l9 ?c9 ?k9 ?a10 ?l10 ?c10 ?k10 ?a11 ?l11 ?c11 ?k11 ?a12 ?l12 ?c12 ?k12 ?z_int ?z_len ?z_max ?z_min ?z_isinstance ?z_range ?z_bool ?z_str ?z_any ?aC ?aA ?aB ?xL ?sa ?eC ?tC ?kC ?ga ?gg ?hC ?hcl ?hsp ?htk ?hmr ?nf_ ?cC ?sC ?cA ?tyA ?sA ?cB ?tyB ?sB ?nA ?nB ?iI ?tI ?lI ?cI ?kI ?a_RELATIONS ?l_RELATIONS ?z_RELATIONS ?v_RELATIONS ?a_ANSWERS ?l_ANSWERS ?z_ANSWERS ?v_ANSWERS
    (case a1 => k_is)
    (case l1 => k_is)
    (case c1 => k_is)
    (case k1 => k_is)
    (case a2 => k_is)
    (case l2 => k_is)
    (case c2 => k_is)
    (case k2 => k_is)
    (case a3 => k_is)
    (case l3 => k_is)
    (case c3 => k_is)
    (case k3 => k_is)
    (case a4 => k_is)
    (case l4 => k_is)
    (case c4 => k_is)
    (case k4 => k_is)
    (case a5 => k_is)
    (case l5 => k_is)
    (case c5 => k_is)
    (case k5 => k_is)
    (case a6 => k_is)
    (case l6 => k_is)
    (case c6 => k_is)
    (case k6 => k_is)
    (case a7 => k_is)
    (case l7 => k_is)
    (case c7 => k_is)
    (case k7 => k_is)
    (case a8 => k_is)
    (case l8 => k_is)
    (case c8 => k_is)
    (case k8 => k_is)
    (case a9 => k_is)
    (case l9 => k_is)
    (case c9 => k_is)
    (case k9 => k_is)
    (case a10 => k_is)
    (case l10 => k_is)
    (case c10 => k_is)
    (case k10 => k_is)
    (case a11 => k_is)
    (case l11 => k_is)
    (case c11 => k_is)
    (case k11 => k_is)
    (case a12 => k_is)
    (case l12 => k_is)
    (case c12 => k_is)
    (case k12 => k_is)
    (case z_int => k_is)
    (case z_len => k_is)
    (case z_max => k_is)
    (case z_min => k_is)
    (case z_isinstance => k_is)
    (case z_range => k_is)
    (case z_bool => k_is)
    (case z_str => k_is)
    (case z_any => k_is)
    (case aC => k_is)
    (case aA => k_is)
    (case aB => k_is)
    (case xL => k_is)
    (case sa => k_is)
    (case eC => k_is)
    (case tC => k_is)
    (case kC => k_is)
    (case ga => k_is)
    (case gg => k_is)
    (case hC => k_is)
    (case hcl => k_is)
    (case hsp => k_is)
    (case htk => k_is)
    (case hmr => k_is)
    (case nf_ => k_is)
    (case cC => k_is)
    (case sC => k_is)
    (case cA => k_is)
    (case tyA => k_is)
    (case sA => k_is)
    (case cB => k_is)
    (case tyB => k_is)
    (case sB => k_is)
    (case nA => rfl)
    (case nB => rfl)
    (case iI => k_is)
    (case tI => k_is)
    (case lI => k_is)
    (case cI => k_is)
    (case kI => k_is)
    (case a_RELATIONS => k_is)
    (case l_RELATIONS => k_is)
    (case z_RELATIONS => decide +kernel)
    (case v_RELATIONS => repeat (first | exact .nil | refine .cons ⟨_, rfl⟩ ?_))
    (case a_ANSWERS => k_is)
    (case l_ANSWERS => k_is)
    (case z_ANSWERS => decide +kernel)
    (case v_ANSWERS => repeat (first | exact .nil | refine .cons ⟨_, rfl⟩ ?_))
