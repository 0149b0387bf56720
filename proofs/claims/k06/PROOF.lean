import PyProof.Rows.All
import Wide.All
import OpenK.AllK
import Wide.FinOn
import HandS.ForMost
import PyProof.ReprReads
import PyProof.ReprRoads
import HandS.Codes
import PyProof.StrLawsRepr
import HandS.Conv
import PyProof.ListStr
import PySem.Challenge.RW_answersby_k06_lists_merged
set_option Elab.async false
set_option linter.all false
set_option maxRecDepth 100000
set_option maxHeartbeats 8000000
/-! repr of data; defs that are called where no container is being shown -/
namespace Gk
open PySem L2 PySem.Spec PyProof.Rows

/-! ### a def's promise, kept where no list, tuple or dict is being shown -/
structure FnG (P : Program) (w : World) (K : PySem.W.Frag) (mg : Str → Option Value) (base : Heap) (CX : CXT) (k : Nat) (f : Addr) (fd : FuncData) (ps : List Str) (sp : Sp) : Prop where
  len : ∀ vs H Q E, sp vs H Q E → vs.length = ps.length
  go : ∀ (A : Around), A.guards = some [] → ∀ (outer : List Env) (s : Shared) (H : Hp) (args : Args) (us : List Value) (vs : List V) (Q : VK) (E : XK),
    Room k A → Env0 P w K mg base A outer s H → BindsTo s fd args (ps.zip us) → Vals vs us → sp vs H Q E → codeAny (model P w) A (.call (.ref f) args) (CR CX outer P w H s Q E) s

section
variable {P : Program} {w : World} {K : PySem.W.Frag} {mg : Str → Option Value} {base : Heap} {CX : CXT} {j k : Nat} {f : Addr} {fd : FuncData} {ps : List Str} {sp : Sp}
theorem FnG.up (F : FnG P w K mg base CX j f fd ps sp) (h : j ≤ k) : FnG P w K mg base CX k f fd ps sp :=
  ⟨F.len, fun A g outer s H args us vs Q E hr => F.go A g outer s H args us vs Q E (hr.mono h)⟩
end

section
variable {X : Cx} {CX : CXT} {k : Nat} {f : Addr} {fd : FuncData} {ps : List Str} {sp : Sp} {dvs : List V} {ds : List Value} {E : XK} {x : Str} {p pos : Pos} {e : Expr} {es : List Expr} {t : TA}
theorem runG {pins : List (Addr × Obj)} {σ : L2.St} {H : Hp} {s : Shared} {Q : VK} {us : List Value} {vs : List V} (F : FnG X.prog X.w X.K X.mg X.base CX k f fd ps sp) (g : X.A.guards = some [])
    (hr : Room k X.A) (hb : Binds X.K fd ps ds) (hd : Vals dvs ds) (hx : Passes CX X E) (I : Inv X pins σ H s) (r : Vals vs us) (h : sp (vs ++ dvs) H Q E) :
    wpAny (model X.prog X.w) X.A (call (.ref f) us) (EP X pins σ Q) X.xe s := by
  have rr := r.append hd
  have lens : (us ++ ds).length = ps.length := (rr.length).symm.trans (F.len _ _ _ _ h)
  have body := F.go X.A g X.stack s H ⟨us, []⟩ (us ++ ds) (vs ++ dvs) Q E hr I.env0 (hb s us I.kIn lens) rr h
  refine wpAny_call (codeAny_mono body ?_)
  intro res s' hres
  match res, hres with
  | .error e, z => exact hx pins σ H s e s' I z
  | .ok (.ret u), z => exact I.after z
  | .ok .next, z => exact z.elim
  | .ok .brk, z => exact z.elim
  | .ok .cont, z => exact z.elim
theorem pe_callG (F : FnG X.prog X.w X.K X.mg X.base CX k f fd ps sp) (g : X.A.guards = some []) (hr : Room k X.A) (hg : Gl X x) (hm : X.mg x = some (.ref f))
    (hk : PySem.W.keepIn X.K (.ref f) = true) (hb : Binds X.K fd ps ds) (hd : Vals dvs ds) (hx : Passes CX X E) (ha : PA X (e :: es) t)
    (hdb : (x == ("__debug__" : Str)) = false := by decide)
    (he : starEach (e :: es) X.env = (false, eval e X.env) :: starEach es X.env := by rfl)
    (hpl : (backTo pos (starEach es X.env)).any (·.1) = false := by rfl) :
    PE X (.Call (.Name x p) (e :: es) [] pos) (tCall sp dvs E t) := by
  refine ⟨fun pins s σ H Q I h => wpAny_Call_Name_kw (ld_glob I hg hm ?_ hdb)⟩
  have args := ha.run pos pins s σ H _ I h
  refine PySem.W.callWith_K (h₀ := X.base) I.ok.mod.kin hk (thn args ?_) he hpl
  rintro us s1 ⟨vs, H1, I1, r, q⟩
  exact ⟨I1.kIn, runG F g hr hb hd hx I1 r q⟩
end

/-! ### a def of the text, and the law's own call -/
section
variable {CX : CXT} {P : Program} {w : World} {K : PySem.W.Frag} {mg : Str → Option Value} {base : Heap}
theorem defG {k : Nat} {f : Addr} {x qual : Str} {st : Stmt} {fd : FuncData} {N ps : List Str} {sp : Sp}
    (F : Fun K x qual st f fd) (S : FnScope N ps (defScope st)) (len : ∀ vs H Q E, sp vs H Q E → vs.length = ps.length)
    (inner : ∀ (cd : Value) (A : Around), A.guards = some [] → ∀ (outer : List Env) (s : Shared) (H : Hp) (vs : List V) (Q : VK) (E : XK),
      Room k (A.deeper (envOfC qual (defScope st) s.heap.objs.size f cd)) → sp vs H Q E →
      ∃ t, PSs (cxOf CX P w K mg base N qual (defScope st) f cd A outer s H E) (defBody st) t ∧ t { nx := fun _ H' => Q .non H', rt := Q } (start N vs) H) :
    FnG P w K mg base CX (k + 1) f fd ps sp := by
  obtain ⟨oc, od, kV, doc, pm, an, cd, ct, osl, rfl, lk, hcd⟩ := F.ex
  refine ⟨len, ?_⟩
  intro A g outer s H args us vs Q E hr e0 hb r hsp
  have kept : ∀ b o, base.get? b = some o → s.heap.get? b = some o := fun b o z => (e0.bs b o z).1
  have KX : K.In s.heap := e0.mod.kin.keeps kept
  have lim : s.heap.NoLimit := e0.mod.nolimit.keeps kept
  have slots : ∀ y ∈ ps.zip us, (defScope st).names.lookup y.1 = some .local ∨
      ((defScope st).names.lookup y.1 = some .cell ∧ ((cellsFrom (s.heap.objs.size + 1) (defScope st).names []).lookup y.1).isSome = true) := by
    rintro ⟨n, v⟩ hy
    have hp := S.par n (List.of_mem_zip hy).1
    exact hp.imp id fun q => ⟨q, PySem.W.cellsFrom_some _ _ _ (.inl q)⟩
  refine codeAny_call_function hr.depth (KX _ _ lk) rfl S.co S.gen rfl (PySem.W.codeRec_of KX hcd) (hb _ _ _ _ ?_)
  refine wpAny_newFunctionEnv_cells S.kind slots ?_
  rintro env rfl s1 x
  refine ⟨lim.keeps x.toInCall.keep, codeAny_func ?_⟩
  obtain ⟨t, ht, hq⟩ := inner cd A g outer s H vs Q E (hr.deeper _) hsp
  have I := inv_start (CX := CX) (mg := mg) (E := E) S hr.hd e0 (len _ _ _ _ hsp) r x
  refine wpAny_mono (ht.run [] s1 (start N vs) H _ I hq) ?_ fun _ _ z => z
  intro fl s' hs
  match fl, hs with
  | .ret u, ⟨v, σ', H', J, rv, q⟩ => exact ⟨v, H', J.os, J.bare, J.base, J.hok, rv, q⟩
  | .next, ⟨σ', H', J, q⟩ => exact ⟨V.non, H', J.os, J.bare, J.base, J.hok, rfl, q⟩
  | .brk, ⟨_, _, _, q⟩ => exact q.elim
  | .cont, ⟨_, _, _, q⟩ => exact q.elim
/-- no exception leaves the def -/
theorem defG0 {k : Nat} {f : Addr} {x qual : Str} {st : Stmt} {fd : FuncData} {N ps : List Str} {sp : Sp}
    (F : Fun K x qual st f fd) (S : FnScope N ps (defScope st)) (len : ∀ vs H Q E, sp vs H Q E → vs.length = ps.length)
    (inner : ∀ (cd : Value) (A : Around), A.guards = some [] → ∀ (outer : List Env) (s : Shared) (H : Hp) (vs : List V) (Q : VK) (E : XK),
      Room k (A.deeper (envOfC qual (defScope st) s.heap.objs.size f cd)) → sp vs H Q E →
      ∃ t, PSs (cxOf CX0 P w K mg base N qual (defScope st) f cd A outer s H E).nox (defBody st) t ∧ t { nx := fun _ H' => Q .non H', rt := Q } (start N vs) H) :
    FnG P w K mg base CX0 (k + 1) f fd ps sp :=
  defG F S len fun cd A g outer s H vs Q E hr h => let ⟨t, a, b⟩ := inner cd A g outer s H vs Q E hr h; ⟨t, a.nox, b⟩
end

/-! ### repr -/
section
variable {X : Cx}
def rRepr (K : PySem.W.Frag) : List V → Hp → VK → Prop := fun xs H Q =>
  ∃ v d, xs = [v] ∧ Dp K H v d ∧ d.showable = true ∧ d.hasDict = false ∧ d.depth ≤ 60 ∧ d.shown.length ≤ sizeLine ∧ Q (.str d.shown) H
theorem call_reprD (hg : X.A.guards = some []) (hu : X.A.units + 64 < cLine) : CallR X (.builtin "repr") (rRepr X.K) := by
  intro pins s σ H xs us Q I r h
  obtain ⟨v, d, rfl, hd, h1, h2, h3, h4, q⟩ := h
  obtain ⟨u, rfl, ru⟩ := vals1 r
  obtain ⟨as, rd⟩ := Dp.reads I d v u hd ru
  have out : ∀ h' u' tk, (∀ b o, s.heap.get? b = some o → h'.get? b = some o) → EP X pins σ Q (.str d.shown u') { s with heap := h', toks := tk } :=
    fun h' u' tk hk => ⟨.str d.shown, H, I.kept hk, ⟨u', rfl⟩, q⟩
  cases rd with
  | none => exact P.repr_of_none (by simpa only [PyData.shown] using out s.heap s.toks (s.toks + 1) fun _ _ z => z)
  | bool b => exact P.repr_of_bool (by simpa only [PyData.shown] using out s.heap s.toks (s.toks + 1) fun _ _ z => z)
  | int i t => exact P.repr_of_int (by simpa [PyData.showable] using h1) (by simpa only [PyData.shown] using out s.heap _ _ fun _ _ z => z)
  | str x t => exact P.repr_of_str (by simpa only [PyData.shown] using out s.heap _ _ fun _ _ z => z) (by simpa only [PyData.shown] using h4)
  | list a1 a2 a3 a4 => exact repr_of_reads' (.list a1 a2 a3 a4) h1 (fun z => by rw [h2] at z; cases z) hg (by omega) (fun _ _ z => z) out h4
  | tuple a1 a2 a3 a4 => exact repr_of_reads' (.tuple a1 a2 a3 a4) h1 (fun z => by rw [h2] at z; cases z) hg (by omega) (fun _ _ z => z) out h4
  | dict a1 a2 a3 a4 a5 => simp [PyData.hasDict] at h2
end
end Gk
/-! the law's own call, by a promise of the kind FnG -/
namespace Gk
open PySem L2 PySem.Spec PyProof.Rows
abbrev AllTrue (s₁ : Shared) (r : Result) (s' : Shared) : Prop := r = .ok (.ret (.bool true)) ∧ OldK s₁.heap s'.heap ∧ s'.os = s₁.os ∧ AllBare s'.gens
section
variable {P : Program} {w : World} {K : PySem.W.Frag} {mg mb : Str → Option Value} {k : Nat} {fa a : Addr} {fd : FuncData} {x : Str} {sp : Sp} {s₁ : Shared} {vs : List Value} {ns : List Int}
/-- what is hidden by H stands at a alone, and that is the script's list -/
structure Hid (K : PySem.W.Frag) (s₁ : Shared) (a : Addr) (vs : List Value) (H : Hp) : Prop where
  only : Only H
  at_a : ∀ b, H b ≠ none → b = a
  new : H a ≠ none → K.lookup a = none
  scr : s₁.heap.get? a = some { cls := .type "list", data := .seq vs.toArray }
theorem Hid.free {H : Hp} (h : Hid K s₁ a vs H) {b : Addr} {o : Obj} (e : s₁.heap.get? b = some o) (hd : ∀ z n, o.data ≠ .seq z n) : H b = none := by
  cases q : H b with
  | none => rfl
  | some u =>
    obtain rfl : b = a := h.at_a b (by simp [q])
    rw [h.scr] at e
    cases e
    exact absurd rfl (hd _ _)
theorem Hid.nsp {H : Hp} (h : Hid K s₁ a vs H) {b : Addr} {m : Str → Option Value} : s₁.heap.Ns b m → (hidT s₁.heap H).Ns b m := by
  rintro ⟨o, es, ep, e, d, r⟩
  exact ⟨o, es, ep, hidT_get e (h.free e fun z n q => by rw [d] at q; cases q), d, r⟩
theorem Hid.kin {H : Hp} (h : Hid K s₁ a vs H) (KX : K.In s₁.heap) : K.In (hidT s₁.heap H) := by
  intro b o e
  refine hidT_get (KX b o e) ?_
  cases q : H b with
  | none => rfl
  | some u =>
    obtain rfl : b = a := h.at_a b (by simp [q])
    rw [h.new (by simp [q])] at e
    cases e
theorem run_law {H : Hp} (h : Hid K s₁ a vs H) (KX : K.In s₁.heap) (hns : s₁.heap.Ns mainGlobals mg) (hb : s₁.heap.Ns builtinsNs mb) (hbb : ∀ x : Str, x ≠ "__name__" → mb x = bootBuiltins x) (hlim : s₁.heap.NoLimit)
    (hg : s₁.gens = #[]) (hr : Room k callerA) (F : ∀ base : Heap, K.In base → base.Ns mainGlobals mg → FnG P w K mg base CX0 k fa fd [x] sp)
    (hbind : ∀ (s : Shared) (u : Value), BindsTo s fd ⟨[u], []⟩ [(x, u)]) (hok : HOk P w H s₁.heap) (hsp : sp [.ref a] H (fun v _ => v = .bl true) fun _ _ _ => False) :
    codeAny (model P w) callerA (.call (.ref fa) ⟨[.ref a], []⟩) (AllTrue s₁) s₁ := by
  obtain ⟨mc, l1, l2⟩ := hlim
  have md : Mod K mg (hidT s₁.heap H) := ⟨h.kin KX, h.nsp hns, ⟨mb, h.nsp hb, hbb⟩, ⟨mc, h.nsp l1, l2⟩⟩
  have ev : Env0 P w K mg (hidT s₁.heap H) callerA [] s₁ H :=
    ⟨rfl, md, fun b o e => of_hidT e, Nat.le_of_eq (hidT_size _ _), trivial, fun b hb => (List.not_mem_nil hb).elim, hok, .of_eq hg⟩
  have go := (F _ (h.kin KX) (h.nsp hns)).go callerA rfl [] s₁ H ⟨[.ref a], []⟩ [.ref a] [.ref a] _ _ hr ev (hbind s₁ (.ref a)) (.cons rfl .nil) hsp
  refine codeAny_mono go ?_
  intro res s' hres
  match res, hres with
  | .error e, z => exact z.elim
  | .ok .next, z => exact z.elim
  | .ok .brk, z => exact z.elim
  | .ok .cont, z => exact z.elim
  | .ok (.ret u), ⟨v, H', os, bare, un, hok', rv, q⟩ =>
    obtain rfl : v = .bl true := q
    obtain rfl : u = Value.bool true := rv
    refine ⟨rfl, OldK.of_keep ?_, os, bare⟩
    intro b o e
    rcases h.only b with z | ⟨ob, xs, z⟩
    · exact un.keep b o e z (fun m => (List.not_mem_nil m).elim) (fun m => (List.not_mem_nil m).elim)
    · obtain ⟨e1, _⟩ := hok b _ z
      obtain ⟨e2, _⟩ := hok' b _ (un.frzs b ob _ z)
      rw [e] at e1
      cases e1
      exact e2
theorem law_callG (KX : K.In s₁.heap) (hns : s₁.heap.Ns mainGlobals mg) (hb : s₁.heap.Ns builtinsNs mb) (hbb : ∀ x : Str, x ≠ "__name__" → mb x = bootBuiltins x) (hlim : s₁.heap.NoLimit) (hg : s₁.gens = #[])
    (scr : s₁.heap.get? a = some { cls := .type "list", data := .seq vs.toArray }) (hi : IntsAre vs ns) (hl : ns.length ≤ sizeLine) (hr : Room k callerA)
    (F : ∀ base : Heap, K.In base → base.Ns mainGlobals mg → FnG P w K mg base CX0 k fa fd [x] sp) (hbind : ∀ (s : Shared) (u : Value), BindsTo s fd ⟨[u], []⟩ [(x, u)])
    (hsp : ∀ H : Hp, Only H → SqL K H a (ns.map V.int) → sp [.ref a] H (fun v _ => v = .bl true) fun _ _ _ => False) :
    codeAny (model P w) callerA (.call (.ref fa) ⟨[.ref a], []⟩) (AllTrue s₁) s₁ := by
  have rv := vals_ints hi
  cases hk : K.lookup a with
  | some o =>
    have e := KX a o hk
    rw [scr] at e
    cases e
    have on : Only (fun _ => none) := fun _ => .inl rfl
    refine run_law (H := fun _ => none) ⟨on, fun b z => absurd rfl z, fun z => absurd rfl z, scr⟩ KX hns hb hbb hlim hg hr F hbind (fun b u z => nomatch z) (hsp _ on ?_)
    exact .inr ⟨_, vs.toArray, _, hk, rfl, rfl, rfl, by rw [List.size_toArray, hi.length]; exact hl, by simpa using rv⟩
  | none =>
    let L : HO := .frz { cls := .type "list", data := .seq vs.toArray } (.lst (ns.map V.int))
    have la : (fun b => if b = a then some L else none : Hp) a = some L := if_pos rfl
    have on : Only (fun b => if b = a then some L else none) := by
      intro b
      by_cases hb : b = a
      · exact .inr ⟨_, _, if_pos hb⟩
      · exact .inl (if_neg hb)
    refine run_law ⟨on, fun b z => ?_, fun _ => hk, scr⟩ KX hns hb hbb hlim hg hr F hbind (fun b u z => ?_) (hsp _ on (.inl (.inr ⟨_, la⟩)))
    · by_cases hb : b = a
      · exact hb
      · exact absurd (if_neg hb) z
    · by_cases hb : b = a
      · subst hb
        have z' := la.symm.trans z
        cases z'
        exact ⟨scr, by rw [List.length_map]; exact hl, vs, _, rv, scr⟩
      · have z' := (if_neg hb).symm.trans z
        cases z'
end
theorem walkG {l : PySem.W.OpenLaw} {n k : Nat} {q : Program} {loose : List Str} {XP : (Str → Option Value) → Heap → Prop} {YP : World → Heap → Prop} {d : DefRec} {K : Params → PySem.W.Frag} {sp : World → Sp} {x : Str}
    (hn : l.most = some n) (hn2 : n ≤ sizeLine) (hdf : d.params.defaults = []) (hr : Room k callerA) (hY : ∀ (w : World) (h : Heap), YP w h → (K w.params).In h)
    (F : ∀ (w : World) (mg : Str → Option Value) (fa : Addr) (h : Heap), (K w.params).In h → h.Ns mainGlobals mg → mg d.name = some (.ref fa) →
      ∃ fd : FuncData, (∀ (s : Shared) (u : Value), BindsTo s fd ⟨[u], []⟩ [(x, u)]) ∧
        ∀ base : Heap, (K w.params).In base → base.Ns mainGlobals mg → FnG l.prog w (K w.params) mg base CX0 k fa fd [x] (sp w))
    (hsp : ∀ (w : World) (H : Hp) (a : Addr) (ns : List Int), ns.length ≤ n → Only H → SqL (K w.params) H a (ns.map V.int) → sp w [.ref a] H (fun v _ => v = .bl true) fun _ _ _ => False) :
    PySem.W.WalkO q loose XP YP l.row.toRowW d [] (fun f vs => PySem.call f vs) := by
  refine Att.attach_call hn hdf ?_
  intro w s₀ s₁ mg mb fa o pm cd doc a vs ns G Y ho hd hcd hmg hobj hints hlen hg
  obtain ⟨fd, hb, hF⟩ := F w mg fa _ (hY w _ Y) G.T.g hmg
  exact law_callG (hY w _ Y) G.T.g G.T.b G.T.builtins G.T.nolimit hg hobj hints (Nat.le_trans hlen hn2) hr hF hb fun H hO hS => hsp w H a ns hlen hO hS
end Gk
namespace Gk
open PySem L2 PySem.Spec PyProof.Rows
/-- a def of the module's top, by its name, with its promise -/
def CalG (P : Program) (w : World) (K : PySem.W.Frag) (mg : Str → Option Value) (base : Heap) (k : Nat) (x : Str) (sp : Sp) : Prop :=
  ∃ (f : Addr) (fd : FuncData) (ps : List Str), FnG P w K mg base CX0 k f fd ps sp ∧ mg x = some (.ref f) ∧ PySem.W.keepIn K (.ref f) = true ∧ Binds K fd ps []
/-- a def as the top has left it -/
def DefAt (K : PySem.W.Frag) (mg : Str → Option Value) (x : Str) (st : Stmt) (ps : List Str) : Prop :=
  ∃ (f : Addr) (fd : FuncData), mg x = some (.ref f) ∧ Fun K x x st f fd ∧ Binds K fd ps []
theorem defAt {K : PySem.W.Frag} {h : Heap} {mg : Str → Option Value} {x : Str} {st : Stmt} {ps : List Str} {f : Addr} {oc : Value} {od an : Option Addr} {osl : Array (Option Value)} {kV doc pm cdv ct : Value} (X : K.In h) (G : h.Ns mainGlobals mg)
    (hb : ∀ (kV doc pm : Value) (an : Option Addr) (cdv ct : Value) (us : List Value), us.length = ps.length → bindArgs (PySem.W.fnOf x x (defArgs st) (defBody st) (defScope st) .none kV doc pm an cdv ct) ⟨us, []⟩ = pure (ps.zip us))
    (a : PySem.W.nsIn K mainGlobals x = some (some (.ref f)))
    (l : K.lookup f = some ⟨oc, od, .func (PySem.W.fnOf x x (defArgs st) (defBody st) (defScope st) .none kV doc pm an cdv ct), osl⟩)
    (c : PySem.W.codeIn K cdv x = true) (k : PySem.W.keepIn K (.ref f) = true) : DefAt K mg x st ps :=
  ⟨f, _, PySem.W.mg_of X G a, fun_mk l c k, (fun_mk (st := st) l c k).binds hb⟩
section
variable {P : Program} {w : World} {K : PySem.W.Frag} {mg : Str → Option Value} {base : Heap}
/-- a def by its body -/
theorem DefAt.by {x : Str} {st : Stmt} {ps N : List Str} {k : Nat} {sp : Sp} (D : DefAt K mg x st ps) (S : FnScope N ps (defScope st)) (len : ∀ vs H Q E, sp vs H Q E → vs.length = ps.length)
    (inner : ∀ (f : Addr) (cd : Value) (A : Around), A.guards = some [] → ∀ (outer : List Env) (s : Shared) (H : Hp) (vs : List V) (Q : VK) (E : XK),
      Room k (A.deeper (envOfC x (defScope st) s.heap.objs.size f cd)) → sp vs H Q E →
      ∃ t, PSs (cxOf CX0 P w K mg base N x (defScope st) f cd A outer s H E).nox (defBody st) t ∧ t { nx := fun _ H' => Q .non H', rt := Q } (start N vs) H) :
    CalG P w K mg base (k + 1) x sp := by
  obtain ⟨f, fd, hm, F, hb⟩ := D
  exact ⟨f, fd, ps, defG0 F S len (inner f), hm, F.kp, hb⟩
end
section
variable {X : Cx} {k j : Nat} {sp : Sp} {x : Str} {p pos : Pos} {e : Expr} {es : List Expr} {t : TA}
theorem pe_cG (c : CalG X.prog X.w X.K X.mg X.base k x sp) (g : X.A.guards = some []) (hr : Room j X.A) (hk : k ≤ j) (ha : PA X (e :: es) t) (hg : Gl X x := by rfl)
    (hdb : (x == ("__debug__" : Str)) = false := by decide) (he : starEach (e :: es) X.env = (false, eval e X.env) :: starEach es X.env := by rfl)
    (hpl : (backTo pos (starEach es X.env)).any (·.1) = false := by rfl) : PE X (.Call (.Name x p) (e :: es) [] pos) (tCall sp [] E0 t) := by
  obtain ⟨f, fd, ps, F, hm, hkp, hb⟩ := c
  exact pe_callG F g (hr.mono hk) hg hm hkp hb .nil pass0 ha hdb he hpl
end
end Gk
/-! readings, one construct a lemma: what a term of the layer asks, from the value -/
namespace Rd
open PySem L2 PySem.Spec PyProof.Rows Gk
section
variable {K : PySem.W.Frag} {σ : L2.St} {H : Hp} {Q : VK} {QA : List V → Hp → Prop} {QB : Bool → Hp → Prop} {QH : Hp → Prop} {D : Ends} {i j : Int} {n : Nat} {v x y : V} {ta tb te : TE} {tt tu : TT} {t u : TS} {as ar : TA} {p q : Addr} {xs ys : List V} {z s : Str} {b c : Bool}
theorem var (h : σ[n]? = some (some v)) (k : Q v H) : tVar n σ H Q := ⟨v, h, k⟩
theorem cst (k : Q v H) : tC v σ H Q := k
theorem op {r : R2} (k : ta σ H fun x H1 => tb σ H1 fun y H2 => r x y H2 Q) : tOp r ta tb σ H Q := k
theorem un {r : V → Hp → VK → Prop} (k : ta σ H fun x H1 => r x H1 Q) : tUn r ta σ H Q := k
theorem i0 {g : Int → Int → V} (k : Q (g i j) H) : rI0 g (.int i) (.int j) H Q := ⟨i, j, rfl, rfl, k⟩
theorem ic {C : Int → Int → Prop} {g : Int → Int → V} (h : C i j) (k : Q (g i j) H) : rI C g (.int i) (.int j) H Q := ⟨i, j, rfl, rfl, h, k⟩
theorem u1 {g : Int → V} (k : Q (g i) H) : rU g (.int i) H Q := ⟨i, rfl, k⟩
theorem eq (h : scal x y = true) (k : Q (.bl (decide (x = y))) H) : rEq x y H Q := ⟨h, k⟩
theorem ne (h : scal x y = true) (k : Q (.bl (!decide (x = y))) H) : rNe x y H Q := ⟨h, k⟩
theorem ixL (h : SqL K H p xs) (a : atI xs i = some v) (k : Q v H) : rIxL K (.ref p) (.int i) H Q := ⟨p, xs, i, v, rfl, rfl, h, a, k⟩
theorem ixT (h : SqT K H p xs) (a : atI xs i = some v) (k : Q v H) : rIxT K (.ref p) (.int i) H Q := ⟨p, xs, i, v, rfl, rfl, h, a, k⟩
theorem ixS {m : Nat} (h : z.length ≤ sizeLine) (a : atI z.cps.toList i = some m) (k : Q (.str ⟨#[m]⟩) H) : rIxS (.str z) (.int i) H Q := ⟨z, i, m, rfl, rfl, h, a, k⟩
theorem setL {m : Nat} (h : H p = some (.lst xs)) (a : ixN xs.length i = some m) (k : QH (upd H p (.lst (xs.set m v)))) : rSetL (.ref p) (.int i) v H QH := ⟨p, xs, i, m, rfl, rfl, h, a, k⟩
theorem inL {neg : Bool} (h : SqL K H p xs) (hx : flatV x = true) (ha : xs.all flatV = true) (k : Q (.bl (if neg then !inV x xs else inV x xs)) H) : rIn K neg x (.ref p) H Q := ⟨p, xs, rfl, .inl h, hx, ha, k⟩
theorem slL {lo hi : Option Int} (h : SqL K H p xs) (k : ∀ q, H q = none → Q (.ref q) (upd H q (.lst (cutV xs lo hi)))) : rSlL K (.ref p) lo hi H Q := ⟨p, xs, rfl, h, k⟩
theorem slS {lo hi : Option Int} (h : z.length ≤ sizeLine) (k : Q (.str (cutS z lo hi)) H) : rSlS (.str z) lo hi H Q := ⟨z, rfl, h, k⟩
theorem cat (h : H p = some (.lst xs)) (h' : H q = some (.lst ys)) (l : xs.length + ys.length ≤ sizeLine) (k : ∀ r, H r = none → Q (.ref r) (upd H r (.lst (xs ++ ys)))) : rCat (.ref p) (.ref q) H Q := ⟨p, q, xs, ys, rfl, rfl, h, h', l, k⟩
theorem sl {r : V → Option Int → Option Int → Hp → VK → Prop} {tl th : TO} (k : te σ H fun x H1 => tl σ H1 fun l H2 => th σ H2 fun u H3 => r x l u H3 Q) : tSl r te tl th σ H Q := k
theorem noPart {QO : Option Int → Hp → Prop} (k : QO none H) : tNoPart σ H QO := k
theorem part {QO : Option Int → Hp → Prop} (k : te σ H fun x H1 => ∃ i, x = .int i ∧ QO (some i) H1) : tPart te σ H QO := k
theorem int_ {R : Int → Prop} (k : R i) : ∃ i', V.int i = .int i' ∧ R i' := ⟨i, rfl, k⟩
theorem bl_ {R : Bool → Prop} (k : R b) : ∃ c, V.bl b = .bl c ∧ R c := ⟨b, rfl, k⟩
theorem nil (k : QA [] H) : tNil σ H QA := k
theorem cons (k : te σ H fun x H1 => ar σ H1 fun xs H2 => QA (x :: xs) H2) : tCons te ar σ H QA := k
theorem cb {r : List V → Hp → VK → Prop} (k : as σ H fun vs H1 => r vs H1 Q) : tCB r as σ H Q := k
theorem call {sp : Sp} {dvs : List V} {E : XK} (k : as σ H fun vs H1 => sp (vs ++ dvs) H1 Q E) : tCall sp dvs E as σ H Q := k
theorem lst (k : as σ H fun xs H1 => xs.length ≤ sizeLine ∧ ∀ p, H1 p = none → Q (.ref p) (upd H1 p (.lst xs))) : tLst as σ H Q := k
theorem tup (k : as σ H fun xs H1 => xs.length ≤ sizeLine ∧ ∀ p, H1 p = none → Q (.ref p) (upd H1 p (.tup xs))) : tTup as σ H Q := k
theorem test (k : te σ H fun x H' => ∃ k, x = .bl k ∧ QB k H') : tTest te σ H QB := k
theorem tb_ (k : te σ H fun x H' => ∃ k, x = .bl k ∧ QB k H') : tB te σ H QB := k
theorem not_ (k : tt σ H fun c H1 => QB (!c) H1) : tNot tt σ H QB := k
theorem or_ (k : tt σ H fun c H1 => if c = true then QB true H1 else tu σ H1 QB) : tOr tt tu σ H QB := k
theorem and_ (k : tt σ H fun c H1 => if c = true then tu σ H1 QB else QB false H1) : tAnd tt tu σ H QB := k
theorem orV (k : ta σ H fun x H1 => ∃ c, x = .bl c ∧ if c = true then Q (.bl true) H1 else tb σ H1 Q) : tOrV ta tb σ H Q := k
theorem andV (k : ta σ H fun x H1 => ∃ c, x = .bl c ∧ if c = true then tb σ H1 Q else Q (.bl false) H1) : tAndV ta tb σ H Q := k
theorem notV (k : ta σ H fun x H1 => ∃ c, x = .bl c ∧ Q (.bl (!c)) H1) : tNotV ta σ H Q := k
theorem tif (k : tt σ H fun c H1 => if c = true then ta σ H1 Q else tb σ H1 Q) : tIf tt ta tb σ H Q := k
theorem yes (k : QB true H) : tYes σ H QB := k
theorem next (k : D.nx σ H) : tNext D σ H := k
theorem seq (k : t { D with nx := u D } σ H) : tSeq t u D σ H := k
theorem drop (k : te σ H fun _ H1 => D.nx σ H1) : tDrop te D σ H := k
theorem ret (k : te σ H D.rt) : tRet te D σ H := k
theorem retN (k : D.rt .non H) : tRetN D σ H := k
theorem ifs (k : tt σ H fun b H1 => if b = true then t D σ H1 else u D σ H1) : tIfS tt t u D σ H := k
theorem asg {g : TG} (k : te σ H fun x H1 => g x σ H1 D.nx) : tAsg te g D σ H := k
theorem gname {QS : L2.St → Hp → Prop} (k : QS (σ.set n (some v)) H) : gName n v σ H QS := k
theorem gsub {QS : L2.St → Hp → Prop} {st : V → V → V → Hp → (Hp → Prop) → Prop} (k : ta σ H fun o H1 => tb σ H1 fun i H2 => st o i v H2 fun H3 => QS σ H3) : gSub ta tb st v σ H QS := k
theorem par {m l : Nat} (k : as σ H fun vs H1 => ∃ v w, vs = [v, w] ∧ D.nx ((σ.set m (some v)).set l (some w)) H1) : tPar m l as D σ H := k
theorem bm {T : String} {r : V → List V → Hp → VK → Prop} (k : te σ H fun x H1 => tyV K T x H1 ∧ as σ H1 fun xs H2 => r x xs H2 Q) : tBM K T r te as σ H Q := k
theorem bm0 {T : String} {r : V → List V → Hp → VK → Prop} (k : te σ H fun x H1 => tyV K T x H1 ∧ r x [] H1 Q) : tBM0 K T r te σ H Q := k
theorem app (h : H p = some (.lst xs)) (l : xs.length < sizeLine) (k : Q .non (upd H p (.lst (xs ++ [v])))) : rAppend (.ref p) [v] H Q := ⟨p, xs, v, rfl, rfl, h, l, k⟩
theorem ty_list (h : H p = some (.lst xs)) : tyV K "list" (.ref p) H := .inl ⟨rfl, xs, SqL.of h⟩
theorem int1 {R : Int → Prop} {R2 : Bool → Prop} (k : R i) : (∃ j, [V.int i] = [.int j] ∧ R j) ∨ ∃ k, [V.int i] = [.bl k] ∧ R2 k := .inl ⟨i, rfl, k⟩
theorem intB {R : Int → Prop} {R2 : Bool → Prop} (k : R2 b) : (∃ j, [V.bl b] = [.int j] ∧ R j) ∨ ∃ k, [V.bl b] = [.bl k] ∧ R2 k := .inr ⟨b, rfl, k⟩
theorem two {R : Int → Int → Prop} (k : R i j) : ∃ i' j', [V.int i, .int j] = [.int i', .int j'] ∧ R i' j' := ⟨i, j, rfl, k⟩
theorem one {R : Int → Prop} (k : R i) : ∃ i', [V.int i] = [.int i'] ∧ R i' := ⟨i, rfl, k⟩
theorem lenL {R : List V → Prop} (h : SqL K H p xs) (k : R xs) : ∃ p' ys, [V.ref p] = [.ref p'] ∧ (SqL K H p' ys ∨ SqT K H p' ys) ∧ R ys := ⟨p, xs, rfl, .inl h, k⟩
theorem lenS {R : Str → Prop} (h : z.length ≤ sizeLine) (k : R z) : ∃ z', [V.str z] = [.str z'] ∧ z'.length ≤ sizeLine ∧ R z' := ⟨z, rfl, h, k⟩
theorem andr {R : Prop} (k : R) : x = x ∧ R := ⟨rfl, k⟩
theorem str_ {R : Str → Prop} (k : R z) : ∃ c, V.str z = .str c ∧ R c := ⟨z, rfl, k⟩
theorem dec {c A B : Prop} [Decidable c] (h1 : c → A) (h2 : ¬ c → B) : if decide c = true then A else B := by
  by_cases h : c
  · rw [decide_eq_true h]; exact h1 h
  · rw [decide_eq_false h, if_neg Bool.false_ne_true]; exact h2 h
theorem ndec {c A B : Prop} [Decidable c] (h1 : ¬ c → A) (h2 : c → B) : if (!decide c) = true then A else B := by
  by_cases h : c
  · rw [decide_eq_true h]; exact h2 h
  · rw [decide_eq_false h]; exact h1 h
theorem tt_ {A B : Prop} (h : A) : if true = true then A else B := h
theorem ff_ {A B : Prop} (h : B) : if false = true then A else B := iteF h
theorem bool {b : Bool} {A B : Prop} (h1 : b = true → A) (h2 : b = false → B) : if b = true then A else B := by
  cases b with
  | true => exact h1 rfl
  | false => rw [if_neg Bool.false_ne_true]; exact h2 rfl
theorem fm {i m : Int} (m0 : 0 < m) : 0 ≤ i.fmod m ∧ i.fmod m < m := by
  rw [Int.fmod_eq_emod_of_nonneg i (Int.le_of_lt m0)]
  exact ⟨Int.emod_nonneg i (by omega), Int.emod_lt_of_pos i m0⟩
theorem atN {α : Type} {xs : List α} {i : Int} {v : α} (h0 : 0 ≤ i) (h : xs[i.toNat]? = some v) : atI xs i = some v := by
  have e : ((i.toNat : Nat) : Int) = i := Int.toNat_of_nonneg h0
  rw [← e]
  exact atI_nat h
theorem at0 {α : Type} {xs : List α} {v : α} : atI (v :: xs) 0 = some v := atN (Int.le_refl 0) rfl
theorem at_int {ns : List Int} {i : Int} (h0 : 0 ≤ i) (h : i < ((ns.map V.int).length : Int)) : ∃ c, atI (ns.map V.int) i = some (.int c) := by
  rw [List.length_map] at h
  have hk : i.toNat < ns.length := by omega
  exact ⟨ns[i.toNat], atN h0 (by simp [hk])⟩
theorem sz {n : Nat} (h : n ≤ 100000) : n ≤ sizeLine := Nat.le_trans h (by decide)
theorem szl {n : Nat} (h : n < 100000) : n < sizeLine := Nat.lt_of_lt_of_le h (by decide)
end
section
variable {X : Cx}
def rLenK (K : PySem.W.Frag) : List V → Hp → VK → Prop := fun xs H Q => ∃ p ys, xs = [.ref p] ∧ (SqL K H p ys ∨ SqT K H p ys) ∧ Q (.int ys.length) H
theorem callLen : CallR X (.builtin "len") (rLenK X.K) := call_len_seq
def rListK (K : PySem.W.Frag) : List V → Hp → VK → Prop := fun xs H Q => ∃ p ys, xs = [.ref p] ∧ (SqL K H p ys ∨ SqT K H p ys) ∧ ∀ l, H l = none → Q (.ref l) (upd H l (.lst ys))
theorem callList : CallR X (.type "list") (rListK X.K) := call_list_of
def tTru (K : PySem.W.Frag) (ta : TE) : TT := fun σ H Q => ta σ H fun x H' => ∃ k, TruV K x H' k ∧ Q k H'
theorem ptTru {K : PySem.W.Frag} {e : Expr} {ta : TE} (h : X.K = K) (p : PT X e fun σ H Q => ta σ H fun x H' => ∃ k, TruV X.K x H' k ∧ Q k H') : PT X e (tTru K ta) := by
  subst h
  exact p
variable {K : PySem.W.Frag} {σ : L2.St} {H : Hp} {Q : VK} {QB : Bool → Hp → Prop} {p : Addr} {xs : List V} {ta : TE}
theorem lenK (h : SqL K H p xs) (k : Q (.int xs.length) H) : rLenK K [.ref p] H Q := ⟨p, xs, rfl, .inl h, k⟩
theorem lenT (h : SqT K H p xs) (k : Q (.int xs.length) H) : rLenK K [.ref p] H Q := ⟨p, xs, rfl, .inr h, k⟩
theorem listK (h : SqL K H p xs) (k : ∀ l, H l = none → Q (.ref l) (upd H l (.lst xs))) : rListK K [.ref p] H Q := ⟨p, xs, rfl, .inl h, k⟩
theorem tru (k : ta σ H fun x H' => ∃ k, TruV K x H' k ∧ QB k H') : tTru K ta σ H QB := k
theorem truL {R : Bool → Prop} (h : SqL K H p xs) (k : R (!xs.isEmpty)) : ∃ k, TruV K (.ref p) H k ∧ R k := ⟨_, .inl ⟨xs, h, rfl⟩, k⟩
theorem any_ {bs : List Bool} (h : SqL K H p (bs.map V.bl)) (k : Q (.bl (bs.any id)) H) : rAny K [.ref p] H Q := ⟨p, bs, rfl, h, k⟩
theorem all_ {bs : List Bool} (h : SqL K H p (bs.map V.bl)) (k : Q (.bl (bs.all id)) H) : rAll K [.ref p] H Q := ⟨p, bs, rfl, h, k⟩
theorem repr_ {v : V} {d : PyData} (h : Dp K H v d) (h1 : d.showable = true) (h2 : d.hasDict = false) (h3 : d.depth ≤ 60) (h4 : d.shown.length ≤ sizeLine) (k : Q (.str d.shown) H) : rRepr K [v] H Q := ⟨v, d, rfl, h, h1, h2, h3, h4, k⟩
theorem eqD {x y : V} {d e : PyData} (hd : Dp K H x d) (he : Dp K H y e) (h1 : SeqAt.shaped d = true) (h2 : SeqAt.shaped e = true) (k : Q (.bl (PyData.eqv d e)) H) : rEqD K x y H Q := ⟨d, e, hd, he, h1, h2, k⟩
theorem neD {x y : V} {d e : PyData} (hd : Dp K H x d) (he : Dp K H y e) (h1 : SeqAt.shaped d = true) (h2 : SeqAt.shaped e = true) (k : Q (.bl (!PyData.eqv d e)) H) : rNeD K x y H Q := ⟨d, e, hd, he, h1, h2, k⟩
end
end Rd
set_option Elab.async false
set_option linter.all false
set_option maxRecDepth 100000
set_option maxHeartbeats 8000000
open PySem L2 Gk
local macro_rules | `(tactic| walk_at "look") => `(tactic| first
  | assumption
  | exact upd_same
  | exact SqL.of (by assumption)
  | exact SqL.of upd_same)
local macro_rules | `(tactic| walk_at "cond") => `(tactic| first | decide | (show _ ∨ _; right; split <;> decide) | (show _ ∧ _; constructor <;> omega) | (show _ ∨ _; left; constructor <;> omega) | (show _ ∨ _; right; constructor <;> omega) | (show _ ≠ _; omega) | (show _ < _; omega))
local macro_rules | `(tactic| walk_at "rd") => `(tactic| (with_reducible first
  | refine Rd.var rfl ?_ | refine Rd.cst ?_ | refine Rd.op ?_ | refine Rd.un ?_ | refine Rd.i0 ?_ | refine Rd.u1 ?_ | refine Rd.cons ?_ | refine Rd.nil ?_
  | refine Rd.seq ?_ | refine Rd.ifs ?_ | refine Rd.asg ?_ | refine Rd.gname ?_ | refine Rd.gsub ?_ | refine Rd.ret ?_ | refine Rd.retN ?_ | refine Rd.drop ?_ | refine Rd.next ?_
  | refine Rd.test ?_ | refine Rd.tb_ ?_ | refine Rd.not_ ?_ | refine Rd.or_ ?_ | refine Rd.and_ ?_ | refine Rd.orV ?_ | refine Rd.andV ?_ | refine Rd.notV ?_ | refine Rd.tif ?_ | refine Rd.yes ?_
  | refine Rd.cb ?_ | refine Rd.call ?_ | refine Rd.sl ?_ | refine Rd.noPart ?_ | refine Rd.part ?_ | refine Rd.int_ ?_ | refine Rd.bl_ ?_
  | refine Rd.eq rfl ?_ | refine Rd.ne rfl ?_ | refine Rd.lst ?_ | refine Rd.tup ?_ | refine Rd.par ?_ | refine Rd.bm ?_ | refine Rd.bm0 ?_
  | refine Rd.int1 ?_ | refine Rd.intB ?_ | refine Rd.two ?_ | refine Rd.one ?_ | refine Rd.andr ?_ | refine Rd.str_ ?_
  | (refine Rd.ic ?k1 ?_; (case k1 => with_unfolding_all walk_at "cond"))
  | (refine' Rd.ixL ?k1 ?k2 ?_; (case k1 => with_unfolding_all walk_at "look"); (case k2 => with_unfolding_all (first | rfl | exact Rd.at0)))
  | (refine' Rd.setL ?k1 ?k2 ?_; (case k1 => with_unfolding_all walk_at "look"); (case k2 => with_unfolding_all rfl))
  | (refine' Rd.lenL ?k1 ?_; (case k1 => with_unfolding_all walk_at "look"))
  | (refine' Rd.lenK ?k1 ?_; (case k1 => with_unfolding_all walk_at "look"))
  | refine Rd.tru ?_ | (refine' Rd.truL ?k1 ?_; (case k1 => with_unfolding_all walk_at "look"))))
namespace Rd
open PySem.Spec PyProof.Rows
section
variable {K : PySem.W.Frag} {σ : L2.St} {H H' : Hp} {α β : Type}
theorem sNew {p : Addr} {o : HO} (hp : H p = none) : Same H (upd H p o) := fun b u e => by
  rw [upd_ne (ne_of_none e hp)]
  exact e
theorem sMut {p : Addr} {o : HO} (h : Same H H') (hp : H p = none) : Same H (upd H' p o) := fun b u e => by
  rw [upd_ne (ne_of_none e hp)]
  exact h b u e
theorem pair_get {F : α → β → Prop} : ∀ {as : List α} {bs : List β} {i : Nat} {b : β}, Paired F as bs → bs[i]? = some b → ∃ a, as[i]? = some a ∧ F a b
  | _, _, i, b, .nil, h => by simp at h
  | a :: as, c :: bs, 0, b, .cons h hs, e => by
    obtain rfl : c = b := by simpa using e
    exact ⟨a, rfl, h⟩
  | a :: as, c :: bs, i + 1, b, .cons h hs, e => by
    have := pair_get hs (i := i) (b := b) (by simpa using e)
    simpa using this
theorem pair_len {F : α → β → Prop} : ∀ {as : List α} {bs : List β}, Paired F as bs → as.length = bs.length
  | _, _, .nil => rfl
  | _, _, .cons _ t => by simp [pair_len t]
theorem pair_imp {F G : α → β → Prop} (f : ∀ a b, F a b → G a b) : ∀ {as : List α} {bs : List β}, Paired F as bs → Paired G as bs
  | _, _, .nil => .nil
  | _, _, .cons h t => .cons (f _ _ h) (pair_imp f t)
theorem pair_map {f : α → V} : ∀ {as : List α} {ys : List V}, Paired (fun a y => y = f a) as ys → ys = as.map f
  | _, _, .nil => rfl
  | _, _, .cons h t => by rw [h, pair_map t]; rfl
/-- a relation of what is meant to a value in a heap that stays true as the heap grows -/
def Stays (B : β → V → Hp → Prop) : Prop := ∀ b x H H', Same H H' → B b x H → B b x H'
theorem take_succ {xs : List α} {i : Nat} {x : α} (h : xs[i]? = some x) : xs.take (i + 1) = xs.take i ++ [x] := by
  rw [List.take_succ, h]
  rfl
theorem sUpd {D : Addr} {o : HO} (s : Same H H') : Same (upd H D o) (upd H' D o) := fun b u e => by
  by_cases hb : b = D
  · subst hb; rw [upd_same] at e ⊢; exact e
  · rw [upd_ne hb] at e ⊢; exact s b u e
theorem upd_id {D : Addr} {o : HO} (h : H D = some o) : upd H D o = H := by
  funext b
  by_cases hb : b = D
  · subst hb; rw [upd_same, h]
  · rw [upd_ne hb]
/-- what holds of y in the heap behind, whatever the list in the making (which the heap ahead, H, does not know, and H1 does) holds -/
def Off (H H1 H2 : Hp) (B : V → Hp → Prop) (y : V) : Prop := ∀ D o, H D = none → H1 D ≠ none → B y (L2.upd H2 D o)
theorem off_old {H1 H2 : Hp} {B : V → Hp → Prop} {y : V} (hB : ∀ x H H', Same H H' → B x H → B x H') (s : Same H H2) (h : B y H) : Off H H1 H2 B y :=
  fun D o hD _ => hB _ _ _ (sMut s hD) h
theorem off_any {H1 H2 : Hp} {B : V → Prop} {y : V} (h : B y) : Off H H1 H2 (fun y _ => B y) y := fun D o hD _ => h
/-- a comprehension over a list of things -/
theorem lcL {tl te : TE} {tt : TT} {vs : List Nat} {j : Nat} {Q : VK} {a : Addr} {xs : List V} {bs : List α} (A : α → V → Hp → Prop) (B : β → V → Hp → Prop) (f : α → Bool) (g : α → β)
    (htl : ∀ R : V → Hp → Prop, R (.ref a) H → tl σ H R) (hl : SqL K H a xs) (hA : Stays A) (hB : Stays B) (pr : Paired (fun b x => A b x H) bs xs) (hz : xs.length ≤ 10000)
    (hw : ∀ x, wipe ((wipe σ vs).set j (some x)) vs = wipe σ vs)
    (turn : ∀ b x H1 (R : Bool → Hp → Prop), b ∈ bs → A b x H → A b x H1 → Same H H1 → (∀ H2, Same H1 H2 → R (f b) H2) → tt ((wipe σ vs).set j (some x)) H1 R)
    (elem : ∀ b x H1 (R : VK), b ∈ bs → f b = true → A b x H → A b x H1 → Same H H1 → (∀ y H2, Same H1 H2 → Off H H1 H2 (B (g b)) y → R y H2) → te ((wipe σ vs).set j (some x)) H1 R)
    (fin : ∀ D ys H1, H D = none → Same H H1 → H1 D = some (.lst ys) → Paired (fun c y => B c y H1) ((bs.filter f).map g) ys → Q (.ref D) H1) :
    tLc (iList K tl) (gName j) tt te vs σ H Q := by
  have hlen := pair_len pr
  refine htl _ ⟨a, rfl, ⟨xs, hl⟩, fun D hD => ?_⟩
  refine lc_list (K := K) (a := a) (xs := xs) (fun i H1 => ∃ ys, H1 D = some (.lst ys) ∧ ys.length ≤ i ∧ Same H H1 ∧ ∀ o, Paired (fun c y => B c y (upd H1 D o)) (((bs.take i).filter f).map g) ys) ?_ ?_ ?_ ?_
  · exact ⟨[], upd_same, Nat.le_refl _, sNew hD, fun _ => .nil⟩
  · rintro i H1 hi ⟨ys, _, _, s, _⟩
    exact s.seq hl
  · rintro i x H1 hx ⟨ys, hd, hy, s, pq⟩
    have hi : i < xs.length := (List.getElem?_eq_some_iff.mp hx).1
    obtain ⟨b, hb, hab⟩ := pair_get pr hx
    have mem : b ∈ bs := List.mem_of_getElem? hb
    have tk : bs.take (i + 1) = bs.take i ++ [b] := take_succ hb
    show wipe ((wipe σ vs).set j (some x)) vs = wipe σ vs ∧ _
    refine ⟨hw x, turn b x H1 _ mem hab (hA _ _ _ _ s hab) s fun H2 s2 => ?_⟩
    cases hf : f b with
    | false =>
      rw [if_neg Bool.false_ne_true]
      refine ⟨ys, s2 _ _ hd, by omega, s.trans s2, fun o => ?_⟩
      rw [tk, List.filter_append, List.filter_cons_of_neg (by simp [hf]), List.filter_nil, List.append_nil]
      exact pair_imp (fun c y => hB c y _ _ (sUpd s2)) (pq o)
    | true =>
      rw [if_pos rfl]
      refine elem b x H2 _ mem hf hab (hA _ _ _ _ (s.trans s2) hab) (s.trans s2) fun y H3 s3 hy3 => ?_
      have hd3 := s3 _ _ (s2 _ _ hd)
      have s4 : Same H H3 := (s.trans s2).trans s3
      refine ⟨ys, hd3, szl (by omega), ys ++ [y], upd_same, by rw [List.length_append]; simp; omega, sMut s4 hD, fun o => ?_⟩
      rw [tk, List.filter_append, List.filter_cons_of_pos (by simp [hf]), List.filter_nil, List.map_append, upd_upd]
      exact (pair_imp (fun c z h => hB c z _ _ (sUpd (s2.trans s3)) h) (pq o)).snoc (hy3 D o hD (by rw [s2 _ _ hd]; simp))
  · rintro H1 ⟨ys, hd, hy, s, pq⟩
    refine fin D ys H1 hD s hd ?_
    have pq := pq (.lst ys)
    rw [← hlen, List.take_length, upd_id hd] at pq
    exact pq
end
end Rd
namespace M6
/-! ### the merge, in plain Lean -/
section
variable {α : Type} [DecidableEq α]
def okHead (rows : List (List α)) (w : α) : Bool := rows.all fun o => !decide (w ∈ o.tail)
def isHead (rows : List (List α)) (r : List α) : Bool := match r with
  | [] => false
  | w :: _ => okHead rows w
def headOf (rows : List (List α)) : Option α := (rows.find? (isHead rows)).bind List.head?
def without (rows : List (List α)) (w : α) : List (List α) := (rows.map fun r => r.filter fun x => decide (x ≠ w)).filter fun r => !r.isEmpty
def size (rows : List (List α)) : Nat := (rows.map List.length).sum
def mrgF : Nat → List (List α) → List α → Option (List α)
  | 0, _, _ => none
  | n + 1, rows, acc => if rows.isEmpty then some acc else match headOf rows with
    | none => none
    | some w => mrgF n (without rows w) (acc ++ [w])
def full (rows : List (List α)) : List (List α) := rows.filter fun r => !r.isEmpty
def mrg (rows : List (List α)) : Option (List α) := mrgF (size (full rows) + 1) (full rows) []
theorem find_at {p : List α → Bool} : ∀ {rows : List (List α)} {i : Nat} {r : List α}, (∀ x ∈ rows.take i, p x = false) → rows[i]? = some r → p r = true → rows.find? p = some r
  | [], i, r, _, h, _ => by simp at h
  | a :: rows, 0, r, _, h, hp => by
    obtain rfl : a = r := by simpa using h
    rw [List.find?_cons_of_pos hp]
  | a :: rows, i + 1, r, hn, h, hp => by
    rw [List.find?_cons_of_neg (by simp [hn a (by simp)])]
    exact find_at (i := i) (fun x hx => hn x (by rw [List.take_succ_cons]; exact List.mem_cons_of_mem _ hx)) (by simpa using h) hp
theorem find_no {p : List α → Bool} {rows : List (List α)} (h : ∀ x ∈ rows, p x = false) : rows.find? p = none := by
  rw [List.find?_eq_none]
  intro x hx
  simp [h x hx]
theorem head_found {rows : List (List α)} {w : α} (h : headOf rows = some w) : ∃ r ∈ rows, ∃ t, r = w :: t ∧ okHead rows w = true := by
  unfold headOf at h
  cases e : rows.find? (isHead rows) with
  | none => rw [e] at h; cases h
  | some r =>
    rw [e] at h
    have hm := List.mem_of_find?_eq_some e
    have hp := List.find?_some e
    cases r with
    | nil => cases h
    | cons a t =>
      obtain rfl : a = w := by simpa using h
      exact ⟨_, hm, t, rfl, hp⟩
theorem size_cons (r : List α) (rows : List (List α)) : size (r :: rows) = r.length + size rows := by simp [size]
theorem size_filter (rows : List (List α)) : size (rows.filter fun r => !r.isEmpty) = size rows := by
  induction rows with
  | nil => rfl
  | cons a rows ih =>
    cases a with
    | nil => rw [List.filter_cons_of_neg (by simp), ih, size_cons]; simp
    | cons x t => rw [List.filter_cons_of_pos (by simp), size_cons, size_cons, ih]
theorem size_map_le (w : α) : ∀ rows : List (List α), size (rows.map fun r => r.filter fun x => decide (x ≠ w)) ≤ size rows
  | [] => Nat.le_refl _
  | a :: rows => by
    rw [List.map_cons, size_cons, size_cons]
    exact Nat.add_le_add (List.length_filter_le _ _) (size_map_le w rows)
theorem filter_lt {w : α} {t : List α} : ((w :: t).filter fun x => decide (x ≠ w)).length < (w :: t).length := by
  rw [List.filter_cons_of_neg (by simp)]
  exact Nat.lt_succ_of_le (List.length_filter_le _ _)
theorem size_map_lt {w : α} {t : List α} : ∀ {rows : List (List α)}, (w :: t) ∈ rows → size (rows.map fun r => r.filter fun x => decide (x ≠ w)) < size rows
  | [], h => by simp at h
  | a :: rows, h => by
    rw [List.map_cons, size_cons, size_cons]
    rcases List.mem_cons.mp h with e | e
    · subst e
      exact Nat.add_lt_add_of_lt_of_le filter_lt (size_map_le w rows)
    · exact Nat.add_lt_add_of_le_of_lt (List.length_filter_le _ _) (size_map_lt e)
theorem size_without {rows : List (List α)} {w : α} (h : headOf rows = some w) : size (without rows w) < size rows := by
  obtain ⟨r, hr, t, rfl, _⟩ := head_found h
  unfold without
  rw [size_filter]
  exact size_map_lt hr
theorem fuel : ∀ {n : Nat} {rows : List (List α)} {acc : List α}, size rows < n → mrgF n rows acc = mrgF (size rows + 1) rows acc
  | 0, rows, acc, h => by omega
  | n + 1, rows, acc, h => by
    unfold mrgF
    split
    · rfl
    · cases e : headOf rows with
      | none => rfl
      | some w =>
        have lt := size_without e
        show mrgF n _ _ = mrgF (size rows) _ _
        rw [fuel (n := n) (by omega), fuel (n := size rows) lt]
theorem mrg_end (acc : List α) : mrgF (size ([] : List (List α)) + 1) [] acc = some acc := rfl
theorem mrg_no {rows : List (List α)} {acc : List α} (h : rows.isEmpty = false) (e : headOf rows = none) : mrgF (size rows + 1) rows acc = none := by
  unfold mrgF
  rw [h, e]
  rfl
theorem mrg_step {rows : List (List α)} {acc : List α} {w : α} (h : rows.isEmpty = false) (e : headOf rows = some w) : mrgF (size rows + 1) rows acc = mrgF (size (without rows w) + 1) (without rows w) (acc ++ [w]) := by
  rw [← fuel (size_without e)]
  conv => lhs; unfold mrgF
  rw [h, e]
  rfl
theorem without_full (rows : List (List α)) (w : α) : ∀ r ∈ without rows w, r ≠ [] := by
  intro r hr e
  subst e
  simp [without] at hr
theorem full_full (rows : List (List α)) : ∀ r ∈ full rows, r ≠ [] := by
  intro r hr e
  subst e
  simp [full] at hr
end
end M6
namespace Ab
open PySem L2 Gk
def top (i : Nat) : Stmt := PySem.Challenge.pw_answersby_k06_lists_merged.main.body.getD i (.Pass ⟨0, 0, 0, 0⟩)
structure PoolOk (x y : Int) : Prop where
  x0 : 0 ≤ x
  y0 : 0 ≤ y
  y1 : y < 2147483647
def spTake : Sp := fun vs H Q _ => ∃ (p : Addr) (x y m : Int), vs = [.ref p, .int m] ∧ H p = some (.lst [.int x, .int y]) ∧ PoolOk x y ∧ 0 < m ∧ m < 1000 ∧
  ∀ r x' y' : Int, PoolOk x' y' → 0 ≤ r → r < m → Q (.int r) (upd H p (.lst [.int x', .int y']))
structure Txt (K : PySem.W.Frag) (mg : Str → Option Value) : Prop where
  int : mg "int" = none
  len : mg "len" = none
  max : mg "max" = none
  min : mg "min" = none
  any : mg "any" = none
  range : mg "range" = none
  repr : mg "repr" = none
  list : mg "list" = none
  sorted : mg "sorted" = none
section
variable {P : Program} {w : World} {K : PySem.W.Frag} {mg : Str → Option Value} {base : Heap}
abbrev sL_take : Stmt := top 6
abbrev nL_take : List Str := ["_law_pool_here", "_law_many", "_law_found"]
theorem scL_take : FnScope nL_take ["_law_pool_here", "_law_many"] (defScope sL_take) := ⟨rfl, rfl, rfl, by decide +kernel, rfl, by decide +kernel, by decide +kernel⟩
theorem ok_take (T : Txt K mg) (D : DefAt K mg "_law_take" sL_take ["_law_pool_here", "_law_many"]) : CalG P w K mg base 1 "_law_take" spTake := by
  refine D.by scL_take (fun vs H Q E h => ?_) (fun f cd A hg outer s H vs Q E hr h => ?_)
  · obtain ⟨p, x, y, m, rfl, _⟩ := h
    rfl
  · obtain ⟨p, x, y, m, rfl, hp, ok, m0, m1, k⟩ := h
    refine ⟨_, (pss_cons (ps_if (pt_cmpR op_gt (pe_ix ix_list (pv 0) pe_int (fun _ _ => rfl)) pe_int (nomark _))
  (pss_cons (ps_set (i := 2) scL_take.nd rfl (Or.inl rfl) (pe_op op_modN (pe_callTy call_int1 (by rfl) T.int (by decide +kernel) (pa_cons (pe_ix ix_list (pv 0) pe_int (fun _ _ => rfl)) pa_nil)) (pv 1)))
  (pss_cons (ps_asg (pe_op op_fdivN (pe_ix ix_list (pv 0) pe_int (fun _ _ => rfl)) (pv 1)) (pg_sub (pv 0) pe_int set_list))
  (pss_one (ps_ret (pv 2)))))
  pss_nil)
  (pss_cons (ps_asg (pe_op op_modN (pe_callTy call_int1 (by rfl) T.int (by decide +kernel) (pa_cons (pe_op op_add (pe_op op_mul (pe_ix ix_list (pv 0) pe_int (fun _ _ => rfl)) pe_int) pe_int) pa_nil)) pe_int) (pg_sub (pv 0) pe_int set_list))
  (pss_one (ps_ret (pe_op op_modN (pe_op op_fdivN (pe_op op_modN (pe_callTy call_int1 (by rfl) T.int (by decide +kernel) (pa_cons (pe_op op_mul (pe_ix ix_list (pv 0) pe_int (fun _ _ => rfl)) (pe_ix ix_list (pv 0) pe_int (fun _ _ => rfl))) pa_nil)) pe_int) pe_int) (pv 1)))))), ?_⟩
    repeat walk_at "rd"
    refine Rd.dec (fun c => ?_) (fun c => ?_)
    · repeat walk_at "rd"
      have e := Int.fdiv_eq_ediv_of_nonneg x (Int.le_of_lt m0)
      have e' := Int.fmod_eq_emod_of_nonneg x (Int.le_of_lt m0)
      have a := Int.emod_nonneg x (show m ≠ 0 by omega)
      have b := Int.emod_lt_of_pos x m0
      have d := Int.ediv_nonneg (a := x) (b := m) (by omega) (by omega)
      exact k _ _ _ ⟨by omega, ok.y0, ok.y1⟩ (by omega) (by omega)
    · have y0 := ok.y0
      have y1 := ok.y1
      obtain ⟨z0, z1⟩ := Rd.fm (i := y * 48271 + 11) (m := 2147483647) (by decide)
      repeat walk_at "rd"
      obtain ⟨r0, r1⟩ := Rd.fm (i := ((((y * 48271 + 11).fmod 2147483647) * ((y * 48271 + 11).fmod 2147483647)).fmod 2147483629).fdiv 64) m0
      exact k _ _ _ ⟨ok.x0, z0, z1⟩ r0 r1
def spPool (K : PySem.W.Frag) : Sp := fun vs H Q _ => ∃ (a : Addr) (ns : List Int) (k : Int), vs = [.ref a, .int k] ∧ SqL K H a (ns.map V.int) ∧ 0 ≤ k ∧ k < 1000 ∧
  ∀ (p : Addr) (x y : Int), H p = none → PoolOk x y → Q (.ref p) (upd H p (.lst [.int x, .int y]))
abbrev sL_pool : Stmt := top 5
abbrev nL_pool : List Str := ["_law_script", "_law_k", "_law_cell", "_law_size", "_law_seed"]
theorem scL_pool : FnScope nL_pool ["_law_script", "_law_k"] (defScope sL_pool) := ⟨rfl, rfl, rfl, by decide +kernel, rfl, by decide +kernel, by decide +kernel⟩
theorem ok_pool (T : Txt K mg) (D : DefAt K mg "_law_pool" sL_pool ["_law_script", "_law_k"]) : CalG P w K mg base 1 "_law_pool" (spPool K) := by
  refine D.by scL_pool (fun vs H Q E h => ?_) (fun f cd A hg outer s H vs Q E hr h => ?_)
  · obtain ⟨a, ns, k, rfl, _⟩ := h
    rfl
  · obtain ⟨a, ns, k, rfl, hS, k0, k1, q⟩ := h
    refine ⟨_, (pss_cons (ps_set (i := 2) scL_pool.nd rfl (Or.inl rfl) pe_int)
  (pss_cons (ps_if (pt_cmpR op_lt (pv 1) (pe_callB call_len_seq (by rfl) T.len PySem.boot_len (pa_cons (pv 0) pa_nil)) (nomark _))
  (pss_one (ps_set (i := 2) scL_pool.nd rfl (Or.inl rfl) (pe_ix ix_list (pv 0) (pv 1) (fun _ _ => rfl))))
  pss_nil)
  (pss_cons (ps_set (i := 3) scL_pool.nd rfl (Or.inl rfl) (pe_callB (call_max2 rfl) (by rfl) T.max (by decide +kernel) (pa_cons (pv 2) (pa_cons (pe_op op_sub (pe_un un_neg pe_int) (pv 2)) pa_nil))))
  (pss_cons (ps_set (i := 4) scL_pool.nd rfl (Or.inl rfl) (pe_callTy call_int1 (by rfl) T.int (by decide +kernel) (pa_cons (pe_op op_add (pe_op op_add (pe_op op_modN (pe_callTy call_int1 (by rfl) T.int (by decide +kernel) (pa_cons (pv 3) pa_nil)) pe_int) (pe_op op_mul pe_int (pv 1))) pe_int) pa_nil)))
  (pss_one (ps_ret (pe_lst (pa_cons (pe_op op_mul (pv 3) (pe_callTy call_int1 (by rfl) T.int (by decide +kernel) (pa_cons (pe_cmpR op_ge (pv 3) (pe_op op_pow pe_int pe_int) (nomark _)) pa_nil))) (pa_cons (pe_op op_modN (pe_op op_mul (pv 4) pe_int) pe_int) pa_nil))))))))), ?_⟩
    repeat walk_at "rd"
    have fin : ∀ (sz : Int) (k1 : Int), 0 ≤ sz → 0 ≤ k1 → k1 < 1000 → PoolOk (sz * (if decide ((10 : Int) ^ (Int.toNat 18) ≤ sz) = true then 1 else 0)) (((sz.fmod 2147483629 + 7919 * k1 + 104729) * 48271).fmod 2147483647) := by
      intro sz k1 h0 h1 h2
      obtain ⟨y0, y1⟩ := Rd.fm (i := (sz.fmod 2147483629 + 7919 * k1 + 104729) * 48271) (m := 2147483647) (by decide)
      refine ⟨?_, y0, y1⟩
      split
      · omega
      · omega
    refine Rd.dec (fun c => ?_) (fun c => ?_)
    · repeat walk_at "rd"
      obtain ⟨cell, ix⟩ := Rd.at_int k0 c
      refine Rd.ixL hS ix ?_
      have sz0 : 0 ≤ (if (-1 : Int) - cell > cell then -1 - cell else cell) := by split <;> omega
      have fmz := Rd.fm (i := (if (-1 : Int) - cell > cell then -1 - cell else cell)) (m := 2147483629) (by decide)
      repeat walk_at "rd"
      refine ⟨Rd.sz (by simp), fun p hp => ?_⟩
      exact q p _ _ hp (fin _ _ sz0 k0 k1)
    · have sz0 : 0 ≤ (if (-1 : Int) - 0 > 0 then -1 - 0 else (0 : Int)) := by split <;> omega
      have fmz := Rd.fm (i := (if (-1 : Int) - 0 > 0 then -1 - 0 else (0 : Int))) (m := 2147483629) (by decide)
      repeat walk_at "rd"
      refine ⟨Rd.sz (by simp), fun p hp => ?_⟩
      exact q p _ _ hp (fin _ _ sz0 k0 k1)
/-- one of a list's items, by the pool -/
def spOne (K : PySem.W.Frag) : Sp := fun vs H Q _ => ∃ (p l : Addr) (x y : Int) (xs : List V), vs = [.ref p, .ref l] ∧ H p = some (.lst [.int x, .int y]) ∧ SqL K H l xs ∧ (∀ o, SqL K (upd H p o) l xs) ∧ PoolOk x y ∧ 0 < xs.length ∧ xs.length < 1000 ∧
  ∀ (v : V) (x' y' : Int), v ∈ xs → PoolOk x' y' → Q v (upd H p (.lst [.int x', .int y']))
abbrev sL_one : Stmt := top 7
abbrev nL_one : List Str := ["_law_pool_here", "_law_some"]
theorem scL_one : FnScope nL_one ["_law_pool_here", "_law_some"] (defScope sL_one) := ⟨rfl, rfl, rfl, by decide +kernel, rfl, by decide +kernel, by decide +kernel⟩
theorem ok_one (T : Txt K mg) (D : DefAt K mg "_law_one" sL_one ["_law_pool_here", "_law_some"]) (Ctake : CalG P w K mg base 1 "_law_take" spTake) : CalG P w K mg base 2 "_law_one" (spOne K) := by
  refine D.by scL_one (fun vs H Q E h => ?_) (fun f cd A hg outer s H vs Q E hr h => ?_)
  · obtain ⟨a, ns, k, _, _, rfl, _⟩ := h
    rfl
  · obtain ⟨p, l, x, y, xs, rfl, hp, hl, hl2, ok, l0, l1, q⟩ := h
    refine ⟨_, (pss_one (ps_ret (pe_ix ix_list (pv 1) (pe_cG Ctake hg hr (by decide) (pa_cons (pv 0) (pa_cons (pe_callB call_len_seq (by rfl) T.len PySem.boot_len (pa_cons (pv 1) pa_nil)) pa_nil))) (fun _ _ => rfl)))), ?_⟩
    repeat walk_at "rd"
    refine ⟨p, x, y, _, rfl, hp, ok, by omega, by omega, fun r x' y' ok' r0 r1 => ?_⟩
    have hr : r.toNat < xs.length := by omega
    exact Rd.ixL (hl2 _) (Rd.atN r0 (List.getElem?_eq_getElem hr)) (q _ _ _ (List.getElem_mem hr) ok')
end
end Ab
namespace Ab
open M6 PySem.Spec PyProof.Rows
def Strs (K : PySem.W.Frag) (r : List Str) (v : V) (H : Hp) : Prop := ∃ p, v = .ref p ∧ SqL K H p (r.map V.str)
theorem Strs.stays (K : PySem.W.Frag) : Rd.Stays (Strs K) := fun r x H H' s ⟨p, e, h⟩ => ⟨p, e, s.seq h⟩
def RowsAt (K : PySem.W.Frag) (rows : List (List Str)) (a : Addr) (H : Hp) : Prop := ∃ xs, SqL K H a xs ∧ Paired (fun r x => Strs K r x H) rows xs
theorem RowsAt.mono {K : PySem.W.Frag} {rows : List (List Str)} {a : Addr} {H H' : Hp} (s : Same H H') (h : RowsAt K rows a H) : RowsAt K rows a H' :=
  let ⟨xs, h1, h2⟩ := h; ⟨xs, s.seq h1, Rd.pair_imp (fun r x => Strs.stays K r x _ _ s) h2⟩
structure Small (rows : List (List Str)) : Prop where
  n : rows.length ≤ 100
  m : ∀ r ∈ rows, r.length ≤ 100
def optS : Option Str → V
  | none => .non
  | some s => .str s
theorem inV_str (w : Str) (l : List Str) : inV (.str w) (l.map V.str) = decide (w ∈ l) := by
  induction l with
  | nil => rfl
  | cons a l ih =>
    show (eqV (.str a) (.str w) || inV (.str w) (l.map V.str)) = _
    rw [ih]
    show ((a == w) || _) = _
    by_cases e : a = w
    · subst e; simp
    · have e' : ¬ w = a := fun z => e z.symm
      simp [e, e']
theorem flat_strs (l : List Str) : (l.map V.str).all flatV = true := by
  rw [List.all_eq_true]
  intro x hx
  obtain ⟨s, _, rfl⟩ := List.mem_map.mp hx
  rfl
theorem cut1 (l : List V) : cutV l (some 1) none = l.tail := by
  unfold cutV
  cases l with
  | nil => rfl
  | cons a l =>
    have e : HT.sIx (a :: l).length 0 (some 1) = 1 := by
      simp [HT.sIx]
    rw [e]
    show (List.drop 1 (a :: l)).take ((a :: l).length - 1) = l
    simp
/-- new objects (of none that H knows) -/
def NStrs (H : Hp) (r : List Str) (v : V) (H' : Hp) : Prop := ∃ p, v = .ref p ∧ H p = none ∧ H' p = some (.lst (r.map V.str))
theorem NStrs.stays (H0 : Hp) : Rd.Stays (NStrs H0) := fun r x H H' s ⟨p, e, n, h⟩ => ⟨p, e, n, s _ _ h⟩
structure NewRows (H : Hp) (rows : List (List Str)) (p : Addr) (H' : Hp) : Prop where
  new : H p = none
  at_ : ∃ xs, H' p = some (.lst xs) ∧ Paired (fun r x => NStrs H r x H') rows xs
theorem NewRows.rows {K : PySem.W.Frag} {H H' : Hp} {rows : List (List Str)} {p : Addr} (h : NewRows H rows p H') : RowsAt K rows p H' :=
  let ⟨xs, h1, h2⟩ := h.at_; ⟨xs, SqL.of h1, Rd.pair_imp (fun r x ⟨q, e, _, hq⟩ => ⟨q, e, SqL.of hq⟩) h2⟩
def hide (k : Addr) (H : Hp) : Hp := fun b => if b = k then none else H b
theorem hide_at (k : Addr) (H : Hp) : hide k H k = none := if_pos rfl
theorem hide_ne {k b : Addr} (H : Hp) (h : b ≠ k) : hide k H b = H b := if_neg h
theorem hide_same (k : Addr) (H : Hp) : Same (hide k H) H := fun b o e => by
  by_cases h : b = k
  · subst h; rw [hide_at] at e; cases e
  · rw [hide_ne H h] at e; exact e
theorem NewRows.hide {K : PySem.W.Frag} {H H' : Hp} {rows : List (List Str)} {p k : Addr} (h : NewRows H rows p H') (hk : H k ≠ none) : RowsAt K rows p (hide k H') := by
  obtain ⟨xs, h1, h2⟩ := h.at_
  have ne : ∀ b, H b = none → b ≠ k := fun b z e => hk (by rw [← e]; exact z)
  exact ⟨xs, SqL.of (by rw [hide_ne _ (ne _ h.new)]; exact h1), Rd.pair_imp (fun r x ⟨q, e, z, hq⟩ => ⟨q, e, SqL.of (by rw [hide_ne _ (ne _ z)]; exact hq)⟩) h2⟩
theorem small_without {rows : List (List Str)} {w : Str} (s : Small rows) : Small (without rows w) := by
  refine ⟨?_, fun r hr => ?_⟩
  · unfold M6.without
    have := List.length_filter_le (fun r => !r.isEmpty) (rows.map fun r => r.filter fun x => decide (x ≠ w))
    rw [List.length_map] at this
    exact Nat.le_trans this s.n
  · unfold M6.without at hr
    obtain ⟨h1, _⟩ := List.mem_filter.mp hr
    obtain ⟨r0, h0, rfl⟩ := List.mem_map.mp h1
    exact Nat.le_trans (List.length_filter_le _ _) (s.m _ h0)
theorem small_full {rows : List (List Str)} (s : Small rows) : Small (full rows) :=
  ⟨Nat.le_trans (List.length_filter_le _ _) s.n, fun r hr => s.m r (List.mem_filter.mp hr).1⟩
theorem size_le : ∀ {rows : List (List Str)}, (∀ r ∈ rows, r.length ≤ 100) → size rows ≤ rows.length * 100
  | [], _ => Nat.le_refl _
  | a :: rows, h => by
    rw [size_cons, List.length_cons]
    have := size_le (rows := rows) fun r hr => h r (List.mem_cons_of_mem _ hr)
    have := h a List.mem_cons_self
    omega
theorem small_size {rows : List (List Str)} (s : Small rows) : size rows ≤ 10000 := by
  have := size_le s.m
  have := s.n
  omega
section
variable {P : Program} {w : World} {K : PySem.W.Frag} {mg : Str → Option Value} {base : Heap}
abbrev sFree_head : Stmt := top 1
abbrev nFree_head : List Str := ["rows", "row", "other"]
theorem scFree_head : FnScope nFree_head ["rows"] (defScope sFree_head) := ⟨rfl, rfl, rfl, by decide +kernel, rfl, by decide +kernel, by decide +kernel⟩
def spFree (K : PySem.W.Frag) : Sp := fun vs H Q _ => ∃ (a : Addr) (rows : List (List Str)), vs = [.ref a] ∧ RowsAt K rows a H ∧ (∀ r ∈ rows, r ≠ []) ∧ Small rows ∧ ∀ H', Same H H' → Q (optS (headOf rows)) H'
theorem ok_free (T : Txt K mg) (D : DefAt K mg "_free_head" sFree_head ["rows"]) : CalG P w K mg base 1 "_free_head" (spFree K) := by
  refine D.by scFree_head (fun vs H Q E h => ?_) (fun f cd A hg outer s H vs Q E hr h => ?_)
  · obtain ⟨a, ns, rfl, _⟩ := h
    rfl
  · obtain ⟨a, rows, rfl, ⟨xs, hl, hp⟩, ne, sm, q⟩ := h
    refine ⟨_, (pss_cons (ps_for (wi := iList K _) PassesOwn.never rfl (pi_list (pv 0)) (pg_name (i := 1) scFree_head.nd rfl (Or.inr rfl))
  (pss_one (ps_if (pt_not (pt_val (pe_callB (r := rAny K) (cr_any rfl) (by rfl) T.any (by decide +kernel) (pa_cons (pe_lc (wi := iList K _) (own := [("other", 2)]) (g := gName 2) (by rfl) scFree_head.nd (pi_list (pv 0)) (blkOk_by (N := nFree_head) (sc := defScope sFree_head) (by decide +kernel)) (fun _ _ _ _ _ => pg_name (i := 2) scFree_head.nd rfl (Or.inl rfl)) (fun _ _ _ _ _ => pts_nil) (fun _ _ _ _ _ => (pe_cmpR (r := rIn K false) op_in_seq (pe_ix (r := rIxL K) ix_list (pv 1) pe_int (fun _ _ => rfl)) (pe_slice (r := rSlL K) sl_list (pv 2) (po_some pe_int) po_none) (by rfl)))) pa_nil))))
  (pss_one (ps_ret (pe_ix (r := rIxL K) ix_list (pv 1) pe_int (fun _ _ => rfl))))
  pss_nil)))
  (pss_one (ps_ret pe_non))), ?_⟩
    have hlen := Rd.pair_len hp
    refine ⟨_, rfl, a, rfl, ⟨xs, hl⟩, for_list (K := K) (a := a) (xs := xs) (fun i σ H1 => ∃ v, σ = [some (.ref a), v, none] ∧ Same H H1 ∧ ∀ r ∈ rows.take i, isHead rows r = false) ⟨none, rfl, Same.refl _, by simp⟩ (fun i σ H1 _ ⟨_, _, s, _⟩ => s.seq hl) ?_ ?_⟩
    · rintro i x σ H1 hx ⟨v, rfl, s, no⟩
      obtain ⟨r, hr0, p, rfl, hrl⟩ := Rd.pair_get hp hx
      have mem : r ∈ rows := List.mem_of_getElem? hr0
      obtain ⟨w0, t, rfl⟩ : ∃ w0 t, r = w0 :: t := by
        cases r with
        | nil => exact absurd rfl (ne _ mem)
        | cons w0 t => exact ⟨w0, t, rfl⟩
      have hrl1 := s.seq hrl
      repeat walk_at "rd"
      refine Rd.lcL (K := K) (a := a) (xs := xs) (bs := rows) (Strs K) (fun (b : Bool) y _ => y = .bl b) (fun _ => true) (fun o => decide (w0 ∈ o.tail)) (fun R k => Rd.var rfl k) (s.seq hl) (Strs.stays K) (fun _ _ _ _ _ h => h)
        (Rd.pair_imp (fun r x => Strs.stays K r x _ _ s) hp) (by have := sm.n; omega) (fun _ => rfl) (fun b x H2 R _ _ _ s2 k => Rd.yes (k H2 (Same.refl _))) ?_ ?_
      · rintro o x H2 R ho _ _ ⟨po, rfl, hpo⟩ s2 k
        have hrl2 := s2.seq hrl1
        repeat walk_at "rd"
        refine Rd.slL hpo fun q hq => ?_
        refine Rd.inL (xs := cutV (o.map V.str) (some 1) none) (SqL.of upd_same) rfl ?_ (k _ _ (Rd.sNew hq) (Rd.off_any (B := fun y => y = .bl _) ?_))
        · rw [cut1, ← List.map_tail]; exact flat_strs _
        · rw [cut1, ← List.map_tail, inV_str]; rfl
      · intro D ys H2 hD s2 hd pr
        have e : ys = (rows.map fun o => decide (w0 ∈ o.tail)).map V.bl := by
          rw [List.filter_eq_self.mpr (by simp)] at pr
          exact Rd.pair_map pr
        subst e
        repeat walk_at "rd"
        refine Rd.any_ (bs := rows.map fun o => decide (w0 ∈ o.tail)) (SqL.of hd) ?_
        repeat walk_at "rd"
        have ok : okHead rows w0 = !((rows.map fun o => decide (w0 ∈ o.tail)).any id) := by
          unfold okHead
          rw [List.any_map, List.all_eq_not_any_not]
          simp [Function.comp_def]
        have s3 := s.trans s2
        have hrl3 := s2.seq hrl1
        refine Rd.bool (fun c => ?_) (fun c => ?_)
        · repeat walk_at "rd"
          have hh : isHead rows (w0 :: t) = true := by show okHead rows w0 = true; rw [ok]; exact c
          have e : headOf rows = some w0 := by unfold headOf; rw [find_at no hr0 hh]; rfl
          have := q _ s3
          rw [e] at this
          exact this
        · repeat walk_at "rd"
          have hh : isHead rows (w0 :: t) = false := by show okHead rows w0 = false; rw [ok]; exact c
          refine ⟨some (.ref p), rfl, s3, fun r hr => ?_⟩
          rw [Rd.take_succ hr0, List.mem_append] at hr
          rcases hr with hr | hr
          · exact no r hr
          · obtain rfl : r = w0 :: t := by simpa using hr
            exact hh
    · rintro σ H1 ⟨v, rfl, s, no⟩
      repeat walk_at "rd"
      rw [← hlen, List.take_length] at no
      have e : headOf rows = none := by unfold headOf; rw [find_no no]; rfl
      have := q _ s
      rw [e] at this
      exact this
theorem off_strs {H H1 H2 : Hp} {p : Addr} {r : List Str} (h1 : H1 p = none) (h2 : H2 p = some (.lst (r.map V.str))) : Rd.Off H H1 H2 (Strs K r) (.ref p) := fun D o _ hD =>
  ⟨p, rfl, SqL.of (by rw [upd_ne (fun e => hD (by rw [← e]; exact h1))]; exact h2)⟩
theorem off_new {H0 H H1 H2 : Hp} {p : Addr} {r : List Str} (h0 : H0 p = none) (h1 : H1 p = none) (h2 : H2 p = some (.lst (r.map V.str))) : Rd.Off H H1 H2 (NStrs H0 r) (.ref p) := fun D o _ hD =>
  ⟨p, rfl, h0, by rw [upd_ne (fun e => hD (by rw [← e]; exact h1))]; exact h2⟩
theorem ne_str (a b : Str) : (!decide (V.str a = V.str b)) = decide (a ≠ b) := by
  by_cases e : a = b
  · subst e; simp
  · have : ¬ V.str a = V.str b := fun z => e (V.str.inj z)
    simp [e, this]
theorem strs_pair (r : List Str) (H : Hp) : Paired (fun s (x : V) => x = V.str s) r (r.map V.str) := by
  induction r with
  | nil => exact .nil
  | cons a r ih => exact .cons rfl ih
abbrev sWithout : Stmt := top 2
abbrev nWithout : List Str := ["rows", "name", "left", "word", "row", "words"]
theorem scWithout : FnScope nWithout ["rows", "name"] (defScope sWithout) := ⟨rfl, rfl, rfl, by decide +kernel, rfl, by decide +kernel, by decide +kernel⟩
def spWithout (K : PySem.W.Frag) : Sp := fun vs H Q _ => ∃ (a : Addr) (rows : List (List Str)) (w : Str), vs = [.ref a, .str w] ∧ RowsAt K rows a H ∧ Small rows ∧ ∀ p H', Same H H' → NewRows H (without rows w) p H' → Q (.ref p) H'
theorem ok_without (T : Txt K mg) (D : DefAt K mg "_without" sWithout ["rows", "name"]) : CalG P w K mg base 1 "_without" (spWithout K) := by
  refine D.by scWithout (fun vs H Q E h => ?_) (fun f cd A hg outer s H vs Q E hr h => ?_)
  · obtain ⟨a, ns, _, rfl, _⟩ := h
    rfl
  · obtain ⟨a, rows, w0, rfl, ⟨xs, hl, hp⟩, sm, q⟩ := h
    refine ⟨_, (pss_cons (ps_setLc (i := 2) (wi := iList K _) (own := [("row", 4)]) (g := gName 4) (by rfl) scWithout.nd rfl rfl (sw_true rfl rfl rfl (by decide +kernel)) (pi_list (pv 0)) (blkOk_by (N := nWithout) (sc := defScope sWithout) (by decide +kernel)) (fun _ _ _ _ _ => pg_name (i := 4) scWithout.nd rfl (Or.inl rfl)) (fun _ _ _ _ _ => pts_nil) (fun _ _ _ _ _ => (pe_lc (wi := iList K _) (own := [("word", 3)]) (g := gName 3) (by rfl) scWithout.nd (pi_list (pv 4)) (blkOk_by (by kernel_rfl)) (fun _ _ _ _ _ => pg_name (i := 3) scWithout.nd rfl (Or.inl rfl)) (fun _ _ _ _ _ => (pts_one (pt_cmpR op_ne (pv 3) (pv 1) (nomark _)))) (fun _ _ _ _ _ => (pv 3)))))
  (pss_one (ps_ret (pe_lc (wi := iList K _) (own := [("words", 5)]) (g := gName 5) (by rfl) scWithout.nd (pi_list (pv 2)) (blkOk_by (N := nWithout) (sc := defScope sWithout) (by decide +kernel)) (fun _ _ _ _ _ => pg_name (i := 5) scWithout.nd rfl (Or.inl rfl)) (fun _ _ _ _ _ => (pts_one (Rd.ptTru (K := K) rfl (pt_truth (pv 5) (by intro _; rfl))))) (fun _ _ _ _ _ => (pv 5)))))), ?_⟩
    have hlen := Rd.pair_len hp
    repeat walk_at "rd"
    refine Rd.lcL (K := K) (a := a) (xs := xs) (bs := rows) (Strs K) (NStrs H) (fun _ => true) (fun r => r.filter fun x => decide (x ≠ w0)) (fun R k => Rd.var rfl k) hl (Strs.stays K) (NStrs.stays H) hp (by have := sm.n; omega) (fun _ => rfl)
      (fun b x H2 R _ _ _ s2 k => Rd.yes (k H2 (Same.refl _))) ?_ ?_
    · rintro r x H2 R hr _ _ ⟨pr, rfl, hpr⟩ s2 k
      refine Rd.lcL (K := K) (a := pr) (xs := r.map V.str) (bs := r) (fun s x _ => x = V.str s) (fun s x _ => x = V.str s) (fun x => decide (x ≠ w0)) id (fun R k => Rd.var rfl k) hpr (fun _ _ _ _ _ h => h) (fun _ _ _ _ _ h => h)
        (strs_pair r H2) (by rw [List.length_map]; have := sm.m r hr; omega) (fun _ => rfl) ?_ ?_ ?_
      · rintro s x H3 R3 hs rfl _ s3 k3
        repeat walk_at "rd"
        rw [ne_str]
        exact k3 _ (Same.refl _)
      · rintro s x H3 R3 hs _ rfl _ s3 k3
        repeat walk_at "rd"
        exact k3 _ _ (Same.refl _) (Rd.off_any (B := fun y => y = V.str s) rfl)
      · intro D ys H3 hD s3 hd pq
        have e := Rd.pair_map pq
        rw [List.map_id] at e
        subst e
        exact k _ _ s3 (off_new (Same.free s2 hD) hD hd)
    · intro D ys H2 hD s2 hd pr
      rw [List.filter_eq_self.mpr (by simp)] at pr
      repeat walk_at "rd"
      refine Rd.lcL (K := K) (a := D) (xs := ys) (bs := rows.map fun r => r.filter fun x => decide (x ≠ w0)) (NStrs H) (NStrs H) (fun r => !r.isEmpty) id (fun R k => Rd.var rfl k) (SqL.of hd) (NStrs.stays H) (NStrs.stays H) pr
        (by have := Rd.pair_len pr; rw [List.length_map] at this; have := sm.n; omega) (fun _ => rfl) ?_ ?_ ?_
      · rintro r x H3 R3 hs _ ⟨p3, rfl, _, h3⟩ s3 k3
        repeat walk_at "rd"
        have e : (!(r.map V.str).isEmpty) = !r.isEmpty := by cases r <;> rfl
        rw [e]
        exact k3 _ (Same.refl _)
      · rintro r x H3 R3 hs _ h2 h3 s3 k3
        exact Rd.var rfl (k3 _ _ (Same.refl _) (Rd.off_old (NStrs.stays H r) s3 h2))
      · intro D' ys' H3 hD' s3 hd' pr'
        rw [List.map_id] at pr'
        exact q _ _ (s2.trans s3) ⟨Same.free s2 hD', ys', hd', pr'⟩
abbrev sMerged : Stmt := top 3
abbrev nMerged : List Str := ["rows", "left", "row", "taken", "name"]
theorem scMerged : FnScope nMerged ["rows"] (defScope sMerged) := ⟨rfl, rfl, rfl, by decide +kernel, rfl, by decide +kernel, by decide +kernel⟩
def spMerged (K : PySem.W.Frag) : Sp := fun vs H Q _ => ∃ (a : Addr) (rows : List (List Str)), vs = [.ref a] ∧ RowsAt K rows a H ∧ Small rows ∧ (mrg rows = none → ∀ H', Same H H' → Q .non H') ∧
  ∀ l, mrg rows = some l → ∀ p H', H p = none → Same H H' → H' p = some (.lst (l.map V.str)) → Q (.ref p) H'
theorem ok_merged (T : Txt K mg) (D : DefAt K mg "merged" sMerged ["rows"]) (CFree_head : CalG P w K mg base 1 "_free_head" (spFree K)) (CWithout : CalG P w K mg base 1 "_without" (spWithout K)) : CalG P w K mg base 2 "merged" (spMerged K) := by
  refine D.by scMerged (fun vs H Q E h => ?_) (fun f cd A hg outer s H vs Q E hr h => ?_)
  · obtain ⟨a, ns, rfl, _⟩ := h
    rfl
  · obtain ⟨a, rows, rfl, ⟨xs, hl, hp⟩, sm, qn, qs⟩ := h
    refine ⟨_, (pss_cons (ps_setLc (i := 1) (wi := iList K _) (own := [("row", 2)]) (g := gName 2) (by rfl) scMerged.nd rfl rfl (sw_true rfl rfl rfl (by decide +kernel)) (pi_list (pv 0)) (blkOk_by (N := nMerged) (sc := defScope sMerged) (by decide +kernel)) (fun _ _ _ _ _ => pg_name (i := 2) scMerged.nd rfl (Or.inl rfl)) (fun _ _ _ _ _ => (pts_one (Rd.ptTru (K := K) rfl (pt_truth (pv 2) (by intro _; rfl))))) (fun _ _ _ _ _ => (pv 2)))
  (pss_cons (ps_set (i := 3) scMerged.nd rfl (Or.inl rfl) (pe_lst pa_nil))
  (pss_cons (ps_while PassesOwn.never (Rd.ptTru (K := K) rfl (pt_truth (pv 1) (by intro _; rfl)))
  (pss_cons (ps_set (i := 4) scMerged.nd rfl (Or.inl rfl) (pe_cG CFree_head hg hr (by decide) (pa_cons (pv 1) pa_nil)))
  (pss_cons (ps_if (pt_cmpR op_isN (pv 4) pe_non (nomark _))
  (pss_one (ps_ret pe_non))
  pss_nil)
  (pss_cons (ps_expr (pe_bm PySem.F.plainAttrs_list PySem.F.slot_list_append PySem.F.type_list_append mt_append (pv 3) (pa_cons (pv 4) pa_nil)))
  (pss_one (ps_set (i := 1) scMerged.nd rfl (Or.inl rfl) (pe_cG CWithout hg hr (by decide) (pa_cons (pv 1) (pa_cons (pv 4) pa_nil)))))))))
  (pss_one (ps_ret (pv 3)))))), ?_⟩
    have hlen := Rd.pair_len hp
    repeat walk_at "rd"
    refine Rd.lcL (K := K) (a := a) (xs := xs) (bs := rows) (Strs K) (Strs K) (fun r => !r.isEmpty) id (fun R k => Rd.var rfl k) hl (Strs.stays K) (Strs.stays K) hp (by have := sm.n; omega) (fun _ => rfl) ?_ ?_ ?_
    · rintro r x H3 R3 hs _ ⟨p3, rfl, h3⟩ s3 k3
      repeat walk_at "rd"
      have e : (!(r.map V.str).isEmpty) = !r.isEmpty := by cases r <;> rfl
      rw [e]
      exact k3 _ (Same.refl _)
    · rintro r x H3 R3 hs _ h2 h3 s3 k3
      exact Rd.var rfl (k3 _ _ (Same.refl _) (Rd.off_old (Strs.stays K r) s3 h2))
    · intro L ys H1 hL s1 hd pr
      rw [List.map_id] at pr
      repeat walk_at "rd"
      refine ⟨Rd.sz (by simp), fun tk htk => ?_⟩
      repeat walk_at "rd"
      refine ⟨fun m σ H2 => ∃ (L : Addr) (rows' : List (List Str)) (acc : List Str) (v : Option V) (H0 : Hp), σ = [some (.ref a), some (.ref L), none, some (.ref tk), v] ∧ Same H H2 ∧ H0 tk = none ∧ Same H0 H2 ∧ RowsAt K rows' L H0 ∧
        (∀ r ∈ rows', r ≠ []) ∧ Small rows' ∧ H2 tk = some (.lst (acc.map V.str)) ∧ acc.length + size rows' ≤ 10000 ∧ mrg rows = mrgF (size rows' + 1) rows' acc ∧ m = size rows', ⟨_, L, full rows, [], none, H1, rfl, s1.trans (Rd.sNew htk), htk, Rd.sNew htk, ⟨ys, SqL.of hd, pr⟩, full_full rows, small_full sm, upd_same, ?_, rfl, rfl⟩, ?_⟩
      · have := small_size (small_full sm)
        simpa using this
      · rintro m σ H2 ⟨L, rows', acc, v, H0, rfl, s2, h0, s0, hR, ne, sm', ht, hz, hm, rfl⟩
        have hR2 := hR.mono s0
        obtain ⟨zs, hz1, hz2⟩ := id hR2
        have zr : zs.isEmpty = rows'.isEmpty := by
          have := Rd.pair_len hz2
          cases zs <;> cases rows' <;> simp_all
        repeat walk_at "rd"
        rw [zr]
        refine Rd.bool (fun c => ?_) (fun c => ?_)
        · refine ⟨_, fun σ' H' h => h, ?_⟩
          have c' : rows'.isEmpty = false := by simpa using c
          repeat walk_at "rd"
          refine ⟨L, rows', rfl, hR2, ne, sm', fun H3 s3 => ?_⟩
          repeat walk_at "rd"
          cases e : headOf rows' with
          | none =>
            refine Rd.dec (fun _ => ?_) (fun c => absurd rfl c)
            repeat walk_at "rd"
            exact qn (by rw [hm]; exact mrg_no c' e) H3 (s2.trans s3)
          | some w0 =>
            refine Rd.dec (fun c => nomatch c) (fun _ => ?_)
            have ht3 := s3 _ _ ht
            repeat walk_at "rd"
            refine ⟨Rd.ty_list ht3, ?_⟩
            repeat walk_at "rd"
            refine Rd.app ht3 (Rd.szl (by rw [List.length_map]; omega)) ?_
            have s4 : Same H0 (upd H3 tk (.lst ((acc ++ [w0]).map V.str))) := Rd.sMut (s0.trans s3) h0
            have e4 : acc.map V.str ++ [optS (some w0)] = (acc ++ [w0]).map V.str := by rw [List.map_append]; rfl
            rw [e4]
            repeat walk_at "rd"
            refine ⟨L, rows', w0, rfl, hR.mono s4, sm', fun p H5 s5 nr => ?_⟩
            repeat walk_at "rd"
            have lt := size_without e
            refine ⟨size (M6.without rows' w0), lt, p, M6.without rows' w0, acc ++ [w0], some (.str w0), hide tk H5, rfl, ?_, hide_at _ _, hide_same _ _, nr.hide (by rw [upd_same]; simp), without_full _ _, small_without sm', s5 _ _ upd_same, ?_, ?_, rfl⟩
            · exact (Rd.sMut (s2.trans s3) (Same.free s1 htk)).trans s5
            · rw [List.length_append]; simp; omega
            · rw [hm]; exact mrg_step c' e
        · have c' : rows'.isEmpty = true := by simpa using c
          repeat walk_at "rd"
          obtain rfl : rows' = [] := by simpa using c'
          exact qs acc hm tk H2 (Same.free s1 htk) s2 ht
end
end Ab
namespace Rd
open PySem.Spec PyProof.Rows
section
variable {K : PySem.W.Frag} {σ : L2.St} {H H' : Hp} {Q : VK} {D : Ends} {z : Str}
/-! ### comprehensions and loops over ranges -/
def LcGo (J : It) (g : TG) (tt : TT) (te : TE) (vs : List Nat) (σ : L2.St) (Q : VK) (H1 : Hp) : Prop := ∀ D, H1 D = none → ∃ W : Nat → Nat → Hp → Prop, (∃ m, W 0 m (upd H1 D (.lst []))) ∧ ∀ i m H, W i m H →
  (J.stop i H ∧ Q (.ref D) H) ∨ (J.go i H ∧ ∃ Nx : Hp → Prop, (∀ H', Nx H' → ∃ m', m' < m ∧ W (i + 1) m' H') ∧ ∀ x H', J.yld i H x H' → g x (wipe σ vs) H' fun σ2 H2 => wipe σ2 vs = wipe σ vs ∧ tt σ2 H2 fun b H3 =>
    if b = true then te σ2 H3 fun y H4 => ∃ acc, H4 D = some (.lst acc) ∧ acc.length < sizeLine ∧ Nx (upd H4 D (.lst (acc ++ [y]))) else Nx H3)
theorem lcR {ta : TA} {g : TG} {tt : TT} {te : TE} {vs : List Nat} (k : ta σ H fun xs H1 => ∃ j : Int, xs = [.int j] ∧ -(2 ^ 62) ≤ j ∧ j < 2 ^ 62 ∧ LcGo (Itr 0 j.toNat) g tt te vs σ Q H1) : tLc (iRng1 ta) g tt te vs σ H Q := k
theorem rng {i : Int} {R : Prop} (h0 : 0 ≤ i) (h1 : i ≤ 100000) (k : R) : -(2 ^ 62) ≤ i ∧ i < 2 ^ 62 ∧ R := ⟨by omega, by omega, k⟩
/-- no test; each turn adds one thing -/
theorem goR {n j : Nat} {te : TE} {vs : List Nat} (Pv : Addr → Nat → List V → Hp → Prop) (h0 : ∀ D, H D = none → Pv D 0 [] (upd H D (.lst []))) (hw : ∀ x, wipe ((wipe σ vs).set j (some x)) vs = wipe σ vs) (hn : n ≤ 100000)
    (turn : ∀ D i acc H1, H D = none → i < n → acc.length = i → H1 D = some (.lst acc) → Pv D i acc H1 → ∀ R : VK, (∀ y H2, H2 D = some (.lst acc) → Pv D (i + 1) (acc ++ [y]) (upd H2 D (.lst (acc ++ [y]))) → R y H2) → te ((wipe σ vs).set j (some (.int (i : Int)))) H1 R)
    (fin : ∀ D acc H1, H D = none → acc.length = n → H1 D = some (.lst acc) → Pv D n acc H1 → Q (.ref D) H1) : LcGo (Itr 0 n) (gName j) tYes te vs σ Q H := by
  intro D hD
  refine lc_range (lo := 0) (n := n) (fun i H1 => ∃ acc, acc.length = i ∧ H1 D = some (.lst acc) ∧ Pv D i acc H1) ⟨[], rfl, upd_same, h0 D hD⟩ ?_ ?_
  · rintro i H1 hi ⟨acc, ha, hd, p⟩
    have e0 : (0 : Int) + (i : Int) = (i : Int) := Int.zero_add _
    rw [e0]
    refine ⟨hw _, ?_⟩
    refine turn D i acc H1 hD hi ha hd p _ fun y H2 h1 h2 => ?_
    exact ⟨acc, h1, szl (by omega), acc ++ [y], by simp [ha], upd_same, h2⟩
  · rintro H1 ⟨acc, ha, hd, p⟩
    exact fin D acc H1 hD ha hd p
def ForGo (J : It) (g : TG) (tb : TS) (D : Ends) (σ : L2.St) (H1 : Hp) : Prop := ∃ W : Nat → Nat → L2.St → Hp → Prop, (∃ m, W 0 m σ H1) ∧ ∀ i m σ H, W i m σ H →
  (J.stop i H ∧ D.nx σ H) ∨ (J.go i H ∧ ∃ N : L2.St → Hp → Prop, (∀ σ' H', N σ' H' → ∃ m', m' < m ∧ W (i + 1) m' σ' H') ∧ ∀ x H', J.yld i H x H' → g x σ H' fun σ2 H2 => tb { D with nx := N, ct := N, bk := D.nx } σ2 H2)
theorem forR {ta : TA} {g : TG} {tb : TS} (k : ta σ H fun xs H1 => ∃ j : Int, xs = [.int j] ∧ -(2 ^ 62) ≤ j ∧ j < 2 ^ 62 ∧ ForGo (Itr 0 j.toNat) g tb D σ H1) : tFor (iRng1 ta) g tb D σ H := k
theorem forGo {n j : Nat} {tb : TS} (Pv : Nat → L2.St → Hp → Prop) (h0 : Pv 0 σ H)
    (turn : ∀ i σ1 H1, i < n → Pv i σ1 H1 → tb { D with nx := Pv (i + 1), ct := Pv (i + 1), bk := D.nx } (σ1.set j (some (.int (i : Int)))) H1) (fin : ∀ σ1 H1, Pv n σ1 H1 → D.nx σ1 H1) : ForGo (Itr 0 n) (gName j) tb D σ H :=
  for_range (lo := 0) (n := n) Pv h0 (fun i σ1 H1 hi p => by
    show tb _ (σ1.set j (some (.int (0 + (i : Int))))) H1
    rw [Int.zero_add]
    exact turn i σ1 H1 hi p) fin
theorem adds {a b : Str} {R : Str → Str → Prop} (h : a.length + b.length ≤ 100000) (k : R a b) : ∃ i j, V.str a = .str i ∧ V.str b = .str j ∧ i.length + j.length ≤ sizeLine ∧ R i j := ⟨a, b, rfl, rfl, sz h, k⟩
theorem gtup {n : Nat} {t : TGs} {a : Addr} {xs : List V} {QS : L2.St → Hp → Prop} (h : SqT K H a xs) (hl : xs.length = n) (k : t xs σ H QS) : gTup K n t (.ref a) σ H QS := ⟨a, xs, rfl, h, hl, k⟩
theorem gcons {v : V} {r : List V} {t : TG} {u : TGs} {QS : L2.St → Hp → Prop} (k : t v σ H fun σ' H' => u r σ' H' QS) : gCons t u (v :: r) σ H QS := ⟨v, r, rfl, k⟩
theorem gnil {QS : L2.St → Hp → Prop} (k : QS σ H) : gNil [] σ H QS := ⟨rfl, k⟩
theorem cut {t u : TS} (Mid : L2.St → Hp → Prop) (h1 : t { D with nx := Mid } σ H) (h2 : ∀ σ' H', Mid σ' H' → u D σ' H') : C8.tCut t u D σ H := ⟨Mid, h1, h2⟩
/-- a method of a text -/
theorem m1 {r : V → List V → Hp → VK → Prop} {to te : TE} (k : to σ H fun x H1 => (∃ a, x = .str a) ∧ te σ H1 fun y H2 => r x [y] H2 Q) : tM1 r to te σ H Q := k
theorem isStr {R : Prop} (k : R) : (∃ a, V.str z = .str a) ∧ R := ⟨⟨z, rfl⟩, k⟩
end
end Rd
namespace W6
open L2 TL
/-! ### texts with a bound -/
structure W (n : Nat) (w : Str) : Prop where
  len : w.length ≤ n
  low : ∀ c ∈ tl w, c < 1000
theorem tl_len (w : Str) : (tl w).length = w.length := by show w.cps.toList.length = w.cps.size; simp
theorem W.app {n m : Nat} {a b : Str} (ha : W n a) (hb : W m b) : W (n + m) (a ++ b) := by
  have e : tl (a ++ b) = tl a ++ tl b := by show (a.cps ++ b.cps).toList = _; simp
  refine ⟨?_, fun c hc => ?_⟩
  · rw [← tl_len, e, List.length_append, tl_len, tl_len]
    exact Nat.add_le_add ha.len hb.len
  · rw [e, List.mem_append] at hc
    exact hc.elim (ha.low c) (hb.low c)
theorem W.cut {n : Nat} {a : Str} (ha : W n a) (lo hi : Option Int) : W n (cutS a lo hi) :=
  ⟨Nat.le_trans (cutS_length a lo hi) ha.len, fun c hc => ha.low c (by
    have hc : c ∈ ((a.cps.toList.drop (HT.sIx a.length 0 lo)).take (HT.sIx a.length a.length hi - HT.sIx a.length 0 lo)) := by simpa [cutS] using hc
    exact List.mem_of_mem_drop (List.mem_of_mem_take hc))⟩
theorem joinL_nil : ∀ ps : List (List Nat), joinL [] ps = ps.flatten
  | [] => rfl
  | [p] => by simp [joinL]
  | p :: q :: r => by rw [joinL, joinL_nil (q :: r)]; simp
theorem W.join {cs : List Str} (h : ∀ c ∈ cs, W 1 c) : W cs.length (Txt.join "" cs) := by
  have e : tl (Txt.join "" cs) = (cs.map tl).flatten := by
    rw [join_eq, tl_join]
    exact joinL_nil _
  refine ⟨?_, fun c hc => ?_⟩
  · rw [← tl_len, e]
    clear e
    induction cs with
    | nil => simp
    | cons a cs ih =>
      rw [List.map_cons, List.flatten_cons, List.length_append, List.length_cons, tl_len]
      have := ih fun c hc => h c (List.mem_cons_of_mem _ hc)
      have := (h a List.mem_cons_self).len
      omega
  · rw [e, List.mem_flatten] at hc
    obtain ⟨l, hl, hc⟩ := hc
    obtain ⟨s, hs, rfl⟩ := List.mem_map.mp hl
    exact (h s hs).low c hc
theorem W.mono {n m : Nat} {a : Str} (h : W n a) (l : n ≤ m) : W m a := ⟨Nat.le_trans h.len l, h.low⟩
theorem W.sum {cs : List Str} (h : ∀ c ∈ cs, W 1 c) : (cs.map (·.length)).sum ≤ cs.length := by
  induction cs with
  | nil => exact Nat.le_refl _
  | cons a cs ih =>
    rw [List.map_cons, List.sum_cons, List.length_cons]
    have := ih fun c hc => h c (List.mem_cons_of_mem _ hc)
    have := (h a List.mem_cons_self).len
    omega
theorem W.sign {n : Nat} {z : Str} {i : Int} (h : W n z) (h0 : 0 ≤ i) (h1 : i < (z.length : Int)) : ∃ c, atI z.cps.toList i = some c ∧ W 1 ⟨#[c]⟩ := by
  have l : i.toNat < z.cps.toList.length := by
    have e : z.cps.toList.length = z.length := tl_len z
    omega
  refine ⟨z.cps.toList[i.toNat], Rd.atN h0 (List.getElem?_eq_getElem l), Nat.le_refl _, fun c hc => ?_⟩
  have e : c = z.cps.toList[i.toNat] := by simpa using hc
  rw [e]
  exact h.low _ (List.getElem_mem l)
end W6
local macro_rules | `(tactic| walk_at "look") => `(tactic| first
  | assumption
  | exact upd_same
  | exact SqL.of (by assumption)
  | exact SqL.of upd_same)
local macro_rules | `(tactic| walk_at "cond") => `(tactic| first | decide | (show _ ∨ _; right; split <;> decide) | (show _ ∧ _; constructor <;> omega) | (show _ ∨ _; left; constructor <;> omega) | (show _ ∨ _; right; constructor <;> omega) | (show _ ≠ _; omega) | (show _ < _; omega))
local macro_rules | `(tactic| walk_at "rd") => `(tactic| (with_reducible first
  | refine Rd.var rfl ?_ | refine Rd.cst ?_ | refine Rd.op ?_ | refine Rd.un ?_ | refine Rd.i0 ?_ | refine Rd.u1 ?_ | refine Rd.cons ?_ | refine Rd.nil ?_
  | refine Rd.seq ?_ | refine Rd.ifs ?_ | refine Rd.asg ?_ | refine Rd.gname ?_ | refine Rd.gsub ?_ | refine Rd.ret ?_ | refine Rd.retN ?_ | refine Rd.drop ?_ | refine Rd.next ?_
  | refine Rd.test ?_ | refine Rd.tb_ ?_ | refine Rd.not_ ?_ | refine Rd.or_ ?_ | refine Rd.and_ ?_ | refine Rd.orV ?_ | refine Rd.andV ?_ | refine Rd.notV ?_ | refine Rd.tif ?_ | refine Rd.yes ?_
  | refine Rd.cb ?_ | refine Rd.call ?_ | refine Rd.sl ?_ | refine Rd.noPart ?_ | refine Rd.part ?_ | refine Rd.int_ ?_ | refine Rd.bl_ ?_
  | refine Rd.eq rfl ?_ | refine Rd.ne rfl ?_ | refine Rd.lst ?_ | refine Rd.tup ?_ | refine Rd.par ?_ | refine Rd.bm ?_ | refine Rd.bm0 ?_ | refine Rd.m1 ?_ | refine Rd.isStr ?_ | refine Rd.lcR ?_ | refine Rd.forR ?_ | refine Rd.gcons ?_ | refine Rd.gnil ?_
  | refine Rd.int1 ?_ | refine Rd.intB ?_ | refine Rd.two ?_ | refine Rd.one ?_ | refine Rd.andr ?_ | refine Rd.str_ ?_
  | (refine Rd.ic ?k1 ?_; (case k1 => with_unfolding_all walk_at "cond"))
  | (refine' Rd.ixL ?k1 ?k2 ?_; (case k1 => with_unfolding_all walk_at "look"); (case k2 => with_unfolding_all (first | rfl | exact Rd.at0)))
  | (refine' Rd.setL ?k1 ?k2 ?_; (case k1 => with_unfolding_all walk_at "look"); (case k2 => with_unfolding_all rfl))
  | (refine' Rd.lenL ?k1 ?_; (case k1 => with_unfolding_all walk_at "look"))
  | (refine' Rd.lenK ?k1 ?_; (case k1 => with_unfolding_all walk_at "look"))
  | refine Rd.tru ?_ | (refine' Rd.truL ?k1 ?_; (case k1 => with_unfolding_all walk_at "look"))))

namespace Ab
open M6 W6 PySem.Spec PyProof.Rows
/-- all but the pool as it was -/
def Keep (p : Addr) (H H' : Hp) : Prop := ∀ b o, b ≠ p → H b = some o → H' b = some o
theorem Keep.refl (p : Addr) (H : Hp) : Keep p H H := fun _ _ _ e => e
theorem Keep.trans {p : Addr} {H H1 H2 : Hp} (a : Keep p H H1) (b : Keep p H1 H2) : Keep p H H2 := fun c o n e => b c o n (a c o n e)
theorem Same.keep {H H' : Hp} (s : Same H H') (p : Addr) : Keep p H H' := fun b o _ e => s b o e
theorem Keep.put {p : Addr} {H H1 : Hp} {o : HO} (a : Keep p H H1) : Keep p H (upd H1 p o) := fun b u n e => by rw [upd_ne n]; exact a b u n e
theorem Keep.new {p q : Addr} {H H1 : Hp} {o : HO} (a : Keep p H H1) (hq : H q = none) : Keep p H (upd H1 q o) := fun b u n e => by rw [upd_ne (ne_of_none e hq)]; exact a b u n e
theorem Keep.free {p q : Addr} {H H1 : Hp} (a : Keep p H H1) (hq : H1 q = none) (hp : q ≠ p) : H q = none := by
  cases e : H q with
  | none => rfl
  | some o => rw [a q o hp e] at hq; cases hq
section
variable {P : Program} {w : World} {K : PySem.W.Frag} {mg : Str → Option Value} {base : Heap}
abbrev sL_words : Stmt := top 8
abbrev nL_words : List Str := ["_law_pool_here", "_law_many", "_law_found", "_law_k", "_law_body", "_law_turn", "_law_at"]
theorem scL_words : FnScope nL_words ["_law_pool_here", "_law_many"] (defScope sL_words) := ⟨rfl, rfl, rfl, by decide +kernel, rfl, by decide +kernel, by decide +kernel⟩
def spWords : Sp := fun vs H Q _ => ∃ (p : Addr) (x y : Int), vs = [.ref p, .int 5] ∧ H p = some (.lst [.int x, .int y]) ∧ PoolOk x y ∧
  ∀ (l : Addr) (ws : List Str) (x' y' : Int) (H' : Hp), H l = none → H' l = some (.lst (ws.map V.str)) → ws.length = 5 → (∀ w ∈ ws, W 7 w) → PoolOk x' y' → H' p = some (.lst [.int x', .int y']) → Keep p H H' → Q (.ref l) H'
theorem w_abc : W 3 "abc" := ⟨by decide +kernel, by decide +kernel⟩
theorem w_uvw : W 8 "uvwxyzst" := ⟨by decide +kernel, by decide +kernel⟩
theorem ok_words (T : Txt K mg) (D : DefAt K mg "_law_words" sL_words ["_law_pool_here", "_law_many"]) (CL_take : CalG P w K mg base 1 "_law_take" spTake) : CalG P w K mg base 2 "_law_words" spWords := by
  refine D.by scL_words (fun vs H Q E h => ?_) (fun f cd A hg outer s H vs Q E hr h => ?_)
  · obtain ⟨a, x, y, rfl, _⟩ := h
    rfl
  · obtain ⟨p, x, y, rfl, hp, ok, q⟩ := h
    refine ⟨_, (pss_cons (ps_set (i := 2) scL_words.nd rfl (Or.inl rfl) (pe_lst pa_nil))
  (pss_cons (ps_for PassesOwn.never rfl (pi_range1 (by rfl) T.range (pa_cons (pv 1) pa_nil)) (pg_name (i := 3) scL_words.nd rfl (Or.inl rfl))
  (pss_cons (ps_set (i := 4) scL_words.nd rfl (Or.inl rfl) (pe_join pe_str (pe_lc (own := [("_law_turn", 5)]) (g := gName 5) (by rfl) scL_words.nd (pi_range1 (by rfl) T.range (pa_cons (pe_cG CL_take hg hr (by decide) (pa_cons (pv 0) (pa_cons pe_int pa_nil))) pa_nil)) (blkOk_by (N := nL_words) (sc := defScope sL_words) (by decide +kernel)) (fun _ _ _ _ _ => pg_name (i := 5) scL_words.nd rfl (Or.inl rfl)) (fun _ _ _ _ _ => pts_nil) (fun _ _ _ _ _ => (pe_ix (r := rIxS) ix_str pe_str (pe_cG CL_take hg hr (by decide) (pa_cons (pv 0) (pa_cons pe_int pa_nil))) (fun _ _ => rfl))))))
  (pss_cons (ps_set (i := 6) scL_words.nd rfl (Or.inl rfl) (pe_cG CL_take hg hr (by decide) (pa_cons (pv 0) (pa_cons (pe_op op_add (pe_callB call_len_str (by rfl) T.len PySem.boot_len (pa_cons (pv 4) pa_nil)) pe_int) pa_nil))))
  (pss_one (ps_expr (pe_bm PySem.F.plainAttrs_list PySem.F.slot_list_append PySem.F.type_list_append mt_append (pv 2) (pa_cons (pe_op op_add_str (pe_op op_add_str (pe_slice (r := rSlS) sl_str (pv 4) po_none (po_some (pv 6))) (pe_ix (r := rIxS) ix_str pe_str (pv 3) (fun _ _ => rfl))) (pe_slice (r := rSlS) sl_str (pv 4) (po_some (pv 6)) po_none)) pa_nil)))))))
  (pss_one (ps_ret (pv 2))))), ?_⟩
    repeat walk_at "rd"
    refine ⟨Rd.sz (by simp), fun L hL => ?_⟩
    have npL : p ≠ L := ne_of_none hp hL
    repeat walk_at "rd"
    refine Rd.rng (by decide) (by decide) ?_
    refine Rd.forGo (fun i σ H1 => ∃ (v3 v4 v6 : Option V) (ws : List Str) (x y : Int), σ = [some (.ref p), some (.int 5), some (.ref L), v3, v4, none, v6] ∧ H1 L = some (.lst (ws.map V.str)) ∧ ws.length = i ∧ (∀ w ∈ ws, W 7 w) ∧ PoolOk x y ∧
      H1 p = some (.lst [.int x, .int y]) ∧ Keep p H H1) ⟨none, none, none, [], x, y, rfl, upd_same, rfl, by simp, ok, by rw [upd_ne npL]; exact hp, (Keep.refl p H).new hL⟩ ?_ ?_
    · rintro i σ H1 hi ⟨v3, v4, v6, ws, x, y, rfl, hl, hn, hw, ok, hp1, kp⟩
      repeat walk_at "rd"
      refine ⟨p, x, y, 4, rfl, hp1, ok, by decide, by decide, fun r x2 y2 ok2 r0 r1 => ?_⟩
      repeat walk_at "rd"
      refine Rd.rng r0 (by omega) ?_
      refine Rd.goR (fun D i acc H2 => ∃ (cs : List Str) (x y : Int), acc = cs.map V.str ∧ (∀ c ∈ cs, W 1 c) ∧ PoolOk x y ∧ H2 p = some (.lst [.int x, .int y]) ∧ Keep p H H2 ∧ H2 L = some (.lst (ws.map V.str)) ∧ p ≠ D ∧ H D = none)
        ?_ (fun _ => rfl) (by omega) ?_ ?_
      · intro D hD
        have npD : p ≠ D := fun e => by rw [← e, upd_same] at hD; cases hD
        have hD1 : H1 D = none := by rw [upd_ne npD.symm] at hD; exact hD
        have hDH : H D = none := kp.free hD1 npD.symm
        have nLD : L ≠ D := ne_of_none hl hD1
        exact ⟨[], x2, y2, rfl, by simp, ok2, by rw [upd_ne npD, upd_same], kp.put.new hDH, by rw [upd_ne nLD, upd_ne npL.symm]; exact hl, npD, hDH⟩
      · rintro D j acc H2 hD0 hj ha hd ⟨cs, x3, y3, rfl, hc, ok3, hp3, kp3, hl3, npD, hDH⟩ R k
        repeat walk_at "rd"
        refine ⟨p, x3, y3, 3, rfl, hp3, ok3, by decide, by decide, fun r x4 y4 ok4 r0 r1 => ?_⟩
        obtain ⟨c, hc1, wc⟩ := w_abc.sign r0 r1
        refine Rd.ixS (by decide +kernel) hc1 (k _ _ ?_ ?_)
        · rw [upd_ne npD.symm]; exact hd
        · refine ⟨cs ++ [⟨#[c]⟩], x4, y4, by rw [List.map_append]; rfl, ?_, ok4, by rw [upd_ne npD, upd_same], kp3.put.new hDH, ?_, npD, hDH⟩
          · intro z hz
            rw [List.mem_append] at hz
            rcases hz with hz | hz
            · exact hc z hz
            · obtain rfl : z = ⟨#[c]⟩ := by simpa using hz
              exact wc
          · have nLD : L ≠ D := ne_of_none hl (by rw [upd_ne npD.symm] at hD0; exact hD0)
            rw [upd_ne nLD, upd_ne npL.symm]; exact hl3
      · rintro D acc H2 hD0 ha hd ⟨cs, x3, y3, rfl, hc, ok3, hp3, kp3, hl3, npD, hDH⟩
        have wj := W.join hc
        have sj := W.sum hc
        rw [List.length_map] at ha
        refine ⟨"", D, cs, rfl, rfl, .inl (SqL.of hd), ?_, ?_⟩
        · have e0 : Str.length "" = 0 := by decide +kernel
          rw [e0]
          omega
        generalize Txt.join "" cs = body at wj
        have wl := wj.len
        repeat walk_at "rd"
        refine Rd.lenS (Rd.sz (by omega)) ?_
        repeat walk_at "rd"
        refine ⟨p, x3, y3, _, rfl, hp3, ok3, by omega, by omega, fun a x5 y5 ok5 a0 a1 => ?_⟩
        repeat walk_at "rd"
        have hl4 : upd H2 p (.lst [.int x5, .int y5]) L = some (.lst (ws.map V.str)) := by rw [upd_ne npL.symm]; exact hl3
        refine ⟨Rd.ty_list hl4, ?_⟩
        repeat walk_at "rd"
        have c3 : cs.length ≤ 3 := by omega
        have w1 := (wj.mono c3).cut none (some a)
        have w3 := (wj.mono c3).cut (some a) none
        refine Rd.slS (Rd.sz (by omega)) ?_
        repeat walk_at "rd"
        have i5 : i < 5 := hi
        have e8 : Str.length "uvwxyzst" = 8 := by decide +kernel
        obtain ⟨c, hc1, w2⟩ := w_uvw.sign (i := (i : Int)) (by omega) (by rw [e8]; omega)
        refine Rd.ixS (by decide +kernel) hc1 ?_
        have w4 := w1.app w2
        refine Rd.adds (by have := w1.len; have := w2.len; omega) ?_
        repeat walk_at "rd"
        refine Rd.slS (Rd.sz (by omega)) ?_
        repeat walk_at "rd"
        refine Rd.adds (by have := w4.len; have := w3.len; omega) ?_
        have w5 := w4.app w3
        repeat walk_at "rd"
        refine Rd.app hl4 (Rd.szl (by rw [List.length_map]; omega)) ?_
        repeat walk_at "rd"
        refine ⟨_, _, _, ws ++ [cutS body none (some a) ++ ⟨#[c]⟩ ++ cutS body (some a) none], x5, y5, rfl, ?_, by rw [List.length_append, hn]; rfl, ?_, ok5, by rw [upd_ne npL, upd_same], kp3.put.new hL⟩
        · rw [List.map_append]
          exact upd_same
        · intro z hz
          rw [List.mem_append] at hz
          rcases hz with hz | hz
          · exact hw z hz
          · rw [List.mem_singleton] at hz
            subst hz
            exact w5
    · rintro σ H1 ⟨v3, v4, v6, ws, x, y, rfl, hl, hn, hw, ok, hp1, kp⟩
      repeat walk_at "rd"
      exact q L ws x y H1 hL hl hn hw ok hp1 kp
end
end Ab
namespace Ab
open M6 W6 PySem.Spec PyProof.Rows
theorem NStrs.put {B H : Hp} {r : List Str} {v : V} {k : Addr} {o : HO} (h : NStrs B r v H) (hk : B k ≠ none) : NStrs B r v (upd H k o) :=
  let ⟨q, e, n, hq⟩ := h; ⟨q, e, n, by rw [upd_ne (fun z => hk (by rw [← z]; exact n))]; exact hq⟩
/-- all but p and R as it was -/
def Keep2 (p R : Addr) (H H' : Hp) : Prop := ∀ b o, b ≠ p → b ≠ R → H b = some o → H' b = some o
theorem Keep2.put {p R : Addr} {H H1 : Hp} {o : HO} (a : Keep2 p R H H1) : Keep2 p R H (upd H1 p o) := fun b u n m e => by rw [upd_ne n]; exact a b u n m e
theorem Keep2.put2 {p R : Addr} {H H1 : Hp} {o : HO} (a : Keep2 p R H H1) : Keep2 p R H (upd H1 R o) := fun b u n m e => by rw [upd_ne m]; exact a b u n m e
structure RowsOk (rows : List (List Str)) : Prop where
  n : rows.length ≤ 4
  m : ∀ r ∈ rows, r.length ≤ 5
  w : ∀ r ∈ rows, ∀ w ∈ r, W 7 w
section
variable {P : Program} {w : World} {K : PySem.W.Frag} {mg : Str → Option Value} {base : Heap}
abbrev sL_rows : Stmt := top 10
abbrev nL_rows : List Str := ["_law_pool_here", "_law_words_here", "_law_found", "_law_turn", "_law_row", "_law_more", "_law_word"]
theorem scL_rows : FnScope nL_rows ["_law_pool_here"] (defScope sL_rows) := ⟨rfl, rfl, rfl, by decide +kernel, rfl, by decide +kernel, by decide +kernel⟩
def spRows : Sp := fun vs H Q _ => ∃ (p : Addr) (x y : Int), vs = [.ref p] ∧ H p = some (.lst [.int x, .int y]) ∧ PoolOk x y ∧
  ∀ (l : Addr) (rows : List (List Str)) (x' y' : Int) (H' : Hp), NewRows H rows l H' → RowsOk rows → PoolOk x' y' → H' p = some (.lst [.int x', .int y']) → Keep p H H' → Q (.ref l) H'
theorem ok_rows (T : Txt K mg) (D : DefAt K mg "_law_rows" sL_rows ["_law_pool_here"]) (CL_take : CalG P w K mg base 1 "_law_take" spTake) (CL_one : CalG P w K mg base 2 "_law_one" (spOne K)) (CL_words : CalG P w K mg base 2 "_law_words" spWords) :
    CalG P w K mg base 3 "_law_rows" spRows := by
  refine D.by scL_rows (fun vs H Q E h => ?_) (fun f cd A hg outer s H vs Q E hr h => ?_)
  · obtain ⟨a, x, y, rfl, _⟩ := h
    rfl
  · obtain ⟨p, x, y, rfl, hp, ok, q⟩ := h
    refine ⟨_, (pss_cons (ps_set (i := 1) scL_rows.nd rfl (Or.inl rfl) (pe_cG CL_words hg hr (by decide) (pa_cons (pv 0) (pa_cons pe_int pa_nil))))
  (pss_cons (ps_set (i := 2) scL_rows.nd rfl (Or.inl rfl) (pe_lst pa_nil))
  (pss_cons (ps_for PassesOwn.never rfl (pi_range1 (by rfl) T.range (pa_cons (pe_cG CL_take hg hr (by decide) (pa_cons (pv 0) (pa_cons pe_int pa_nil))) pa_nil)) (pg_name (i := 3) scL_rows.nd rfl (Or.inl rfl))
  (pss_cons (ps_set (i := 4) scL_rows.nd rfl (Or.inl rfl) (pe_lst pa_nil))
  (pss_cons (ps_for PassesOwn.never rfl (pi_range1 (by rfl) T.range (pa_cons (pe_cG CL_take hg hr (by decide) (pa_cons (pv 0) (pa_cons pe_int pa_nil))) pa_nil)) (pg_name (i := 5) scL_rows.nd rfl (Or.inl rfl))
  (pss_cons (ps_set (i := 6) scL_rows.nd rfl (Or.inl rfl) (pe_cG CL_one hg hr (by decide) (pa_cons (pv 0) (pa_cons (pv 1) pa_nil))))
  (pss_one (ps_if (PW.pt (pw_or (pt_cmpR (r := rIn K true) op_notIn_seq (pv 6) (pv 4) (by rfl)) (pw_or1 (pt_cmpR op_eq (pe_cG CL_take hg hr (by decide) (pa_cons (pv 0) (pa_cons pe_int pa_nil))) pe_int (nomark _)))))
  (pss_one (ps_expr (pe_bm PySem.F.plainAttrs_list PySem.F.slot_list_append PySem.F.type_list_append mt_append (pv 4) (pa_cons (pv 6) pa_nil))))
  pss_nil))))
  (pss_one (ps_expr (pe_bm PySem.F.plainAttrs_list PySem.F.slot_list_append PySem.F.type_list_append mt_append (pv 2) (pa_cons (pv 4) pa_nil)))))))
  (pss_one (ps_ret (pv 2)))))), ?_⟩
    repeat walk_at "rd"
    refine ⟨p, x, y, rfl, hp, ok, fun Lw ws x1 y1 H1 hLw hw wn wok ok1 hp1 kp1 => ?_⟩
    have npL : Lw ≠ p := fun e => by rw [e, hp] at hLw; cases hLw
    repeat walk_at "rd"
    refine ⟨Rd.sz (by simp), fun F hF => ?_⟩
    have npF : p ≠ F := ne_of_none hp1 hF
    have nLF : Lw ≠ F := ne_of_none hw hF
    repeat walk_at "rd"
    refine ⟨p, x1, y1, 5, rfl, by rw [upd_ne npF]; exact hp1, ok1, by decide, by decide, fun r x2 y2 ok2 r0 r1 => ?_⟩
    repeat walk_at "rd"
    refine Rd.rng r0 (by omega) ?_
    obtain ⟨B, hB⟩ : ∃ B, B = upd H1 F (.lst []) := ⟨_, rfl⟩
    rw [← hB]
    have bF : B F ≠ none := by rw [hB, upd_same]; simp
    have bp : B p ≠ none := by rw [hB, upd_ne npF, hp1]; simp
    have back : ∀ b, B b = none → H b = none := fun b hb => by
      have h1 : b ≠ F := fun e => bF (by rw [← e]; exact hb)
      have h2 : b ≠ p := fun e => bp (by rw [← e]; exact hb)
      rw [hB, upd_ne h1] at hb
      exact kp1.free hb h2
    refine Rd.forGo (fun i σ H2 => ∃ (v3 v4 v5 v6 : Option V) (rows : List (List Str)) (xs : List V) (x y : Int), σ = [some (.ref p), some (.ref Lw), some (.ref F), v3, v4, v5, v6] ∧ H2 Lw = some (.lst (ws.map V.str)) ∧ H2 F = some (.lst xs) ∧
      Paired (fun r v => NStrs B r v H2) rows xs ∧ rows.length = i ∧ (∀ r ∈ rows, r.length ≤ 5) ∧ (∀ r ∈ rows, ∀ w ∈ r, W 7 w) ∧ PoolOk x y ∧ H2 p = some (.lst [.int x, .int y]) ∧ Keep p H H2 ∧ Keep2 p F B H2)
      ⟨none, none, none, none, [], [], x2, y2, rfl, ?_, ?_, .nil, rfl, by simp, by simp, ok2, upd_same, ?_, fun b o n1 n2 e => by rw [upd_ne n1]; exact e⟩ ?_ ?_
    · rw [upd_ne npL, hB, upd_ne nLF]; exact hw
    · rw [upd_ne npF.symm, hB]; exact upd_same
    · rw [hB]; exact (kp1.new (kp1.free hF npF.symm)).put
    · rintro i σ H2 hi ⟨v3, v4, v5, v6, rows, xs, x, y, rfl, hl, hf, pr, rn, rm, rw_, ok, hp2, kp, kB⟩
      repeat walk_at "rd"
      refine ⟨Rd.sz (by simp), fun R hR => ?_⟩
      have npR : p ≠ R := ne_of_none hp2 hR
      have nLR : Lw ≠ R := ne_of_none hl hR
      have nFR : F ≠ R := ne_of_none hf hR
      repeat walk_at "rd"
      refine ⟨p, x, y, 6, rfl, by rw [upd_ne npR]; exact hp2, ok, by decide, by decide, fun m x3 y3 ok3 m0 m1 => ?_⟩
      repeat walk_at "rd"
      refine Rd.rng m0 (by omega) ?_
      refine Rd.forGo (fun j σ H3 => ∃ (v5 v6 : Option V) (row : List Str) (x y : Int), σ = [some (.ref p), some (.ref Lw), some (.ref F), some (.int (i : Int)), some (.ref R), v5, v6] ∧ H3 R = some (.lst (row.map V.str)) ∧ row.length ≤ j ∧
        (∀ w ∈ row, W 7 w) ∧ PoolOk x y ∧ H3 p = some (.lst [.int x, .int y]) ∧ Keep2 p R H2 H3) ⟨v5, v6, [], x3, y3, rfl, ?_, Nat.le_refl _, by simp, ok3, upd_same, ?_⟩ ?_ ?_
      · rw [upd_ne npR.symm]; exact upd_same
      · intro b o n1 n2 e
        rw [upd_ne n1, upd_ne n2]; exact e
      · rintro j σ H3 hj ⟨v5, v6, row, x, y, rfl, hr3, rl, rwk, ok, hp3, k2⟩
        have hl3 := k2 Lw _ npL nLR hl
        repeat walk_at "rd"
        refine ⟨p, Lw, x, y, _, rfl, hp3, SqL.of hl3, fun o => SqL.of (by rw [upd_ne npL]; exact hl3), ok, by rw [List.length_map]; omega, by rw [List.length_map]; omega, fun v x4 y4 hv ok4 => ?_⟩
        obtain ⟨wd, hwd, rfl⟩ := List.mem_map.mp hv
        have hr4 : upd H3 p (.lst [.int x4, .int y4]) R = some (.lst (row.map V.str)) := by rw [upd_ne npR.symm]; exact hr3
        have add : ∀ (H4 : Hp) (x5 y5 : Int), PoolOk x5 y5 → H4 R = some (.lst (row.map V.str)) → H4 p = some (.lst [.int x5, .int y5]) → Keep2 p R H2 H4 →
            ∃ (v5 v6 : Option V) (row' : List Str) (x y : Int), ([some (.ref p), some (.ref Lw), some (.ref F), some (.int (i : Int)), some (.ref R), some (.int (j : Int)), some (.str wd)] : L2.St) = [some (.ref p), some (.ref Lw), some (.ref F), some (.int (i : Int)), some (.ref R), v5, v6] ∧
              (upd H4 R (.lst (row.map V.str ++ [.str wd]))) R = some (.lst (row'.map V.str)) ∧ row'.length ≤ j + 1 ∧ (∀ w ∈ row', W 7 w) ∧ PoolOk x y ∧ (upd H4 R (.lst (row.map V.str ++ [.str wd]))) p = some (.lst [.int x, .int y]) ∧ Keep2 p R H2 (upd H4 R (.lst (row.map V.str ++ [.str wd]))) := by
          intro H4 x5 y5 ok5 h1 h2 k4
          refine ⟨_, _, row ++ [wd], x5, y5, rfl, by rw [List.map_append]; exact upd_same, by rw [List.length_append]; simp; omega, ?_, ok5, by rw [upd_ne npR]; exact h2, k4.put2⟩
          intro z hz
          rw [List.mem_append] at hz
          rcases hz with hz | hz
          · exact rwk z hz
          · obtain rfl : z = wd := by simpa using hz
            exact wok _ hwd
        repeat walk_at "rd"
        refine Rd.inL (SqL.of hr4) rfl (flat_strs _) ?_
        repeat walk_at "rd"
        refine Rd.bool (fun c => ?_) (fun c => ?_)
        · refine Rd.tt_ ?_
          repeat walk_at "rd"
          refine ⟨Rd.ty_list hr4, ?_⟩
          repeat walk_at "rd"
          refine Rd.app hr4 (Rd.szl (by rw [List.length_map]; omega)) ?_
          repeat walk_at "rd"
          exact add _ x4 y4 ok4 hr4 upd_same k2.put
        · repeat walk_at "rd"
          refine ⟨p, x4, y4, 8, rfl, upd_same, ok4, by decide, by decide, fun t x5 y5 ok5 t0 t1 => ?_⟩
          have hr5 : upd (upd H3 p (.lst [.int x4, .int y4])) p (.lst [.int x5, .int y5]) R = some (.lst (row.map V.str)) := by rw [upd_ne npR.symm]; exact hr4
          repeat walk_at "rd"
          refine Rd.dec (fun c => ?_) (fun c => ?_)
          · repeat walk_at "rd"
            refine ⟨Rd.ty_list hr5, ?_⟩
            repeat walk_at "rd"
            refine Rd.app hr5 (Rd.szl (by rw [List.length_map]; omega)) ?_
            repeat walk_at "rd"
            exact add _ x5 y5 ok5 hr5 upd_same k2.put.put
          · repeat walk_at "rd"
            exact ⟨_, _, row, x5, y5, rfl, hr5, by omega, rwk, ok5, upd_same, k2.put.put⟩
      · rintro σ H3 ⟨v5, v6, row, x, y, rfl, hr3, rl, rwk, ok, hp3, k2⟩
        have hf3 := k2 F _ npF.symm nFR hf
        have hl3 := k2 Lw _ npL nLR hl
        repeat walk_at "rd"
        refine ⟨Rd.ty_list hf3, ?_⟩
        repeat walk_at "rd"
        have xl := Rd.pair_len pr
        refine Rd.app hf3 (Rd.szl (by omega)) ?_
        repeat walk_at "rd"
        have bR : B R = none := by
          cases e : B R with
          | none => rfl
          | some o =>
            rw [kB R o npR.symm nFR.symm e] at hR
            cases hR
        refine ⟨_, _, _, _, rows ++ [row], xs ++ [.ref R], x, y, rfl, by rw [upd_ne nLF]; exact hl3, upd_same, ?_, by rw [List.length_append, rn]; rfl, ?_, ?_, ok, by rw [upd_ne npF]; exact hp3, ?_, ?_⟩
        · have old : ∀ r v, NStrs B r v H2 → NStrs B r v (upd H3 F (.lst (xs ++ [.ref R]))) := by
            rintro r v ⟨b, e, n, hb⟩
            have n1 : b ≠ p := fun z => bp (by rw [← z]; exact n)
            have n2 : b ≠ R := ne_of_none hb hR
            exact (show NStrs B r v H3 from ⟨b, e, n, k2 b _ n1 n2 hb⟩).put bF
          exact (Rd.pair_imp old pr).snoc ((show NStrs B row (.ref R) H3 from ⟨R, rfl, bR, hr3⟩).put bF)
        · intro z hz
          rw [List.mem_append] at hz
          rcases hz with hz | hz
          · exact rm z hz
          · obtain rfl : z = row := by simpa using hz
            omega
        · intro z hz
          rw [List.mem_append] at hz
          rcases hz with hz | hz
          · exact rw_ z hz
          · obtain rfl : z = row := by simpa using hz
            exact rwk
        · intro b o n e
          have nF : b ≠ F := fun z => by
            have := kp1.free hF npF.symm
            rw [z, this] at e; cases e
          have h2 := kp b o n e
          rw [upd_ne nF]
          exact k2 b o n (ne_of_none h2 hR) h2
        · intro b o n1 n2 e
          have h2 := kB b o n1 n2 e
          rw [upd_ne n2]
          exact k2 b o n1 (ne_of_none h2 hR) h2
    · rintro σ H2 ⟨v3, v4, v5, v6, rows, xs, x, y, rfl, hl, hf, pr, rn, rm, rw_, ok, hp2, kp, kB⟩
      repeat walk_at "rd"
      refine q F rows x y H2 ⟨kp1.free hF npF.symm, xs, hf, Rd.pair_imp (fun r v ⟨b, e, n, hb⟩ => ⟨b, e, back b n, hb⟩) pr⟩ ⟨by omega, rm, rw_⟩ ok hp2 kp
end
end Ab
namespace Dt
open PyProof.Rows W6
def dS (r : List Str) : PyData := .list (r.map PyData.str)
def dR (rows : List (List Str)) : PyData := .list (rows.map dS)
def dO : Option (List Str) → PyData
  | none => .none
  | some l => dS l
/-- texts as the laws make them -/
structure Ts (r : List Str) : Prop where
  n : r.length ≤ 100
  w : ∀ w ∈ r, W 100 w
structure Rs (rows : List (List Str)) : Prop where
  n : rows.length ≤ 100
  r : ∀ r ∈ rows, Ts r
theorem strOk_of {n : Nat} {w : Str} (h : W n w) : PyData.strOk w = true := by
  unfold PyData.strOk
  rw [Array.all_eq_true']
  intro c hc
  have := h.low c (by simpa using hc)
  exact decide_eq_true (by omega)
theorem lay_strs : ∀ {r : List Str}, (∀ w ∈ r, W 100 w) → PyData.canLayAll0 (r.map PyData.str) = true
  | [], _ => rfl
  | a :: r, h => by
    have := strOk_of (h a (by simp))
    simp [PyData.canLayAll0, PyData.canLay0, this, lay_strs (r := r) fun w hw => h w (by simp [hw])]
theorem lay_rows : ∀ {rows : List (List Str)}, (∀ r ∈ rows, Ts r) → PyData.canLayAll0 (rows.map dS) = true
  | [], _ => rfl
  | a :: r, h => by
    have := lay_strs (h a (by simp)).w
    simp [PyData.canLayAll0, PyData.canLay0, dS, this]
    exact lay_rows (rows := r) fun w hw => h w (by simp [hw])
theorem dep_strs : ∀ r : List Str, PyData.depthAll (r.map PyData.str) ≤ 1
  | [] => by simp [PyData.depthAll]
  | a :: r => by simp [PyData.depthAll, PyData.depth]; exact dep_strs r
theorem dep_rows : ∀ rows : List (List Str), PyData.depthAll (rows.map dS) ≤ 2
  | [] => by simp [PyData.depthAll]
  | a :: r => by
    have := dep_rows r
    have := dep_strs a
    simp [PyData.depthAll, PyData.depth, dS]
    omega
theorem shaped_dS {r : List Str} (h : ∀ w ∈ r, W 100 w) : SeqAt.shaped (dS r) = true := by
  have := dep_strs r
  simp [SeqAt.shaped, dS, PyData.canLay0, lay_strs h, PyData.depth]
  omega
theorem shaped_dR {r : List (List Str)} (h : ∀ x ∈ r, Ts x) : SeqAt.shaped (dR r) = true := by
  have := dep_rows r
  simp [SeqAt.shaped, dR, PyData.canLay0, lay_rows h, PyData.depth]
  omega
theorem shaped_dO {o : Option (List Str)} (h : ∀ l, o = some l → ∀ w ∈ l, W 100 w) : SeqAt.shaped (dO o) = true := by
  cases o with
  | none => rfl
  | some l => exact shaped_dS (h l rfl)
theorem show_strs : ∀ r : List Str, PyData.showableAll (r.map PyData.str) = true
  | [] => rfl
  | a :: r => by simp [PyData.showableAll, PyData.showable, show_strs r]
theorem show_rows : ∀ rows : List (List Str), PyData.showableAll (rows.map dS) = true
  | [] => rfl
  | a :: r => by simp [PyData.showableAll, PyData.showable, dS, show_strs]; exact show_rows r
theorem nodict_strs : ∀ r : List Str, PyData.hasDictAll (r.map PyData.str) = false
  | [] => rfl
  | a :: r => by simp [PyData.hasDictAll, PyData.hasDict, nodict_strs r]
theorem nodict_rows : ∀ rows : List (List Str), PyData.hasDictAll (rows.map dS) = false
  | [] => rfl
  | a :: r => by simp [PyData.hasDictAll, PyData.hasDict, dS, nodict_strs]; exact nodict_rows r
theorem show_dR (r : List (List Str)) : (dR r).showable = true := by simp [dR, PyData.showable, show_rows]
theorem nodict_dR (r : List (List Str)) : (dR r).hasDict = false := by simp [dR, PyData.hasDict, nodict_rows]
theorem deep_dR (r : List (List Str)) : (dR r).depth ≤ 60 := by
  have := dep_rows r
  simp [dR, PyData.depth]
  omega
theorem show_dO (o : Option (List Str)) : (dO o).showable = true := by
  cases o with
  | none => rfl
  | some l => simp [dO, dS, PyData.showable, show_strs]
theorem nodict_dO (o : Option (List Str)) : (dO o).hasDict = false := by
  cases o with
  | none => rfl
  | some l => simp [dO, dS, PyData.hasDict, nodict_strs]
theorem deep_dO (o : Option (List Str)) : (dO o).depth ≤ 60 := by
  cases o with
  | none => simp [dO, PyData.depth]
  | some l =>
    have := dep_strs l
    simp [dO, dS, PyData.depth]
    omega
theorem from_le : ∀ (ts : List Str) (k : Nat) (acc : Str), (textFrom k acc ts).length ≤ acc.length + (ts.map fun t => t.length + 2).sum
  | [], k, acc => Nat.le_refl _
  | t :: r, k, acc => by
    have ih := from_le r (k + 1) (acc ++ (if k > 0 then ", " else "" : String) ++ t)
    have e : (acc ++ (if k > 0 then ", " else "" : String) ++ t).length ≤ acc.length + 2 + t.length := by
      rw [strLen_append, strLen_append]
      have : (Str.ofString (if k > 0 then ", " else "")).length ≤ 2 := by split <;> decide +kernel
      omega
    rw [List.map_cons, List.sum_cons]
    show (textFrom (k + 1) _ r).length ≤ _
    omega
theorem list_le {ts : List Str} {m : Nat} (h : ∀ t ∈ ts, t.length + 2 ≤ m) : (listText ts).length ≤ 2 + ts.length * m := by
  have s : ∀ l : List Str, (∀ t ∈ l, t.length + 2 ≤ m) → (l.map fun t => t.length + 2).sum ≤ l.length * m := by
    intro l
    induction l with
    | nil => intro _; simp
    | cons a l ih =>
      intro h
      have h1 := h a (by simp)
      have h2 := ih fun t ht => h t (by simp [ht])
      simp only [List.map_cons, List.sum_cons, List.length_cons, Nat.succ_mul]
      omega
  have a := from_le ts 0 "["
  have b := s ts h
  have e : (listText ts).length = (textFrom 0 "[" ts).length + 1 := by
    unfold listText
    rw [strLen_append]
    rfl
  have e1 : Str.length "[" = 1 := by decide +kernel
  omega
theorem shownAll_map : ∀ ds : List PyData, PyData.shownAll ds = ds.map PyData.shown
  | [] => rfl
  | d :: ds => by rw [PyData.shownAll, shownAll_map ds]; rfl
theorem shown_str {w : Str} (h : W 100 w) : (PyData.shown (.str w)).length ≤ 1002 := by
  have := StrLaws.reprText_len w fun c hc => Nat.lt_of_lt_of_le (h.low c hc) (by decide)
  have := h.len
  rw [PyData.shown]
  omega
theorem shown_dS {r : List Str} (h : Ts r) : (dS r).shown.length ≤ 100402 := by
  unfold dS
  rw [PyData.shown, shownAll_map]
  have := list_le (ts := (r.map PyData.str).map PyData.shown) (m := 1004) (by
    intro t ht
    simp only [List.map_map, List.mem_map, Function.comp] at ht
    obtain ⟨w, hw, rfl⟩ := ht
    have := shown_str (h.w w hw)
    omega)
  rw [List.length_map, List.length_map] at this
  have := h.n
  omega
theorem shown_dR {rows : List (List Str)} (h : Rs rows) : (dR rows).shown.length ≤ sizeLine := by
  unfold dR
  rw [PyData.shown, shownAll_map]
  have := list_le (ts := (rows.map dS).map PyData.shown) (m := 100404) (by
    intro t ht
    simp only [List.map_map, List.mem_map, Function.comp] at ht
    obtain ⟨w, hw, rfl⟩ := ht
    have := shown_dS (h.r w hw)
    omega)
  rw [List.length_map, List.length_map] at this
  have := h.n
  have e : sizeLine = 16777216 := sizeLine_eq
  omega
theorem eqv_strs : ∀ a b : List Str, PyData.eqvAll (a.map PyData.str) (b.map PyData.str) = decide (a = b)
  | [], [] => rfl
  | [], _ :: _ => by simp [PyData.eqvAll]
  | _ :: _, [] => by simp [PyData.eqvAll]
  | x :: a, y :: b => by
    have ih := eqv_strs a b
    simp only [List.map_cons, PyData.eqvAll, PyData.eqv, ih]
    by_cases e : x = y
    · subst e; simp
    · simp [e]
theorem eqv_dS (a b : List Str) : PyData.eqv (dS a) (dS b) = decide (a = b) := by
  show PyData.eqv (.list _) (.list _) = _
  rw [PyData.eqv, eqv_strs]
theorem eqv_rows : ∀ a b : List (List Str), PyData.eqvAll (a.map dS) (b.map dS) = decide (a = b)
  | [], [] => rfl
  | [], _ :: _ => by simp [PyData.eqvAll]
  | _ :: _, [] => by simp [PyData.eqvAll]
  | x :: a, y :: b => by
    have ih := eqv_rows a b
    simp only [List.map_cons, PyData.eqvAll, eqv_dS, ih]
    by_cases e : x = y
    · subst e; simp
    · simp [e]
theorem eqv_dR (a b : List (List Str)) : PyData.eqv (dR a) (dR b) = decide (a = b) := by
  show PyData.eqv (.list _) (.list _) = _
  rw [PyData.eqv, eqv_rows]
theorem eqv_dO (a b : Option (List Str)) : PyData.eqv (dO a) (dO b) = decide (a = b) := by
  cases a with
  | none =>
    cases b with
    | none => rfl
    | some l => show PyData.eqv .none (.list _) = _; simp [PyData.eqv]
  | some k =>
    cases b with
    | none => show PyData.eqv (.list _) .none = _; simp [PyData.eqv]
    | some l => rw [show dO (some k) = dS k from rfl, show dO (some l) = dS l from rfl, eqv_dS]; simp
section
variable {K : PySem.W.Frag} {H : Hp}
theorem dp_strs : ∀ r : List Str, DpAll K H (r.map V.str) (r.map PyData.str)
  | [] => .nil
  | a :: r => .cons (.str a) (dp_strs r)
theorem dp_S {p : Addr} {r : List Str} (h : SqL K H p (r.map V.str)) : Dp K H (.ref p) (dS r) := .lst h (dp_strs r)
end
theorem shown_dO {o : Option (List Str)} (h : ∀ l, o = some l → Ts l) : (dO o).shown.length ≤ sizeLine := by
  cases o with
  | none => show (PyData.shown .none).length ≤ _; rw [PyData.shown]; exact Nat.le_trans (by decide +kernel : Str.length "None" ≤ 4) (by decide)
  | some l => exact Nat.le_trans (shown_dS (h l rfl)) (by decide)
end Dt
namespace Ab
open M6 W6 Dt PySem.Spec PyProof.Rows
theorem dp_pairs {K : PySem.W.Frag} {H : Hp} : ∀ {rows : List (List Str)} {xs : List V}, Paired (fun r x => Strs K r x H) rows xs → DpAll K H xs (rows.map dS)
  | _, _, .nil => .nil
  | _, _, .cons ⟨p, e, h⟩ t => by subst e; exact .cons (dp_S h) (dp_pairs t)
theorem RowsAt.dp {K : PySem.W.Frag} {rows : List (List Str)} {a : Addr} {H : Hp} (h : RowsAt K rows a H) : Dp K H (.ref a) (dR rows) :=
  let ⟨_, h1, h2⟩ := h; .lst h1 (dp_pairs h2)
theorem rsSmall {rows : List (List Str)} (h : Dt.Rs rows) : Small rows := ⟨h.n, fun r hr => (h.r r hr).n⟩
theorem rs_without {rows : List (List Str)} {w : Str} (s : Dt.Rs rows) : Dt.Rs (M6.without rows w) := by
  have sm := small_without (w := w) (rsSmall s)
  refine ⟨sm.n, fun r hr => ⟨sm.m r hr, fun x hx => ?_⟩⟩
  unfold M6.without at hr
  obtain ⟨h1, _⟩ := List.mem_filter.mp hr
  obtain ⟨r0, h0, rfl⟩ := List.mem_map.mp h1
  exact (s.r _ h0).w x (List.mem_filter.mp hx).1
theorem rs_full {rows : List (List Str)} (s : Dt.Rs rows) : Dt.Rs (full rows) :=
  ⟨Nat.le_trans (List.length_filter_le _ _) s.n, fun r hr => s.r r (List.mem_filter.mp hr).1⟩
theorem ne_nil {α : Type} [DecidableEq α] (r : List α) : (!decide (r = [])) = !r.isEmpty := by cases r <;> simp
def hd (r : List Str) : Str := r.headD Str.empty
theorem heads_of {rows : List (List Str)} (ne : ∀ r ∈ rows, r ≠ []) : headOf rows = ((rows.filter (isHead rows)).map hd).head? := by
  unfold headOf
  rw [List.head?_map, List.head?_filter]
  cases e : rows.find? (isHead rows) with
  | none => rfl
  | some r =>
    have := ne r (List.mem_of_find?_eq_some e)
    cases r with
    | nil => exact absurd rfl this
    | cons a t => rfl
theorem ok_filter {rows : List (List Str)} {w : Str} : decide ((rows.filter fun o => decide (w ∈ o.tail)) = []) = okHead rows w := by
  unfold okHead
  rw [Bool.eq_iff_iff]
  simp [List.filter_eq_nil_iff]
section
variable {P : Program} {w : World} {K : PySem.W.Frag} {mg : Str → Option Value} {base : Heap}
abbrev sL_merge : Stmt := top 9
abbrev nL_merge : List Str := ["_law_rows_here", "_law_found", "_law_row", "_law_heads", "_law_other", "_law_one_here"]
theorem scL_merge : FnScope nL_merge ["_law_rows_here"] (defScope sL_merge) := ⟨rfl, rfl, rfl, by decide +kernel, rfl, by decide +kernel, by decide +kernel⟩
def spMerge (K : PySem.W.Frag) : Sp := fun vs H Q _ => ∃ (a : Addr) (rows : List (List Str)), vs = [.ref a] ∧ RowsAt K rows a H ∧ Dt.Rs rows ∧ (mrg rows = none → ∀ H', Same H H' → Q .non H') ∧
  ∀ l, mrg rows = some l → ∀ p H', H p = none → Same H H' → H' p = some (.lst (l.map V.str)) → Q (.ref p) H'
theorem ok_merge (T : Txt K mg) (D : DefAt K mg "_law_merge" sL_merge ["_law_rows_here"]) : CalG P w K mg base 1 "_law_merge" (spMerge K) := by
  refine D.by scL_merge (fun vs H Q E h => ?_) (fun f cd A hg outer s H vs Q E hr h => ?_)
  · obtain ⟨a, ns, rfl, _⟩ := h
    rfl
  · obtain ⟨a, rows, rfl, ⟨xs, hl, hp⟩, rs, qn, qs⟩ := h
    refine ⟨_, (pss_cons (ps_asg (pe_tup (pa_cons (pe_lc (wi := iList K _) (own := [("_law_row", 2)]) (g := gName 2) (by rfl) scL_merge.nd (pi_list (pv 0)) (blkOk_by (N := nL_merge) (sc := defScope sL_merge) (by decide +kernel)) (fun _ _ _ _ _ => pg_name (i := 2) scL_merge.nd rfl (Or.inl rfl)) (fun _ _ _ _ _ => (pts_one (pt_cmpR (r := rNeD K) (op_neD hr.units) (pv 2) (pe_lst pa_nil) (nomark _)))) (fun _ _ _ _ _ => (pe_callTy (r := Rd.rListK K) Rd.callList (by rfl) T.list (by decide +kernel) (pa_cons (pv 2) pa_nil)))) (pa_cons (pe_lst pa_nil) pa_nil))) (pg_tup (by rfl) (pgs_cons (pg_name (i := 0) scL_merge.nd rfl (Or.inr rfl)) (pgs_cons (pg_name (i := 1) scL_merge.nd rfl (Or.inl rfl)) pgs_nil))))
  (pss_cons (ps_while PassesOwn.never (pt_cmpR (r := rNeD K) (op_neD hr.units) (pv 0) (pe_lst pa_nil) (nomark _))
  (pss_cons (ps_set (i := 3) scL_merge.nd rfl (Or.inr rfl) (pe_lc (wi := iList K _) (own := [("_law_row", 2)]) (g := gName 2) (by rfl) scL_merge.nd (pi_list (pv 0)) (blkOk_by (N := nL_merge) (sc := defScope sL_merge) (by decide +kernel)) (fun _ _ _ _ _ => pg_name (i := 2) scL_merge.nd rfl (Or.inr rfl)) (fun _ _ _ _ _ => (pts_one (pt_cmpR (r := rEqD K) (op_eqD hr.units) (pe_lc (wi := iList K _) (own := [("_law_other", 4)]) (g := gName 4) (by rfl) scL_merge.nd (pi_list (pv 0)) (blkOk_by (by kernel_rfl)) (fun _ _ _ _ _ => pg_name (i := 4) scL_merge.nd rfl (Or.inl rfl)) (fun _ _ _ _ _ => (pts_one (pt_cmpR (r := rIn K false) op_in_seq (pe_ix (r := rIxL K) ix_list (pv 2) pe_int (fun _ _ => rfl)) (pe_slice (r := rSlL K) sl_list (pv 4) (po_some pe_int) po_none) (by rfl)))) (fun _ _ _ _ _ => (pv 4))) (pe_lst pa_nil) (nomark _)))) (fun _ _ _ _ _ => (pe_ix (r := rIxL K) ix_list (pv 2) pe_int (fun _ _ => rfl)))))
  (pss_cons (ps_if (pt_cmpR (r := rEqD K) (op_eqD hr.units) (pv 3) (pe_lst pa_nil) (nomark _))
  (pss_one (ps_ret pe_non))
  pss_nil)
  (pss_cons (ps_expr (pe_bm PySem.F.plainAttrs_list PySem.F.slot_list_append PySem.F.type_list_append mt_append (pv 1) (pa_cons (pe_ix (r := rIxL K) ix_list (pv 3) pe_int (fun _ _ => rfl)) pa_nil)))
  (pss_cons (ps_set (i := 0) scL_merge.nd rfl (Or.inr rfl) (pe_lc (wi := iList K _) (own := [("_law_row", 2)]) (g := gName 2) (by rfl) scL_merge.nd (pi_list (pv 0)) (blkOk_by (N := nL_merge) (sc := defScope sL_merge) (by decide +kernel)) (fun _ _ _ _ _ => pg_name (i := 2) scL_merge.nd rfl (Or.inl rfl)) (fun _ _ _ _ _ => pts_nil) (fun _ _ _ _ _ => (pe_lc (wi := iList K _) (own := [("_law_one_here", 5)]) (g := gName 5) (by rfl) scL_merge.nd (pi_list (pv 2)) (blkOk_by (by kernel_rfl)) (fun _ _ _ _ _ => pg_name (i := 5) scL_merge.nd rfl (Or.inl rfl)) (fun _ _ _ _ _ => (pts_one (pt_cmpR op_ne (pv 5) (pe_ix (r := rIxL K) ix_list (pv 3) pe_int (fun _ _ => rfl)) (nomark _)))) (fun _ _ _ _ _ => (pv 5))))))
  (pss_one (ps_set (i := 0) scL_merge.nd rfl (Or.inr rfl) (pe_lc (wi := iList K _) (own := [("_law_row", 2)]) (g := gName 2) (by rfl) scL_merge.nd (pi_list (pv 0)) (blkOk_by (N := nL_merge) (sc := defScope sL_merge) (by decide +kernel)) (fun _ _ _ _ _ => pg_name (i := 2) scL_merge.nd rfl (Or.inl rfl)) (fun _ _ _ _ _ => (pts_one (pt_cmpR (r := rNeD K) (op_neD hr.units) (pv 2) (pe_lst pa_nil) (nomark _)))) (fun _ _ _ _ _ => (pv 2))))))))))
  (pss_one (ps_ret (pv 1))))), ?_⟩
    have hlen := Rd.pair_len hp
    have w0 : ∀ w ∈ ([] : List Str), W 100 w := by simp
    repeat walk_at "rd"
    refine Rd.lcL (K := K) (a := a) (xs := xs) (bs := rows) (Strs K) (Strs K) (fun r => !r.isEmpty) id (fun R k => Rd.var rfl k) hl (Strs.stays K) (Strs.stays K) hp (by have := rs.n; omega) (fun _ => rfl) ?_ ?_ ?_
    · rintro r x H3 R3 hs _ ⟨p3, rfl, h3⟩ s3 k3
      repeat walk_at "rd"
      refine ⟨Rd.sz (by simp), fun q hq => ?_⟩
      refine Rd.neD (d := dS r) (e := dS []) (dp_S ((Rd.sNew hq).seq h3)) (dp_S (SqL.of upd_same)) (shaped_dS (rs.r r hs).w) (shaped_dS w0) ?_
      repeat walk_at "rd"
      rw [eqv_dS, ne_nil]
      exact k3 _ (Rd.sNew hq)
    · rintro r x H3 R3 hs _ h2 ⟨p3, rfl, h3⟩ s3 k3
      repeat walk_at "rd"
      refine Rd.listK h3 fun l hl => k3 _ _ (Rd.sNew hl) (off_strs hl upd_same)
    · intro L ys H1 hL s1 hd1 pr
      rw [List.map_id] at pr
      repeat walk_at "rd"
      refine ⟨Rd.sz (by simp), fun tk htk => ?_⟩
      repeat walk_at "rd"
      refine ⟨Rd.sz (by simp), fun tp htp => ?_⟩
      have ntp : tk ≠ tp := fun e => by rw [← e, upd_same] at htp; cases htp
      refine Rd.gtup (SqT.of upd_same) rfl ?_
      repeat walk_at "rd"
      refine ⟨fun m σ H2 => ∃ (L : Addr) (rows' : List (List Str)) (acc : List Str) (v : Option V) (H0 : Hp), σ = [some (.ref L), some (.ref tk), none, v, none, none] ∧ Same H H2 ∧ H0 tk = none ∧ Same H0 H2 ∧ RowsAt K rows' L H0 ∧
        (∀ r ∈ rows', r ≠ []) ∧ Dt.Rs rows' ∧ H2 tk = some (.lst (acc.map V.str)) ∧ acc.length + size rows' ≤ 10000 ∧ mrg rows = mrgF (size rows' + 1) rows' acc ∧ m = size rows', ⟨_, L, full rows, [], none, H1, rfl, s1.trans ((Rd.sNew htk).trans (Rd.sNew htp)), htk, (Rd.sNew htk).trans (Rd.sNew htp), ⟨ys, SqL.of hd1, pr⟩, full_full rows, rs_full rs, by rw [upd_ne ntp, upd_same]; rfl, ?_, rfl, rfl⟩, ?_⟩
      · have := small_size (rsSmall (rs_full rs))
        simpa using this
      · rintro m σ H2 ⟨L, rows', acc, v, H0, rfl, s2, h0, s0, hR, ne, rs', ht, hz, hm, rfl⟩
        have hR2 := hR.mono s0
        repeat walk_at "rd"
        refine ⟨Rd.sz (by simp), fun q hq => ?_⟩
        have sq := Rd.sNew (o := .lst []) hq
        refine Rd.neD (d := dR rows') (e := dR []) (hR2.mono sq).dp (.lst (SqL.of upd_same) .nil) (shaped_dR rs'.r) (shaped_dR (by simp)) ?_
        rw [eqv_dR, ne_nil]
        repeat walk_at "rd"
        refine Rd.bool (fun c => ?_) (fun c => ?_)
        · refine ⟨_, fun σ' H' h => h, ?_⟩
          have c' : rows'.isEmpty = false := by simpa using c
          obtain ⟨zs, hz1, hz2⟩ := hR2.mono sq
          have sm' := rsSmall rs'
          have zl := Rd.pair_len hz2
          repeat walk_at "rd"
          refine Rd.lcL (K := K) (a := L) (xs := zs) (bs := rows') (Strs K) (fun (s : Str) y _ => y = .str s) (isHead rows') hd (fun R k => Rd.var rfl k) hz1 (Strs.stays K) (fun _ _ _ _ _ h => h) hz2 (by have := sm'.n; omega) (fun _ => rfl) ?_ ?_ ?_
          · rintro r x H3 R3 hs _ ⟨p3, rfl, h3⟩ s3 k3
            obtain ⟨w0', t, rfl⟩ : ∃ w0 t, r = w0 :: t := by
              cases r with
              | nil => exact absurd rfl (ne _ hs)
              | cons w0 t => exact ⟨w0, t, rfl⟩
            repeat walk_at "rd"
            refine Rd.lcL (K := K) (a := L) (xs := zs) (bs := rows') (Strs K) (Strs K) (fun o => decide (w0' ∈ o.tail)) id (fun R k => Rd.var rfl k) (s3.seq hz1) (Strs.stays K) (Strs.stays K)
              (Rd.pair_imp (fun r x => Strs.stays K r x _ _ s3) hz2) (by have := sm'.n; omega) (fun _ => rfl) ?_ ?_ ?_
            · rintro o x H4 R4 ho _ ⟨po, rfl, hpo⟩ s4 k4
              have h34 := s4.seq h3
              repeat walk_at "rd"
              refine Rd.slL hpo fun q hq => ?_
              have e1 : cutV (o.map V.str) (some 1) none = o.tail.map V.str := by rw [cut1, ← List.map_tail]
              refine Rd.inL (xs := cutV (o.map V.str) (some 1) none) (SqL.of upd_same) rfl (by rw [e1]; exact flat_strs _) ?_
              repeat walk_at "rd"
              have e2 : (if (false : Bool) = true then !inV (.str w0') (cutV (o.map V.str) (some 1) none) else inV (.str w0') (cutV (o.map V.str) (some 1) none)) = decide (w0' ∈ o.tail) := by rw [e1, inV_str]; rfl
              rw [e2]
              exact k4 _ (Rd.sNew hq)
            · rintro o x H4 R4 ho _ h2 h4 s4 k4
              exact Rd.var rfl (k4 _ _ (Same.refl _) (Rd.off_old (Strs.stays K o) s4 h2))
            · intro D ys H4 hD s4 hd4 pq
              rw [List.map_id] at pq
              repeat walk_at "rd"
              refine ⟨Rd.sz (by simp), fun q5 hq5 => ?_⟩
              have s5 := Rd.sNew (o := .lst []) hq5
              have rA : RowsAt K (rows'.filter fun o => decide (w0' ∈ o.tail)) D H4 := ⟨ys, SqL.of hd4, pq⟩
              refine Rd.eqD (d := dR (rows'.filter fun o => decide (w0' ∈ o.tail))) (e := dR []) (rA.mono s5).dp (.lst (SqL.of upd_same) .nil) (shaped_dR fun x hx => rs'.r x (List.mem_filter.mp hx).1) (shaped_dR (by simp)) ?_
              rw [eqv_dR, ok_filter]
              repeat walk_at "rd"
              exact k3 _ (s4.trans s5)
          · rintro r x H3 R3 hs _ _ ⟨p3, rfl, h3⟩ s3 k3
            obtain ⟨w0', t, rfl⟩ : ∃ w0 t, r = w0 :: t := by
              cases r with
              | nil => exact absurd rfl (ne _ hs)
              | cons w0 t => exact ⟨w0, t, rfl⟩
            repeat walk_at "rd"
            exact k3 _ _ (Same.refl _) (Rd.off_any (B := fun y => y = V.str _) rfl)
          · intro D ys H3 hD s3 hd3 pq
            have e := Rd.pair_map pq
            subst e
            have hh := heads_of ne
            have hw : ∀ w ∈ (rows'.filter (isHead rows')).map hd, W 100 w := by
              intro w hw
              obtain ⟨r, hr, rfl⟩ := List.mem_map.mp hw
              have hr := (List.mem_filter.mp hr).1
              cases r with
              | nil => exact absurd rfl (ne _ hr)
              | cons a t => exact (rs'.r _ hr).w a (by simp)
            generalize (rows'.filter (isHead rows')).map hd = heads at hd3 hh hw
            repeat walk_at "rd"
            refine ⟨Rd.sz (by simp), fun q6 hq6 => ?_⟩
            have s6 := Rd.sNew (o := .lst []) hq6
            refine Rd.eqD (d := dS heads) (e := dS []) (dp_S (SqL.of (s6 _ _ hd3))) (dp_S (SqL.of upd_same)) (shaped_dS hw) (shaped_dS w0) ?_
            rw [eqv_dS]
            repeat walk_at "rd"
            have s26 := (sq.trans s3).trans s6
            have ht6 := s26 _ _ ht
            refine Rd.dec (fun c => ?_) (fun c => ?_)
            · subst c
              repeat walk_at "rd"
              exact qn (by rw [hm]; exact mrg_no c' hh) _ (s2.trans s26)
            · obtain ⟨w1, hs', rfl⟩ : ∃ w1 t, heads = w1 :: t := by
                cases heads with
                | nil => exact absurd rfl c
                | cons w0 t => exact ⟨w0, t, rfl⟩
              have hd6 := s6 _ _ hd3
              repeat walk_at "rd"
              refine ⟨Rd.ty_list ht6, ?_⟩
              repeat walk_at "rd"
              refine Rd.app ht6 (Rd.szl (by rw [List.length_map]; omega)) ?_
              have e4 : acc.map V.str ++ [V.str w1] = (acc ++ [w1]).map V.str := by rw [List.map_append]; rfl
              rw [e4]
              obtain ⟨H7, hH7⟩ : ∃ H7, H7 = upd (upd H3 q6 (.lst [])) tk (.lst ((acc ++ [w1]).map V.str)) := ⟨_, rfl⟩
              rw [← hH7]
              have ht7 : H7 tk = some (.lst ((acc ++ [w1]).map V.str)) := by rw [hH7, upd_same]
              have hd7 : H7 D = some (.lst ((w1 :: hs').map V.str)) := by
                have n : D ≠ tk := (ne_of_none (sq _ _ ht) hD).symm
                rw [hH7, upd_ne n]; exact hd6
              have s07 : Same H0 H7 := by rw [hH7]; exact Rd.sMut (s0.trans s26) h0
              have sH7 : Same H H7 := by rw [hH7]; exact Rd.sMut (s2.trans s26) (Same.free s1 htk)
              obtain ⟨zs7, hz7, pz7⟩ := hR.mono s07
              have zl7 := Rd.pair_len pz7
              repeat walk_at "rd"
              refine Rd.lcL (K := K) (a := L) (xs := zs7) (bs := rows') (Strs K) (NStrs H7) (fun _ => true) (fun r => r.filter fun x => decide (x ≠ w1)) (fun R k => Rd.var rfl k) hz7 (Strs.stays K) (NStrs.stays H7) pz7 (by have := sm'.n; omega) (fun _ => rfl)
                (fun b x H2 R _ _ _ s2 k => Rd.yes (k H2 (Same.refl _))) ?_ ?_
              · rintro r x H8 R hr _ _ ⟨pr, rfl, hpr⟩ s8 k
                refine Rd.lcL (K := K) (a := pr) (xs := r.map V.str) (bs := r) (fun s x _ => x = V.str s) (fun s x _ => x = V.str s) (fun x => decide (x ≠ w1)) id (fun R k => Rd.var rfl k) hpr (fun _ _ _ _ _ h => h) (fun _ _ _ _ _ h => h)
                  (strs_pair r H8) (by rw [List.length_map]; have := sm'.m r hr; omega) (fun _ => rfl) ?_ ?_ ?_
                · rintro s x H9 R9 hs rfl _ s9 k9
                  have hd9 := s9 _ _ (s8 _ _ hd7)
                  repeat walk_at "rd"
                  rw [ne_str]
                  exact k9 _ (Same.refl _)
                · rintro s x H9 R9 hs _ rfl _ s9 k9
                  repeat walk_at "rd"
                  exact k9 _ _ (Same.refl _) (Rd.off_any (B := fun y => y = V.str s) rfl)
                · intro D9 ys9 H9 hD9 s9 hd9 pq9
                  have e := Rd.pair_map pq9
                  rw [List.map_id] at e
                  subst e
                  exact k _ _ s9 (off_new (Same.free s8 hD9) hD9 hd9)
              · intro D8 ys8 H8 hD8 s8 hd8 pr8
                rw [List.filter_eq_self.mpr (by simp)] at pr8
                repeat walk_at "rd"
                have pl8 := Rd.pair_len pr8
                rw [List.length_map] at pl8
                refine Rd.lcL (K := K) (a := D8) (xs := ys8) (bs := rows'.map fun r => r.filter fun x => decide (x ≠ w1)) (NStrs H7) (NStrs H7) (fun r => !r.isEmpty) id (fun R k => Rd.var rfl k) (SqL.of hd8) (NStrs.stays H7) (NStrs.stays H7) pr8
                  (by have := sm'.n; omega) (fun _ => rfl) ?_ ?_ ?_
                · rintro r x H9 R9 hr _ ⟨p9, rfl, _, h9⟩ s9 k9
                  repeat walk_at "rd"
                  refine ⟨Rd.sz (by simp), fun q9 hq9 => ?_⟩
                  have hr' : ∀ w ∈ r, W 100 w := by
                    obtain ⟨r0, h0, rfl⟩ := List.mem_map.mp hr
                    exact fun w hw => (rs'.r _ h0).w w (List.mem_filter.mp hw).1
                  refine Rd.neD (d := dS r) (e := dS []) (dp_S (SqL.of (Rd.sNew hq9 _ _ h9))) (dp_S (SqL.of upd_same)) (shaped_dS hr') (shaped_dS w0) ?_
                  repeat walk_at "rd"
                  rw [eqv_dS, ne_nil]
                  exact k9 _ (Rd.sNew hq9)
                · rintro r x H9 R9 hr _ h8 h9 s9 k9
                  exact Rd.var rfl (k9 _ _ (Same.refl _) (Rd.off_old (NStrs.stays H7 r) s9 h8))
                · intro D9 ys9 H9 hD9 s9 hd9 pr9
                  rw [List.map_id] at pr9
                  repeat walk_at "rd"
                  have lt := size_without hh
                  have nr : NewRows H7 (M6.without rows' w1) D9 H9 := ⟨Same.free s8 hD9, ys9, hd9, pr9⟩
                  refine ⟨size (M6.without rows' w1), lt, D9, M6.without rows' w1, acc ++ [w1], some (.ref D), hide tk H9, rfl, sH7.trans (s8.trans s9), hide_at _ _, hide_same _ _, nr.hide (by rw [ht7]; simp), without_full _ _, rs_without rs', (s8.trans s9) _ _ ht7, ?_, ?_, rfl⟩
                  · rw [List.length_append]; simp; omega
                  · rw [hm]; exact mrg_step c' hh
        · have c' : rows'.isEmpty = true := by simpa using c
          repeat walk_at "rd"
          obtain rfl : rows' = [] := by simpa using c'
          exact qs acc hm tk _ (Same.free s1 htk) (s2.trans sq) (sq _ _ ht)
end
end Ab
namespace M7
open M6 PyProof.Rows PySem.Spec
/-! ### sorted texts -/
theorem le_of_not {a b : List Nat} (h : (!ltCps b a) = true) : a ≤ b := by
  rw [ltCps_eq] at h
  have h : ¬ b < a := by simpa using h
  exact List.not_lt.mp h
theorem rising_le : ∀ {r : List Str} {p : Str}, risingS p r = true → ∀ x ∈ r, p.cps.toList ≤ x.cps.toList
  | [], _, _, x, hx => by simp at hx
  | y :: r, p, h, x, hx => by
    have h : (!ltCps y.cps.toList p.cps.toList && risingS y r) = true := h
    rw [Bool.and_eq_true] at h
    have h1 := le_of_not h.1
    rcases List.mem_cons.mp hx with e | e
    · subst e; exact h1
    · exact List.le_trans h1 (rising_le h.2 x e)
theorem rising_pw : ∀ {r : List Str} {p : Str}, risingS p r = true → (p :: r).Pairwise fun a b => a.cps.toList ≤ b.cps.toList
  | [], _, _ => by simp
  | y :: r, p, h => by
    have h' : (!ltCps y.cps.toList p.cps.toList && risingS y r) = true := h
    rw [Bool.and_eq_true] at h'
    exact List.pairwise_cons.mpr ⟨rising_le h, rising_pw h'.2⟩
theorem sorted_pw {l : List Str} (h : sortedS l = true) : l.Pairwise fun a b => a.cps.toList ≤ b.cps.toList := by
  cases l with
  | nil => simp
  | cons p r => exact rising_pw h
theorem sorted_same {a b : List Str} (p : a.Perm b) (ha : sortedS a = true) (hb : sortedS b = true) : a = b :=
  List.Perm.eq_of_pairwise (le := fun a b => a.cps.toList ≤ b.cps.toList) (fun x y _ _ h1 h2 => by
    have e := List.le_antisymm h1 h2
    exact Str.ext' (Array.toList_inj.mp e)) (sorted_pw ha) (sorted_pw hb) p
/-! ### what a merge keeps -/
section
variable {α : Type} [DecidableEq α]
structure Merges (rows : List (List α)) (m : List α) : Prop where
  keeps : ∀ r ∈ rows, m.filter (fun x => decide (x ∈ r)) = r
  nd : m.Nodup
  mem : ∀ x, x ∈ m ↔ ∃ r ∈ rows, x ∈ r
theorem filter_none {m : List α} {p : α → Bool} (h : ∀ x ∈ m, p x = false) : m.filter p = [] := List.filter_eq_nil_iff.mpr fun x hx => by simp [h x hx]
theorem merges_step {rows : List (List α)} {w : α} {m : List α} (h : headOf rows = some w) (M : Merges (without rows w) m) : Merges rows (w :: m) := by
  obtain ⟨r0, hr0, t0, rfl, ok⟩ := head_found h
  have hok : ∀ r ∈ rows, w ∉ r.tail := by
    intro r hr
    unfold okHead at ok
    have := List.all_eq_true.mp ok r hr
    simpa using this
  have wm : w ∉ m := by
    intro e
    obtain ⟨r, hr, hw⟩ := (M.mem w).mp e
    unfold M6.without at hr
    obtain ⟨h1, _⟩ := List.mem_filter.mp hr
    obtain ⟨r1, _, rfl⟩ := List.mem_map.mp h1
    have := (List.mem_filter.mp hw).2
    simp at this
  have inw : ∀ r ∈ rows, (r.filter fun x => decide (x ≠ w)) ≠ [] → (r.filter fun x => decide (x ≠ w)) ∈ without rows w := by
    intro r hr hn
    unfold M6.without
    exact List.mem_filter.mpr ⟨List.mem_map.mpr ⟨r, hr, rfl⟩, by
      generalize (r.filter fun x => decide (x ≠ w)) = z at hn
      cases z with
      | nil => exact absurd rfl hn
      | cons a t => rfl⟩
  have same : ∀ t : List α, w ∉ t → (t.filter fun x => decide (x ≠ w)) = t := by
    intro t ht
    refine List.filter_eq_self.mpr fun x hx => ?_
    have : x ≠ w := fun e => ht (e ▸ hx)
    simpa using this
  have core : ∀ t : List α, w ∉ t → (t ≠ [] → t ∈ without rows w) → m.filter (fun x => decide (x ∈ t)) = t := by
    intro t ht hin
    cases t with
    | nil => exact filter_none fun x _ => by simp
    | cons a t => exact M.keeps _ (hin (by simp))
  refine ⟨fun r hr => ?_, List.nodup_cons.mpr ⟨wm, M.nd⟩, fun x => ?_⟩
  · have hw := hok r hr
    cases r with
    | nil => exact filter_none fun x _ => by simp
    | cons a t =>
      by_cases e : a = w
      · subst e
        rw [List.filter_cons_of_pos (by simp)]
        have e1 : (m.filter fun x => decide (x ∈ a :: t)) = m.filter fun x => decide (x ∈ t) := by
          refine List.filter_congr fun x hx => ?_
          have : x ≠ a := fun e => wm (e ▸ hx)
          simp [this]
        rw [e1]
        have ht : a ∉ t := hw
        have e2 : ((a :: t).filter fun x => decide (x ≠ a)) = t := by rw [List.filter_cons_of_neg (by simp)]; exact same t ht
        rw [core t ht fun hn => by rw [← e2]; exact inw _ hr (by rw [e2]; exact hn)]
      · have hwr : w ∉ a :: t := by
          intro z
          rcases List.mem_cons.mp z with z | z
          · exact e z.symm
          · exact hw z
        rw [List.filter_cons_of_neg (by simpa using hwr)]
        have e2 := same _ hwr
        exact core _ hwr fun hn => by rw [← e2]; exact inw _ hr (by rw [e2]; exact hn)
  · rw [List.mem_cons]
    constructor
    · rintro (e | e)
      · subst e; exact ⟨_, hr0, by simp⟩
      · obtain ⟨r, hr, hx⟩ := (M.mem x).mp e
        unfold M6.without at hr
        obtain ⟨h1, _⟩ := List.mem_filter.mp hr
        obtain ⟨r1, hr1, rfl⟩ := List.mem_map.mp h1
        exact ⟨r1, hr1, (List.mem_filter.mp hx).1⟩
    · rintro ⟨r, hr, hx⟩
      by_cases e : x = w
      · exact .inl e
      · have hx' : x ∈ r.filter fun x => decide (x ≠ w) := List.mem_filter.mpr ⟨hx, by simpa using e⟩
        exact .inr ((M.mem x).mpr ⟨_, inw r hr (List.ne_nil_of_mem hx'), hx'⟩)
theorem merges_fuel : ∀ {n : Nat} {rows : List (List α)} {acc l : List α}, mrgF n rows acc = some l → ∃ m, l = acc ++ m ∧ Merges rows m
  | 0, _, _, _, h => by simp [mrgF] at h
  | n + 1, rows, acc, l, h => by
    unfold mrgF at h
    split at h
    · rename_i he
      obtain rfl : rows = [] := by simpa using he
      refine ⟨[], by simpa using h.symm, ?_, by simp, by simp⟩
      simp
    · cases e : headOf rows with
      | none => rw [e] at h; cases h
      | some w =>
        rw [e] at h
        obtain ⟨m, hm, M⟩ := merges_fuel (n := n) h
        exact ⟨w :: m, by rw [hm]; simp, merges_step e M⟩
theorem merges {rows : List (List α)} {l : List α} (h : mrg rows = some l) : Merges rows l := by
  obtain ⟨m, hm, M⟩ := merges_fuel h
  obtain rfl : l = m := by simpa using hm
  refine ⟨fun r hr => ?_, M.nd, fun x => ?_⟩
  · cases r with
    | nil => exact filter_none fun x _ => by simp
    | cons a t => exact M.keeps _ (List.mem_filter.mpr ⟨hr, by simp⟩)
  · rw [M.mem]
    constructor
    · rintro ⟨r, hr, hx⟩
      exact ⟨r, (List.mem_filter.mp hr).1, hx⟩
    · rintro ⟨r, hr, hx⟩
      refine ⟨r, List.mem_filter.mpr ⟨hr, ?_⟩, hx⟩
      cases r with
      | nil => cases hx
      | cons a t => rfl
/-- the words of the lists, each once -/
def every (rows : List (List α)) : List α := rows.foldl (fun e r => e ++ r.filter fun x => decide (x ∉ e)) []
structure EvInv (rows : List (List α)) (e : List α) : Prop where
  nd : e.Nodup
  mem : ∀ x, x ∈ e ↔ ∃ r ∈ rows, x ∈ r
theorem ev_step {rows : List (List α)} {e r : List α} (h : EvInv rows e) (hr : r.Nodup) : EvInv (rows ++ [r]) (e ++ r.filter fun x => decide (x ∉ e)) := by
  refine ⟨?_, fun x => ?_⟩
  · rw [List.nodup_append]
    refine ⟨h.nd, hr.filter _, fun a ha b hb e => ?_⟩
    subst e
    have := (List.mem_filter.mp hb).2
    simp at this
    exact this ha
  · rw [List.mem_append, List.mem_filter]
    constructor
    · rintro (hx | ⟨hx, _⟩)
      · obtain ⟨q, hq, hx⟩ := (h.mem x).mp hx
        exact ⟨q, List.mem_append_left _ hq, hx⟩
      · exact ⟨r, List.mem_append_right _ (by simp), hx⟩
    · rintro ⟨q, hq, hx⟩
      by_cases he : x ∈ e
      · exact .inl he
      · rcases List.mem_append.mp hq with hq | hq
        · exact absurd ((h.mem x).mpr ⟨q, hq, hx⟩) he
        · obtain rfl : q = r := by simpa using hq
          exact .inr ⟨hx, by simpa using he⟩
theorem row_nodup {rows : List (List α)} {l r : List α} (M : Merges rows l) (hr : r ∈ rows) : r.Nodup := by
  rw [← M.keeps r hr]
  exact M.nd.filter _
theorem every_perm {rows : List (List α)} {l e : List α} (M : Merges rows l) (h : EvInv rows e) : e.Perm l :=
  (List.perm_ext_iff_of_nodup h.nd M.nd).mpr fun x => by rw [h.mem, M.mem]
theorem full_more (rows : List (List α)) : mrg (rows ++ [[]]) = mrg rows := by
  unfold mrg full
  rw [List.filter_append]
  simp
end
end M7
namespace Rd
open PySem.Spec PyProof.Rows
/-- the signs of a text, as texts -/
def signs (z : Str) : List Str := z.cps.toList.map fun c => ⟨#[c]⟩
def rListS : List V → Hp → VK → Prop := fun xs H Q => ∃ z, xs = [.str z] ∧ z.length ≤ sizeLine ∧ ∀ l, H l = none → Q (.ref l) (upd H l (.lst ((signs z).map V.str)))
theorem callListS {X : Cx} (hc : X.calm = true) : CallR X (.type "list") rListS := by
  intro pins s σ H xs us Q I r h
  obtain ⟨z, rfl, hz, q⟩ := h
  obtain ⟨u, rfl, t, rfl⟩ := vals1 r
  have hz' : z.cps.size ≤ sizeLine := hz
  refine call_list_str (I.ok.hd hc) z t (fun h' tk acc c' kp e hacc => ?_) hz'
  obtain ⟨hs, hi⟩ := hacc
  have len : ((signs z).map V.str).length = acc.toList.length := by simp [signs, hs]
  have vl : Vals ((signs z).map V.str) acc.toList := vals_of_at len fun j x u hx hu => by
    obtain ⟨c, tk, hc, e⟩ := hi j u (by simpa using hu)
    subst e
    have : x = .str ⟨#[c]⟩ := by
      have hc' : z.cps.toList[j]? = some c := by simpa using hc
      simp [signs, hc'] at hx
      exact hx.symm
    subst this
    exact ⟨tk, rfl⟩
  refine ⟨.ref s.heap.objs.size, _, I.laid (t' := tk) kp (Nat.le_refl _) (show ObjOk X.prog X.w _ h' _ (.lst _) from ⟨?_, acc.toList, c', vl, by simpa using e⟩), rfl, q _ (I.hok.fresh (Nat.le_refl _))⟩
  rw [len]
  simpa [hs] using hz'
theorem listS {H : Hp} {Q : VK} {z : Str} (h : z.length ≤ sizeLine) (k : ∀ l, H l = none → Q (.ref l) (upd H l (.lst ((signs z).map V.str)))) : rListS [.str z] H Q := ⟨z, rfl, h, k⟩
end Rd
namespace Ab
open M6 M7 W6 Dt PySem.Spec PyProof.Rows
theorem merge_len : ∀ {n : Nat} {rows : List (List Str)} {acc l : List Str}, mrgF n rows acc = some l → l.length ≤ acc.length + size rows
  | 0, _, _, _, h => by simp [mrgF] at h
  | n + 1, rows, acc, l, h => by
    unfold mrgF at h
    split at h
    · obtain rfl : acc = l := by simpa using h
      omega
    · cases e : headOf rows with
      | none => rw [e] at h; cases h
      | some w =>
        rw [e] at h
        have := merge_len (n := n) h
        have := size_without e
        rw [List.length_append] at *
        simp at *
        omega
theorem mrg_len {rows : List (List Str)} {l : List Str} (h : mrg rows = some l) : l.length ≤ size rows := by
  have := merge_len h
  unfold full at this
  rw [size_filter] at this
  simpa using this
section
variable {P : Program} {w : World} {K : PySem.W.Frag} {mg : Str → Option Value} {base : Heap}
abbrev sL_kept : Stmt := top 11
abbrev nL_kept : List Str := ["_law_rows_here", "_law_told", "_law_row", "_law_word", "_law_every"]
theorem scL_kept : FnScope nL_kept ["_law_rows_here", "_law_told"] (defScope sL_kept) := ⟨rfl, rfl, rfl, by decide +kernel, rfl, by decide +kernel, by decide +kernel⟩
def spKept (K : PySem.W.Frag) : Sp := fun vs H Q _ => ∃ (a t : Addr) (rows : List (List Str)) (l : List Str), vs = [.ref a, .ref t] ∧ RowsAt K rows a H ∧ SqL K H t (l.map V.str) ∧ Dt.Rs rows ∧ size rows < 64 ∧ mrg rows = some l ∧ ∀ H', Same H H' → Q (.bl true) H'
theorem ok_kept (T : Txt K mg) (D : DefAt K mg "_law_kept" sL_kept ["_law_rows_here", "_law_told"]) : CalG P w K mg base 1 "_law_kept" (spKept K) := by
  refine D.by scL_kept (fun vs H Q E h => ?_) (fun f cd A hg outer s H vs Q E hr h => ?_)
  · obtain ⟨a, t, rows, l, rfl, _⟩ := h
    rfl
  · obtain ⟨a, t, rows, l, rfl, ⟨xs, hl, hp⟩, ht, rs, sz64, hm, q⟩ := h
    refine ⟨_, (pss_cons (ps_for (wi := iList K _) PassesOwn.never rfl (pi_list (pv 0)) (pg_name (i := 2) scL_kept.nd rfl (Or.inr rfl))
  (pss_one (ps_if (pt_cmpR (r := rNeD K) (op_neD hr.units) (pe_lc (wi := iList K _) (own := [("_law_word", 3)]) (g := gName 3) (by rfl) scL_kept.nd (pi_list (pv 1)) (blkOk_by (N := nL_kept) (sc := defScope sL_kept) (by decide +kernel)) (fun _ _ _ _ _ => pg_name (i := 3) scL_kept.nd rfl (Or.inl rfl)) (fun _ _ _ _ _ => (pts_one (pt_cmpR (r := rIn K false) op_in_seq (pv 3) (pv 2) (by rfl)))) (fun _ _ _ _ _ => (pv 3))) (pv 2) (nomark _))
  (pss_one (ps_ret pe_bl))
  pss_nil)))
  (pss_cons (ps_set (i := 4) scL_kept.nd rfl (Or.inr rfl) (pe_lst pa_nil))
  (pss_cons (ps_for (wi := iList K _) PassesOwn.never rfl (pi_list (pv 0)) (pg_name (i := 2) scL_kept.nd rfl (Or.inr rfl))
  (pss_one (ps_set (i := 4) scL_kept.nd rfl (Or.inr rfl) (pe_op op_cat (pv 4) (pe_lc (wi := iList K _) (own := [("_law_word", 3)]) (g := gName 3) (by rfl) scL_kept.nd (pi_list (pv 2)) (blkOk_by (N := nL_kept) (sc := defScope sL_kept) (by decide +kernel)) (fun _ _ _ _ _ => pg_name (i := 3) scL_kept.nd rfl (Or.inl rfl)) (fun _ _ _ _ _ => (pts_one (pt_cmpR (r := rIn K true) op_notIn_seq (pv 3) (pv 4) (by rfl)))) (fun _ _ _ _ _ => (pv 3)))))))
  (pss_one (ps_ret (pe_cmpR (r := rEqD K) (op_eqD hr.units) (pe_callB (r := rSortedS K) cr_sortedS (by rfl) T.sorted (by decide +kernel) (pa_cons (pv 4) pa_nil)) (pe_callB (r := rSortedS K) cr_sortedS (by rfl) T.sorted (by decide +kernel) (pa_cons (pv 1) pa_nil)) (nomark _))))))), ?_⟩
    have hlen := Rd.pair_len hp
    have M := merges hm
    have l64 : l.length < 64 := Nat.lt_of_le_of_lt (mrg_len hm) sz64
    have lw : ∀ w ∈ l, W 100 w := fun w hw => by
      obtain ⟨r, hr, hw⟩ := (M.mem w).mp hw
      exact (rs.r r hr).w w hw
    repeat walk_at "rd"
    refine ⟨_, rfl, a, rfl, ⟨xs, hl⟩, for_list (K := K) (a := a) (xs := xs) (fun i σ H1 => ∃ v, σ = [some (.ref a), some (.ref t), v, none, none] ∧ Same H H1) ⟨none, rfl, Same.refl _⟩ (fun i σ H1 _ ⟨_, _, s⟩ => s.seq hl) ?_ ?_⟩
    · rintro i x σ H1 hx ⟨v, rfl, s⟩
      obtain ⟨r, hr0, p, rfl, hrl⟩ := Rd.pair_get hp hx
      have mem : r ∈ rows := List.mem_of_getElem? hr0
      have hr1 := s.seq hrl
      have ht1 := s.seq ht
      repeat walk_at "rd"
      refine Rd.lcL (K := K) (a := t) (xs := l.map V.str) (bs := l) (fun s x _ => x = V.str s) (fun s x _ => x = V.str s) (fun x => decide (x ∈ r)) id (fun R k => Rd.var rfl k) ht1 (fun _ _ _ _ _ h => h) (fun _ _ _ _ _ h => h)
        (strs_pair l H1) (by rw [List.length_map]; omega) (fun _ => rfl) ?_ ?_ ?_
      · rintro s2 x H2 R2 hs rfl _ s2' k2
        have hr2 := s2'.seq hr1
        repeat walk_at "rd"
        refine Rd.inL hr2 rfl (flat_strs _) ?_
        repeat walk_at "rd"
        have e2 : (if (false : Bool) = true then !inV (.str s2) (r.map V.str) else inV (.str s2) (r.map V.str)) = decide (s2 ∈ r) := by rw [inV_str]; rfl
        rw [e2]
        exact k2 _ (Same.refl _)
      · rintro s2 x H2 R2 hs _ rfl _ s2' k2
        repeat walk_at "rd"
        exact k2 _ _ (Same.refl _) (Rd.off_any (B := fun y => y = V.str s2) rfl)
      · intro D ys H2 hD s2 hd pq
        have e := Rd.pair_map pq
        rw [List.map_id, M.keeps r mem] at e
        subst e
        repeat walk_at "rd"
        refine Rd.neD (d := dS r) (e := dS r) (dp_S (SqL.of hd)) (dp_S (s2.seq hr1)) (shaped_dS (rs.r r mem).w) (shaped_dS (rs.r r mem).w) ?_
        rw [eqv_dS, decide_eq_true rfl]
        repeat walk_at "rd"
        refine Rd.ff_ ?_
        repeat walk_at "rd"
        exact ⟨_, rfl, s.trans s2⟩
    · rintro σ H1 ⟨v, rfl, s⟩
      repeat walk_at "rd"
      refine ⟨Rd.sz (by simp), fun ev hev => ?_⟩
      repeat walk_at "rd"
      have hl1 := s.seq hl
      have se := Rd.sNew (o := .lst []) hev
      refine ⟨_, rfl, a, rfl, ⟨xs, se.seq hl1⟩, for_list (K := K) (a := a) (xs := xs) (fun i σ H2 => ∃ v ev e, σ = [some (.ref a), some (.ref t), v, none, some (.ref ev)] ∧ Same H H2 ∧ H2 ev = some (.lst (e.map V.str)) ∧ EvInv (rows.take i) e ∧ e.length ≤ i * 100)
        ⟨_, ev, [], rfl, s.trans se, upd_same, ⟨by simp, by simp⟩, by simp⟩ (fun i σ H1 _ ⟨_, _, _, _, s, _⟩ => s.seq hl) ?_ ?_⟩
      · rintro i x σ H2 hx ⟨v, ev, e, rfl, s2, he, E1, el⟩
        obtain ⟨r, hr0, p, rfl, hrl⟩ := Rd.pair_get hp hx
        have mem : r ∈ rows := List.mem_of_getElem? hr0
        have hr2 := s2.seq hrl
        have i100 : i < 100 := by
          have := (List.getElem?_eq_some_iff.mp hr0).1
          have := rs.n
          omega
        have r100 := (rs.r r mem).n
        repeat walk_at "rd"
        refine Rd.lcL (K := K) (a := p) (xs := r.map V.str) (bs := r) (fun s x _ => x = V.str s) (fun s x _ => x = V.str s) (fun x => decide (x ∉ e)) id (fun R k => Rd.var rfl k) hr2 (fun _ _ _ _ _ h => h) (fun _ _ _ _ _ h => h)
          (strs_pair r H2) (by rw [List.length_map]; omega) (fun _ => rfl) ?_ ?_ ?_
        · rintro s3 x H3 R3 hs rfl _ s3' k3
          have he3 := s3' _ _ he
          repeat walk_at "rd"
          refine Rd.inL (SqL.of he3) rfl (flat_strs _) ?_
          repeat walk_at "rd"
          have e2 : (if (true : Bool) = true then !inV (.str s3) (e.map V.str) else inV (.str s3) (e.map V.str)) = decide (s3 ∉ e) := by rw [inV_str, if_pos rfl]; simp
          rw [e2]
          exact k3 _ (Same.refl _)
        · rintro s3 x H3 R3 hs _ rfl _ s3' k3
          repeat walk_at "rd"
          exact k3 _ _ (Same.refl _) (Rd.off_any (B := fun y => y = V.str s3) rfl)
        · intro D ys H3 hD s3 hd pq
          have e3 := Rd.pair_map pq
          rw [List.map_id] at e3
          subst e3
          have fl := List.length_filter_le (fun x => decide (x ∉ e)) r
          repeat walk_at "rd"
          refine Rd.cat (s3 _ _ he) hd (Rd.sz (by simp only [List.length_map]; omega)) fun n hn => ?_
          repeat walk_at "rd"
          refine ⟨_, n, e ++ r.filter fun x => decide (x ∉ e), rfl, (s2.trans s3).trans (Rd.sNew hn), by rw [List.map_append]; exact upd_same, ?_, ?_⟩
          · rw [Rd.take_succ hr0]
            exact ev_step E1 (row_nodup M mem)
          · rw [List.length_append]; omega
      · rintro σ H2 ⟨v, ev, e, rfl, s2, he, E1, el⟩
        rw [← hlen, List.take_length] at E1
        have pm := every_perm M E1
        have ew : ∀ w ∈ e, W 100 w := fun w hw => lw w (pm.subset hw)
        repeat walk_at "rd"
        refine ⟨ev, e, rfl, SqL.of he, by rw [pm.length_eq]; exact l64, fun ys1 p1 q1 o1 n1 => ?_⟩
        have t1 := Rd.sNew (o := .lst (ys1.map V.str)) n1
        repeat walk_at "rd"
        refine ⟨t, l, rfl, (s2.trans t1).seq ht, l64, fun ys2 p2 q2 o2 n2 => ?_⟩
        have t2 := Rd.sNew (o := .lst (ys2.map V.str)) n2
        have same : ys1 = ys2 := sorted_same ((q1.trans pm).trans q2.symm) o1 o2
        refine Rd.eqD (d := dS ys1) (e := dS ys2) (dp_S (SqL.of (t2 _ _ upd_same))) (dp_S (SqL.of upd_same)) (shaped_dS fun w hw => ew w (q1.subset hw)) (shaped_dS fun w hw => lw w (q2.subset hw)) ?_
        rw [eqv_dS, decide_eq_true same]
        exact q _ ((s2.trans t1).trans t2)
end
end Ab
namespace Ab
open M6 M7 W6 Dt PySem.Spec PyProof.Rows
/-- what merged hands back -/
def Opt (o : Option (List Str)) (v : V) (H : Hp) : Prop := match o with
  | none => v = .non
  | some l => ∃ p, v = .ref p ∧ H p = some (.lst (l.map V.str))
theorem Opt.mono {o : Option (List Str)} {v : V} {H H' : Hp} (s : Same H H') (h : Opt o v H) : Opt o v H' := by
  cases o with
  | none => exact h
  | some l =>
    obtain ⟨p, e, h⟩ := h
    exact ⟨p, e, s _ _ h⟩
theorem Opt.dp {K : PySem.W.Frag} {o : Option (List Str)} {v : V} {H : Hp} (h : Opt o v H) : Dp K H v (dO o) := by
  cases o with
  | none =>
    obtain rfl : v = .non := h
    exact .non
  | some l =>
    obtain ⟨p, rfl, h⟩ := h
    exact dp_S (SqL.of h)
section
variable {P : Program} {w : World} {K : PySem.W.Frag} {mg : Str → Option Value} {base : Heap}
theorem sp_merged {a : Addr} {rows : List (List Str)} {H : Hp} {Q : VK} {E : XK} (h : RowsAt K rows a H) (s : Small rows) (k : ∀ v H', Same H H' → Opt (mrg rows) v H' → (∀ p, v = .ref p → H p = none) → Q v H') : spMerged K [.ref a] H Q E := by
  refine ⟨a, rows, rfl, h, s, fun e H' s' => k _ _ s' (by rw [e]; rfl) (fun p z => nomatch z), fun l e p H' hp s' hl => k _ _ s' (by rw [e]; exact ⟨p, rfl, hl⟩) fun q z => ?_⟩
  obtain rfl : p = q := V.ref.inj z
  exact hp
theorem sp_merge {a : Addr} {rows : List (List Str)} {H : Hp} {Q : VK} {E : XK} (h : RowsAt K rows a H) (s : Dt.Rs rows) (k : ∀ v H', Same H H' → Opt (mrg rows) v H' → Q v H') : spMerge K [.ref a] H Q E :=
  ⟨a, rows, rfl, h, s, fun e H' s' => k _ _ s' (by rw [e]; rfl), fun l e p H' hp s' hl => k _ _ s' (by rw [e]; exact ⟨p, rfl, hl⟩)⟩
theorem size_le5 : ∀ {rows : List (List Str)}, (∀ r ∈ rows, r.length ≤ 5) → size rows ≤ rows.length * 5
  | [], _ => Nat.le_refl _
  | a :: rows, h => by
    rw [size_cons, List.length_cons]
    have := size_le5 (rows := rows) fun r hr => h r (List.mem_cons_of_mem _ hr)
    have := h a List.mem_cons_self
    omega
theorem keep_same {p : Addr} {H H1 H2 : Hp} (k : Keep p H1 H2) (s : Same H H1) (hp : H p = none) : Same H H2 := fun b o e => k b o (ne_of_none e hp) (s b o e)
theorem words_of {rows : List (List Str)} (h : Dt.Rs rows) : ∀ l, mrg rows = some l → ∀ w ∈ l, W 100 w := fun l e w hw =>
  let ⟨r, hr, hx⟩ := ((merges e).mem w).mp hw; (h.r r hr).w w hx
abbrev abc : List Str := ["a", "b", "c"]
abbrev sLaw : Stmt := top 12
abbrev nLaw : List Str := ["_law_script", "_law_k", "_law_pool_here", "_law_rows_here", "_law_kept_here", "_law_told"]
theorem scLaw : FnScope nLaw ["_law_script"] (defScope sLaw) := ⟨rfl, rfl, rfl, by decide +kernel, rfl, by decide +kernel, by decide +kernel⟩
def spLaw (K : PySem.W.Frag) : Sp := fun vs H Q _ => ∃ (a : Addr) (ns : List Int), vs = [.ref a] ∧ SqL K H a (ns.map V.int) ∧ ns.length ≤ 63 ∧ ∀ H', Q (.bl true) H'
theorem ok_law (T : Txt K mg) {f : Addr} {fd : FuncData} (F : Fun K "law" "law" sLaw f fd) (CMerged : CalG P w K mg base 2 "merged" (spMerged K)) (CL_pool : CalG P w K mg base 1 "_law_pool" (spPool K)) (CL_rows : CalG P w K mg base 3 "_law_rows" spRows)
    (CL_merge : CalG P w K mg base 1 "_law_merge" (spMerge K)) (CL_kept : CalG P w K mg base 1 "_law_kept" (spKept K)) : FnG P w K mg base CX0 4 f fd ["_law_script"] (spLaw K) := by
  refine defG0 F scLaw (fun vs H Q E h => ?_) (fun cd A hg outer s H vs Q E hr h => ?_)
  · obtain ⟨a, l, rfl, _⟩ := h
    rfl
  · obtain ⟨a, ns, rfl, hS, n63, q⟩ := h
    refine ⟨_, (pss_cons (ps_if (PW.pt (pw_or (pt_cmpR (r := rNeD K) (op_neD hr.units) (pe_cG CMerged hg hr (by decide) (pa_cons (pe_lst pa_nil) pa_nil)) (pe_lst pa_nil) (nomark _)) (pw_or (pt_cmpR (r := rNeD K) (op_neD hr.units) (pe_cG CMerged hg hr (by decide) (pa_cons (pe_lst (pa_cons (pe_lst pa_nil) (pa_cons (pe_lst pa_nil) pa_nil))) pa_nil)) (pe_lst pa_nil) (nomark _)) (pw_or1 (pt_cmpR op_notN (pe_cG CMerged hg hr (by decide) (pa_cons (pe_lst (pa_cons (pe_lst (pa_cons pe_str (pa_cons pe_str pa_nil))) (pa_cons (pe_lst (pa_cons pe_str (pa_cons pe_str pa_nil))) pa_nil))) pa_nil)) pe_non (nomark _))))))
  (pss_one (ps_ret pe_bl))
  pss_nil)
  (pss_cons (ps_if (PW.pt (pw_or (pt_cmpR op_notN (pe_cG CMerged hg hr (by decide) (pa_cons (pe_lst (pa_cons (pe_lst (pa_cons pe_str (pa_cons pe_str pa_nil))) pa_nil)) pa_nil)) pe_non (nomark _)) (pw_or1 (pt_cmpR (r := rNeD K) (op_neD hr.units) (pe_cG CMerged hg hr (by decide) (pa_cons (pe_lst (pa_cons (pe_lst (pa_cons pe_str (pa_cons pe_str pa_nil))) (pa_cons (pe_lst (pa_cons pe_str (pa_cons pe_str pa_nil))) (pa_cons (pe_lst (pa_cons pe_str (pa_cons pe_str pa_nil))) pa_nil)))) pa_nil)) (pe_lst (pa_cons pe_str (pa_cons pe_str (pa_cons pe_str pa_nil)))) (nomark _)))))
  (pss_one (ps_ret pe_bl))
  pss_nil)
  (pss_cons (ps_for PassesOwn.never rfl (pi_range1 (by rfl) T.range (pa_cons (pe_callB (call_max2 rfl) (by rfl) T.max (by decide +kernel) (pa_cons pe_int (pa_cons (pe_callB (call_min2 rfl) (by rfl) T.min (by decide +kernel) (pa_cons pe_int (pa_cons (pe_callB (r := Rd.rLenK K) Rd.callLen (by rfl) T.len PySem.boot_len (pa_cons (pv 0) pa_nil)) pa_nil))) pa_nil))) pa_nil)) (pg_name (i := 1) scLaw.nd rfl (Or.inl rfl))
  (pss_cons (ps_set (i := 2) scLaw.nd rfl (Or.inl rfl) (pe_cG CL_pool hg hr (by decide) (pa_cons (pv 0) (pa_cons (pv 1) pa_nil))))
  (pss_cons (ps_set (i := 3) scLaw.nd rfl (Or.inl rfl) (pe_cG CL_rows hg hr (by decide) (pa_cons (pv 2) pa_nil)))
  (pss_cons (ps_set (i := 4) scLaw.nd rfl (Or.inl rfl) (pe_callB (r := rRepr K) (call_reprD hg hr.units) (by rfl) T.repr (by decide +kernel) (pa_cons (pv 3) pa_nil)))
  (pss_cons (ps_set (i := 5) scLaw.nd rfl (Or.inl rfl) (pe_cG CMerged hg hr (by decide) (pa_cons (pv 3) pa_nil)))
  (pss_cons (ps_if (PW.pt (pw_or (pt_cmpR op_ne (pe_callB (r := rRepr K) (call_reprD hg hr.units) (by rfl) T.repr (by decide +kernel) (pa_cons (pv 5) pa_nil)) (pe_callB (r := rRepr K) (call_reprD hg hr.units) (by rfl) T.repr (by decide +kernel) (pa_cons (pe_cG CL_merge hg hr (by decide) (pa_cons (pv 3) pa_nil)) pa_nil)) (nomark _)) (pw_or1 (pt_cmpR op_ne (pe_callB (r := rRepr K) (call_reprD hg hr.units) (by rfl) T.repr (by decide +kernel) (pa_cons (pv 3) pa_nil)) (pv 4) (nomark _)))))
  (pss_one (ps_ret pe_bl))
  pss_nil)
  (C8.pss_cut (ps_if (pt_cmpR op_notN (pv 5) pe_non (nomark _))
  (pss_cons (ps_if (pt_not (pt_val (pe_cG CL_kept hg hr (by decide) (pa_cons (pv 3) (pa_cons (pv 5) pa_nil)))))
  (pss_one (ps_ret pe_bl))
  pss_nil)
  (pss_cons (ps_expr (pe_bm PySem.F.plainAttrs_list PySem.F.slot_list_append PySem.F.type_list_append mt_append (pv 5) (pa_cons pe_str pa_nil)))
  (pss_one (ps_if (PW.pt (pw_or (pt_cmpR op_ne (pe_callB (r := rRepr K) (call_reprD hg hr.units) (by rfl) T.repr (by decide +kernel) (pa_cons (pv 3) pa_nil)) (pv 4) (nomark _)) (pw_or1 (pt_cmpR (r := rNeD K) (op_neD hr.units) (pe_cG CMerged hg hr (by decide) (pa_cons (pv 3) pa_nil)) (pe_cG CL_merge hg hr (by decide) (pa_cons (pv 3) pa_nil)) (nomark _)))))
  (pss_one (ps_ret pe_bl))
  pss_nil))))
  pss_nil)
  (pss_one (ps_if (PW.pt (pw_or (pt_cmpR (r := rNeD K) (op_neD hr.units) (pe_cG CMerged hg hr (by decide) (pa_cons (pe_op op_cat (pv 3) (pe_lst (pa_cons (pe_lst pa_nil) pa_nil))) pa_nil)) (pe_cG CL_merge hg hr (by decide) (pa_cons (pv 3) pa_nil)) (nomark _)) (pw_or1 (pt_cmpR (r := rNeD K) (op_neD hr.units) (pe_cG CMerged hg hr (by decide) (pa_cons (pe_lst (pa_cons (pe_lst pa_nil) (pa_cons (pe_callTy (r := Rd.rListS) (Rd.callListS rfl) (by rfl) T.list (by decide +kernel) (pa_cons pe_str pa_nil)) pa_nil))) pa_nil)) (pe_callTy (r := Rd.rListS) (Rd.callListS rfl) (by rfl) T.list (by decide +kernel) (pa_cons pe_str pa_nil)) (nomark _)))))
  (pss_one (ps_ret pe_bl))
  pss_nil)))))))))
  (pss_one (ps_ret pe_bl))))), ?_⟩
    have e1 : mrg ([] : List (List Str)) = some [] := by decide +kernel
    have e2 : mrg ([[], []] : List (List Str)) = some [] := by decide +kernel
    have e3 : mrg ([["a", "b"], ["b", "a"]] : List (List Str)) = none := by decide +kernel
    have e4 : mrg ([["a", "a"]] : List (List Str)) = none := by decide +kernel
    have e5 : mrg ([["a", "c"], ["b", "c"], ["a", "b"]] : List (List Str)) = some abc := by decide +kernel
    have e6 : mrg ([[], abc] : List (List Str)) = some abc := by decide +kernel
    have e7 : Rd.signs "abc" = abc := by decide +kernel
    have wa : W 100 "a" := ⟨by decide +kernel, by decide +kernel⟩
    have wb : W 100 "b" := ⟨by decide +kernel, by decide +kernel⟩
    have wc : W 100 "c" := ⟨by decide +kernel, by decide +kernel⟩
    have wabc : ∀ l : List Str, some abc = some l → ∀ w ∈ l, W 100 w := by
      intro l e w hw
      obtain rfl : abc = l := Option.some.inj e
      simp at hw
      rcases hw with rfl | rfl | rfl <;> assumption
    have wnil : ∀ l : List Str, some ([] : List Str) = some l → ∀ w ∈ l, W 100 w := by
      intro l e w hw
      obtain rfl : [] = l := Option.some.inj e
      simp at hw
    -- the first test
    repeat walk_at "rd"
    refine ⟨Rd.sz (by simp), fun p1 h1 => ?_⟩
    repeat walk_at "rd"
    refine sp_merged (rows := []) ⟨[], SqL.of upd_same, .nil⟩ ⟨by simp, by simp⟩ fun v1 H1 t1 o1 _ => ?_
    rw [e1] at o1
    repeat walk_at "rd"
    refine ⟨Rd.sz (by simp), fun q1 g1 => ?_⟩
    refine Rd.neD (d := dO (some [])) (e := dO (some [])) (o1.mono (Rd.sNew g1)).dp (dp_S (r := []) (SqL.of upd_same)) (shaped_dO wnil) (shaped_dO wnil) ?_
    rw [eqv_dO, decide_eq_true rfl]
    have s1 : Same H (upd H1 q1 (.lst [])) := ((Rd.sNew h1).trans t1).trans (Rd.sNew g1)
    generalize upd H1 q1 (.lst []) = I1 at s1
    repeat walk_at "rd"
    refine Rd.ff_ ?_
    repeat walk_at "rd"
    refine ⟨Rd.sz (by simp), fun p1 h1 => ?_⟩
    repeat walk_at "rd"
    refine ⟨Rd.sz (by simp), fun p2 h2 => ?_⟩
    repeat walk_at "rd"
    refine ⟨Rd.sz (by simp), fun p3 h3 => ?_⟩
    repeat walk_at "rd"
    refine sp_merged (rows := [[], []]) ⟨[.ref p1, .ref p2], SqL.of upd_same, .cons ⟨p1, rfl, SqL.of (Rd.sNew h3 _ _ (Rd.sNew h2 _ _ upd_same))⟩ (.cons ⟨p2, rfl, SqL.of (Rd.sNew h3 _ _ upd_same)⟩ .nil)⟩ ⟨by simp, by simp⟩ fun v1 H1 t1 o1 _ => ?_
    rw [e2] at o1
    repeat walk_at "rd"
    refine ⟨Rd.sz (by simp), fun q1 g1 => ?_⟩
    refine Rd.neD (d := dO (some [])) (e := dO (some [])) (o1.mono (Rd.sNew g1)).dp (dp_S (r := []) (SqL.of upd_same)) (shaped_dO wnil) (shaped_dO wnil) ?_
    rw [eqv_dO, decide_eq_true rfl]
    have s2 : Same H (upd H1 q1 (.lst [])) := ((((s1.trans (Rd.sNew h1)).trans (Rd.sNew h2)).trans (Rd.sNew h3)).trans t1).trans (Rd.sNew g1)
    generalize upd H1 q1 (.lst []) = I2 at s2
    clear o1 t1 g1 h1 h2 h3
    repeat walk_at "rd"
    refine Rd.ff_ ?_
    repeat walk_at "rd"
    refine ⟨Rd.sz (by simp), fun p1 h1 => ?_⟩
    repeat walk_at "rd"
    refine ⟨Rd.sz (by simp), fun p2 h2 => ?_⟩
    repeat walk_at "rd"
    refine ⟨Rd.sz (by simp), fun p3 h3 => ?_⟩
    repeat walk_at "rd"
    refine sp_merged (rows := [["a", "b"], ["b", "a"]]) ⟨[.ref p1, .ref p2], SqL.of upd_same, .cons ⟨p1, rfl, SqL.of (Rd.sNew h3 _ _ (Rd.sNew h2 _ _ upd_same))⟩ (.cons ⟨p2, rfl, SqL.of (Rd.sNew h3 _ _ upd_same)⟩ .nil)⟩ ⟨by simp, by simp⟩ fun v1 H1 t1 o1 _ => ?_
    rw [e3] at o1
    obtain rfl : v1 = .non := o1
    have s3 : Same H H1 := (((s2.trans (Rd.sNew h1)).trans (Rd.sNew h2)).trans (Rd.sNew h3)).trans t1
    clear t1 h1 h2 h3
    repeat walk_at "rd"
    refine Rd.ndec (fun c => absurd rfl c) (fun _ => ?_)
    repeat walk_at "rd"
    -- the second
    refine ⟨Rd.sz (by simp), fun p1 h1 => ?_⟩
    repeat walk_at "rd"
    refine ⟨Rd.sz (by simp), fun p3 h3 => ?_⟩
    repeat walk_at "rd"
    refine sp_merged (rows := [["a", "a"]]) ⟨[.ref p1], SqL.of upd_same, .cons ⟨p1, rfl, SqL.of (Rd.sNew h3 _ _ upd_same)⟩ .nil⟩ ⟨by simp, by simp⟩ fun v1 H4 t1 o1 _ => ?_
    rw [e4] at o1
    obtain rfl : v1 = .non := o1
    have s4 : Same H H4 := ((s3.trans (Rd.sNew h1)).trans (Rd.sNew h3)).trans t1
    clear t1 h1 h3
    repeat walk_at "rd"
    refine Rd.ndec (fun c => absurd rfl c) (fun _ => ?_)
    repeat walk_at "rd"
    refine ⟨Rd.sz (by simp), fun p1 h1 => ?_⟩
    repeat walk_at "rd"
    refine ⟨Rd.sz (by simp), fun p2 h2 => ?_⟩
    repeat walk_at "rd"
    refine ⟨Rd.sz (by simp), fun p3 h3 => ?_⟩
    repeat walk_at "rd"
    refine ⟨Rd.sz (by simp), fun p4 h4 => ?_⟩
    repeat walk_at "rd"
    refine sp_merged (rows := [["a", "c"], ["b", "c"], ["a", "b"]]) ⟨[.ref p1, .ref p2, .ref p3], SqL.of upd_same, .cons ⟨p1, rfl, SqL.of (Rd.sNew h4 _ _ (Rd.sNew h3 _ _ (Rd.sNew h2 _ _ upd_same)))⟩ (.cons ⟨p2, rfl, SqL.of (Rd.sNew h4 _ _ (Rd.sNew h3 _ _ upd_same))⟩ (.cons ⟨p3, rfl, SqL.of (Rd.sNew h4 _ _ upd_same)⟩ .nil))⟩ ⟨by simp, by simp⟩ fun v1 H5 t1 o1 _ => ?_
    rw [e5] at o1
    repeat walk_at "rd"
    refine ⟨Rd.sz (by simp), fun q1 g1 => ?_⟩
    refine Rd.neD (d := dO (some abc)) (e := dO (some abc)) (o1.mono (Rd.sNew g1)).dp (dp_S (r := abc) (SqL.of upd_same)) (shaped_dO wabc) (shaped_dO wabc) ?_
    rw [eqv_dO, decide_eq_true rfl]
    have s5 : Same H (upd H5 q1 (.lst [.str "a", .str "b", .str "c"])) := (((((s4.trans (Rd.sNew h1)).trans (Rd.sNew h2)).trans (Rd.sNew h3)).trans (Rd.sNew h4)).trans t1).trans (Rd.sNew g1)
    generalize upd H5 q1 (.lst [.str "a", .str "b", .str "c"]) = I5 at s5
    clear o1 t1 g1 h1 h2 h3 h4
    repeat walk_at "rd"
    refine Rd.ff_ ?_
    have hS5 := s5.seq hS
    repeat walk_at "rd"
    refine Rd.rng (by (repeat' split) <;> omega) (by (repeat' split) <;> omega) ?_
    refine Rd.forGo (fun i σ H1 => ∃ v1 v2 v3 v4 v5, σ = [some (.ref a), v1, v2, v3, v4, v5] ∧ Same H H1) ⟨none, none, none, none, none, rfl, s5⟩ ?_ ?_
    · rintro i σ H1 hi ⟨v1, v2, v3, v4, v5, rfl, s⟩
      have i20 : i < 1000 := by
        revert hi
        (repeat' split) <;> intro hi <;> omega
      repeat walk_at "rd"
      refine ⟨a, ns, i, rfl, s.seq hS, by omega, by omega, fun p x y hp ok => ?_⟩
      have hpH := Same.free s hp
      have sp := s.trans (Rd.sNew (o := .lst [.int x, .int y]) hp)
      repeat walk_at "rd"
      refine ⟨p, x, y, rfl, upd_same, ok, fun L rows x2 y2 H2 nr ro ok2 hp2 kp => ?_⟩
      have s2 := keep_same kp sp hpH
      obtain ⟨xs, hL, pairs⟩ := nr.at_
      have prs : Paired (fun r x => Strs K r x H2) rows xs := Rd.pair_imp (fun r x ⟨q, e, _, hq⟩ => ⟨q, e, SqL.of hq⟩) pairs
      have rA : RowsAt K rows L H2 := ⟨xs, SqL.of hL, prs⟩
      have prm : ∀ {H' : Hp}, Same H2 H' → Paired (fun r x => Strs K r x H') rows xs := fun s => Rd.pair_imp (fun r x => Strs.stays K r x _ _ s) prs
      have rs : Dt.Rs rows := ⟨Nat.le_trans ro.n (by decide), fun r hr => ⟨Nat.le_trans (ro.m r hr) (by decide), fun w hw => (ro.w r hr w hw).mono (by decide)⟩⟩
      have sz := size_le5 ro.m
      have rn := ro.n
      have hs := words_of rs
      have ts : ∀ l, mrg rows = some l → Ts l := fun l e => ⟨by have := mrg_len e; omega, hs l e⟩
      have xl := Rd.pair_len pairs
      repeat walk_at "rd"
      refine Rd.repr_ rA.dp (show_dR _) (nodict_dR _) (deep_dR _) (shown_dR rs) ?_
      repeat walk_at "rd"
      refine sp_merged rA (rsSmall rs) fun v H3 s3 o3 n3 => ?_
      repeat walk_at "rd"
      refine Rd.repr_ (K := K) o3.dp (show_dO _) (nodict_dO _) (deep_dO _) (shown_dO ts) ?_
      repeat walk_at "rd"
      refine sp_merge (rA.mono s3) rs fun v' H4 s4 o4 => ?_
      repeat walk_at "rd"
      refine Rd.repr_ (K := K) o4.dp (show_dO _) (nodict_dO _) (deep_dO _) (shown_dO ts) ?_
      have s24 := s3.trans s4
      repeat walk_at "rd"
      refine Rd.ndec (fun c => absurd rfl c) (fun _ => ?_)
      repeat walk_at "rd"
      refine Rd.repr_ (rA.mono s24).dp (show_dR _) (nodict_dR _) (deep_dR _) (shown_dR rs) ?_
      repeat walk_at "rd"
      refine Rd.ndec (fun c => absurd rfl c) (fun _ => ?_)
      repeat walk_at "rd"
      refine Rd.cut (fun σ' H' => σ' = [some (.ref a), some (.int (i : Int)), some (.ref p), some (.ref L), some (.str (dR rows).shown), some v] ∧ Same H H' ∧ H' L = some (.lst xs) ∧ Paired (fun r x => Strs K r x H') rows xs) ?_ ?_
      · repeat walk_at "rd"
        cases hm : mrg rows with
        | none =>
          rw [hm] at o3
          obtain rfl : v = .non := o3
          refine Rd.ndec (fun c => absurd rfl c) (fun _ => ?_)
          repeat walk_at "rd"
          exact ⟨rfl, s2.trans s24, s24 _ _ hL, prm s24⟩
        | some l =>
          have o3' := o3
          rw [hm] at o3'
          obtain ⟨pt, rfl, ht3⟩ := o3'
          have npt := n3 pt rfl
          refine Rd.ndec (fun _ => ?_) (fun c => nomatch c)
          repeat walk_at "rd"
          refine ⟨L, pt, rows, l, rfl, rA.mono s24, SqL.of (s4 _ _ ht3), rs, by omega, hm, fun H5 s5' => ?_⟩
          have s25 := s24.trans s5'
          have ht5 := s5' _ _ (s4 _ _ ht3)
          repeat walk_at "rd"
          refine Rd.ff_ ?_
          repeat walk_at "rd"
          refine ⟨Rd.ty_list ht5, ?_⟩
          repeat walk_at "rd"
          refine Rd.app ht5 (Rd.szl (by rw [List.length_map]; have := (ts l hm).n; omega)) ?_
          have s26 : Same H2 (upd H5 pt (.lst (l.map V.str ++ [.str "more"]))) := Rd.sMut s25 npt
          generalize upd H5 pt (.lst (l.map V.str ++ [.str "more"])) = H6 at s26
          have r6 := rA.mono s26
          repeat walk_at "rd"
          refine Rd.repr_ r6.dp (show_dR _) (nodict_dR _) (deep_dR _) (shown_dR rs) ?_
          repeat walk_at "rd"
          refine Rd.ndec (fun c => absurd rfl c) (fun _ => ?_)
          repeat walk_at "rd"
          refine sp_merged r6 (rsSmall rs) fun v7 H7 s7 o7 _ => ?_
          repeat walk_at "rd"
          refine sp_merge (r6.mono s7) rs fun v8 H8 s8 o8 => ?_
          refine Rd.neD (d := dO (mrg rows)) (e := dO (mrg rows)) (o7.mono s8).dp o8.dp (shaped_dO hs) (shaped_dO hs) ?_
          rw [eqv_dO, decide_eq_true rfl]
          repeat walk_at "rd"
          refine Rd.ff_ ?_
          repeat walk_at "rd"
          have s28 := s26.trans (s7.trans s8)
          exact ⟨rfl, s2.trans s28, s28 _ _ hL, prm s28⟩
      · rintro σ' H5 ⟨rfl, s5', hL5, p5⟩
        have r5 : RowsAt K rows L H5 := ⟨xs, SqL.of hL5, p5⟩
        repeat walk_at "rd"
        refine ⟨Rd.sz (by simp), fun e he => ?_⟩
        repeat walk_at "rd"
        refine ⟨Rd.sz (by simp), fun g hg' => ?_⟩
        have se := Rd.sNew (o := .lst []) he
        have sg := Rd.sNew (o := .lst [.ref e]) hg'
        refine Rd.cat (sg _ _ (se _ _ hL5)) upd_same (Rd.sz (by simp; omega)) fun r hr => ?_
        have sr := Rd.sNew (o := .lst (xs ++ [.ref e])) hr
        repeat walk_at "rd"
        have r6 : RowsAt K (rows ++ [[]]) r (upd (upd (upd H5 e (.lst [])) g (.lst [.ref e])) r (.lst (xs ++ [.ref e]))) := by
          have sa := (se.trans sg).trans sr
          exact ⟨xs ++ [.ref e], SqL.of upd_same, (Rd.pair_imp (fun r x => Strs.stays K r x _ _ sa) p5).snoc ⟨e, rfl, SqL.of (sr _ _ (sg _ _ upd_same))⟩⟩
        refine sp_merged r6 ?_ fun v7 H7 s7 o7 _ => ?_
        · refine ⟨by rw [List.length_append]; simp; omega, fun r hr => ?_⟩
          rw [List.mem_append] at hr
          rcases hr with hr | hr
          · exact (rs.r r hr).n
          · obtain rfl : r = [] := by simpa using hr
            simp
        rw [full_more] at o7
        repeat walk_at "rd"
        refine sp_merge (r5.mono (((se.trans sg).trans sr).trans s7)) rs fun v8 H8 s8 o8 => ?_
        refine Rd.neD (d := dO (mrg rows)) (e := dO (mrg rows)) (o7.mono s8).dp o8.dp (shaped_dO hs) (shaped_dO hs) ?_
        rw [eqv_dO, decide_eq_true rfl]
        repeat walk_at "rd"
        have s58 : Same H H8 := s5'.trans ((((se.trans sg).trans sr).trans s7).trans s8)
        refine Rd.ff_ ?_
        repeat walk_at "rd"
        refine ⟨Rd.sz (by simp), fun p1 h1 => ?_⟩
        repeat walk_at "rd"
        refine Rd.listS (Rd.sz (by decide +kernel)) fun p2 h2 => ?_
        rw [e7]
        repeat walk_at "rd"
        refine ⟨Rd.sz (by simp), fun p3 h3 => ?_⟩
        repeat walk_at "rd"
        refine sp_merged (rows := [[], abc]) ⟨[.ref p1, .ref p2], SqL.of upd_same, .cons ⟨p1, rfl, SqL.of (Rd.sNew h3 _ _ (Rd.sNew h2 _ _ upd_same))⟩ (.cons ⟨p2, rfl, SqL.of (Rd.sNew h3 _ _ upd_same)⟩ .nil)⟩ ⟨by simp, by simp⟩ fun v1 H9 t1 o1 _ => ?_
        rw [e6] at o1
        repeat walk_at "rd"
        refine Rd.listS (Rd.sz (by decide +kernel)) fun p4 h4 => ?_
        rw [e7]
        refine Rd.neD (d := dO (some abc)) (e := dO (some abc)) (o1.mono (Rd.sNew h4)).dp (dp_S (r := abc) (SqL.of upd_same)) (shaped_dO wabc) (shaped_dO wabc) ?_
        rw [eqv_dO, decide_eq_true rfl]
        repeat walk_at "rd"
        refine Rd.ff_ ?_
        repeat walk_at "rd"
        exact ⟨_, _, _, _, _, rfl, ((((s58.trans (Rd.sNew h1)).trans (Rd.sNew h2)).trans (Rd.sNew h3)).trans t1).trans (Rd.sNew h4)⟩
    · rintro σ H1 ⟨v1, v2, v3, v4, v5, rfl, s⟩
      repeat walk_at "rd"
      exact q H1
theorem all_ok (T : Txt K mg) (D1 : DefAt K mg "_free_head" sFree_head ["rows"]) (D2 : DefAt K mg "_without" sWithout ["rows", "name"]) (D3 : DefAt K mg "merged" sMerged ["rows"]) (D4 : DefAt K mg "_law_pool" sL_pool ["_law_script", "_law_k"])
    (D5 : DefAt K mg "_law_take" sL_take ["_law_pool_here", "_law_many"]) (D6 : DefAt K mg "_law_one" sL_one ["_law_pool_here", "_law_some"]) (D7 : DefAt K mg "_law_words" sL_words ["_law_pool_here", "_law_many"]) (D8 : DefAt K mg "_law_merge" sL_merge ["_law_rows_here"])
    (D9 : DefAt K mg "_law_rows" sL_rows ["_law_pool_here"]) (D10 : DefAt K mg "_law_kept" sL_kept ["_law_rows_here", "_law_told"]) {f : Addr} {fd : FuncData} (F : Fun K "law" "law" sLaw f fd) : FnG P w K mg base CX0 4 f fd ["_law_script"] (spLaw K) :=
  have take := ok_take T D5
  ok_law T F (ok_merged T D3 (ok_free T D1) (ok_without T D2)) (ok_pool T D4) (ok_rows T D9 take (ok_one T D6 take) (ok_words T D7 take)) (ok_merge T D8) (ok_kept T D10)
end
end Ab
namespace Ab
theorem all_mk {l : PySem.W.OpenLaw} {w : World} {K : PySem.W.Frag} {h : Heap} {mg : Str → Option Value} {fa : Addr} (X : K.In h) (G : h.Ns mainGlobals mg) (hfa : mg "law" = some (.ref fa))
    {f1 : Addr} {od1 an1 : Option Addr} {sl1 : Array (Option Value)} {oc1 kV1 dc1 pm1 cd1 ct1 : Value}
    {f2 : Addr} {od2 an2 : Option Addr} {sl2 : Array (Option Value)} {oc2 kV2 dc2 pm2 cd2 ct2 : Value}
    {f3 : Addr} {od3 an3 : Option Addr} {sl3 : Array (Option Value)} {oc3 kV3 dc3 pm3 cd3 ct3 : Value}
    {f4 : Addr} {od4 an4 : Option Addr} {sl4 : Array (Option Value)} {oc4 kV4 dc4 pm4 cd4 ct4 : Value}
    {f5 : Addr} {od5 an5 : Option Addr} {sl5 : Array (Option Value)} {oc5 kV5 dc5 pm5 cd5 ct5 : Value}
    {f6 : Addr} {od6 an6 : Option Addr} {sl6 : Array (Option Value)} {oc6 kV6 dc6 pm6 cd6 ct6 : Value}
    {f7 : Addr} {od7 an7 : Option Addr} {sl7 : Array (Option Value)} {oc7 kV7 dc7 pm7 cd7 ct7 : Value}
    {f8 : Addr} {od8 an8 : Option Addr} {sl8 : Array (Option Value)} {oc8 kV8 dc8 pm8 cd8 ct8 : Value}
    {f9 : Addr} {od9 an9 : Option Addr} {sl9 : Array (Option Value)} {oc9 kV9 dc9 pm9 cd9 ct9 : Value}
    {f10 : Addr} {od10 an10 : Option Addr} {sl10 : Array (Option Value)} {oc10 kV10 dc10 pm10 cd10 ct10 : Value}
    {f11 : Addr} {od11 an11 : Option Addr} {sl11 : Array (Option Value)} {oc11 kV11 dc11 pm11 cd11 ct11 : Value}
    (a1 : PySem.W.nsIn K mainGlobals "_free_head" = some (some (.ref f1))) (l1 : K.lookup f1 = some ⟨oc1, od1, .func (PySem.W.fnOf "_free_head" "_free_head" (defArgs sFree_head) (defBody sFree_head) (defScope sFree_head) .none kV1 dc1 pm1 an1 cd1 ct1), sl1⟩) (c1 : PySem.W.codeIn K cd1 "_free_head" = true) (k1 : PySem.W.keepIn K (.ref f1) = true)
    (a2 : PySem.W.nsIn K mainGlobals "_without" = some (some (.ref f2))) (l2 : K.lookup f2 = some ⟨oc2, od2, .func (PySem.W.fnOf "_without" "_without" (defArgs sWithout) (defBody sWithout) (defScope sWithout) .none kV2 dc2 pm2 an2 cd2 ct2), sl2⟩) (c2 : PySem.W.codeIn K cd2 "_without" = true) (k2 : PySem.W.keepIn K (.ref f2) = true)
    (a3 : PySem.W.nsIn K mainGlobals "merged" = some (some (.ref f3))) (l3 : K.lookup f3 = some ⟨oc3, od3, .func (PySem.W.fnOf "merged" "merged" (defArgs sMerged) (defBody sMerged) (defScope sMerged) .none kV3 dc3 pm3 an3 cd3 ct3), sl3⟩) (c3 : PySem.W.codeIn K cd3 "merged" = true) (k3 : PySem.W.keepIn K (.ref f3) = true)
    (a4 : PySem.W.nsIn K mainGlobals "_law_pool" = some (some (.ref f4))) (l4 : K.lookup f4 = some ⟨oc4, od4, .func (PySem.W.fnOf "_law_pool" "_law_pool" (defArgs sL_pool) (defBody sL_pool) (defScope sL_pool) .none kV4 dc4 pm4 an4 cd4 ct4), sl4⟩) (c4 : PySem.W.codeIn K cd4 "_law_pool" = true) (k4 : PySem.W.keepIn K (.ref f4) = true)
    (a5 : PySem.W.nsIn K mainGlobals "_law_take" = some (some (.ref f5))) (l5 : K.lookup f5 = some ⟨oc5, od5, .func (PySem.W.fnOf "_law_take" "_law_take" (defArgs sL_take) (defBody sL_take) (defScope sL_take) .none kV5 dc5 pm5 an5 cd5 ct5), sl5⟩) (c5 : PySem.W.codeIn K cd5 "_law_take" = true) (k5 : PySem.W.keepIn K (.ref f5) = true)
    (a6 : PySem.W.nsIn K mainGlobals "_law_one" = some (some (.ref f6))) (l6 : K.lookup f6 = some ⟨oc6, od6, .func (PySem.W.fnOf "_law_one" "_law_one" (defArgs sL_one) (defBody sL_one) (defScope sL_one) .none kV6 dc6 pm6 an6 cd6 ct6), sl6⟩) (c6 : PySem.W.codeIn K cd6 "_law_one" = true) (k6 : PySem.W.keepIn K (.ref f6) = true)
    (a7 : PySem.W.nsIn K mainGlobals "_law_words" = some (some (.ref f7))) (l7 : K.lookup f7 = some ⟨oc7, od7, .func (PySem.W.fnOf "_law_words" "_law_words" (defArgs sL_words) (defBody sL_words) (defScope sL_words) .none kV7 dc7 pm7 an7 cd7 ct7), sl7⟩) (c7 : PySem.W.codeIn K cd7 "_law_words" = true) (k7 : PySem.W.keepIn K (.ref f7) = true)
    (a8 : PySem.W.nsIn K mainGlobals "_law_merge" = some (some (.ref f8))) (l8 : K.lookup f8 = some ⟨oc8, od8, .func (PySem.W.fnOf "_law_merge" "_law_merge" (defArgs sL_merge) (defBody sL_merge) (defScope sL_merge) .none kV8 dc8 pm8 an8 cd8 ct8), sl8⟩) (c8 : PySem.W.codeIn K cd8 "_law_merge" = true) (k8 : PySem.W.keepIn K (.ref f8) = true)
    (a9 : PySem.W.nsIn K mainGlobals "_law_rows" = some (some (.ref f9))) (l9 : K.lookup f9 = some ⟨oc9, od9, .func (PySem.W.fnOf "_law_rows" "_law_rows" (defArgs sL_rows) (defBody sL_rows) (defScope sL_rows) .none kV9 dc9 pm9 an9 cd9 ct9), sl9⟩) (c9 : PySem.W.codeIn K cd9 "_law_rows" = true) (k9 : PySem.W.keepIn K (.ref f9) = true)
    (a10 : PySem.W.nsIn K mainGlobals "_law_kept" = some (some (.ref f10))) (l10 : K.lookup f10 = some ⟨oc10, od10, .func (PySem.W.fnOf "_law_kept" "_law_kept" (defArgs sL_kept) (defBody sL_kept) (defScope sL_kept) .none kV10 dc10 pm10 an10 cd10 ct10), sl10⟩) (c10 : PySem.W.codeIn K cd10 "_law_kept" = true) (k10 : PySem.W.keepIn K (.ref f10) = true)
    (a11 : PySem.W.nsIn K mainGlobals "law" = some (some (.ref f11))) (l11 : K.lookup f11 = some ⟨oc11, od11, .func (PySem.W.fnOf "law" "law" (defArgs sLaw) (defBody sLaw) (defScope sLaw) .none kV11 dc11 pm11 an11 cd11 ct11), sl11⟩) (c11 : PySem.W.codeIn K cd11 "law" = true) (k11 : PySem.W.keepIn K (.ref f11) = true)
    (z_int : PySem.W.nsIn K mainGlobals "int" = some none)
    (z_len : PySem.W.nsIn K mainGlobals "len" = some none)
    (z_max : PySem.W.nsIn K mainGlobals "max" = some none)
    (z_min : PySem.W.nsIn K mainGlobals "min" = some none)
    (z_any : PySem.W.nsIn K mainGlobals "any" = some none)
    (z_range : PySem.W.nsIn K mainGlobals "range" = some none)
    (z_repr : PySem.W.nsIn K mainGlobals "repr" = some none)
    (z_list : PySem.W.nsIn K mainGlobals "list" = some none)
    (z_sorted : PySem.W.nsIn K mainGlobals "sorted" = some none)
    : ∃ fd : FuncData, (∀ (s : Shared) (u : Value), BindsTo s fd ⟨[u], []⟩ [("_law_script", u)]) ∧ ∀ base : Heap, K.In base → base.Ns mainGlobals mg → FnG l.prog w K mg base CX0 4 fa fd ["_law_script"] (spLaw K) := by
  have e := hfa.symm.trans (PySem.W.mg_of X G a11)
  cases e
  have T : Txt K mg := { int := PySem.W.mg_none_of X G z_int, len := PySem.W.mg_none_of X G z_len, max := PySem.W.mg_none_of X G z_max, min := PySem.W.mg_none_of X G z_min, any := PySem.W.mg_none_of X G z_any, range := PySem.W.mg_none_of X G z_range, repr := PySem.W.mg_none_of X G z_repr, list := PySem.W.mg_none_of X G z_list, sorted := PySem.W.mg_none_of X G z_sorted }
  have D1 : DefAt K mg "_free_head" sFree_head ["rows"] := defAt X G (fun _ _ _ _ _ _ us hl => match us, hl with | [_], _ => rfl) a1 l1 c1 k1
  have D2 : DefAt K mg "_without" sWithout ["rows", "name"] := defAt X G (fun _ _ _ _ _ _ us hl => match us, hl with | [_, _], _ => rfl) a2 l2 c2 k2
  have D3 : DefAt K mg "merged" sMerged ["rows"] := defAt X G (fun _ _ _ _ _ _ us hl => match us, hl with | [_], _ => rfl) a3 l3 c3 k3
  have D4 : DefAt K mg "_law_pool" sL_pool ["_law_script", "_law_k"] := defAt X G (fun _ _ _ _ _ _ us hl => match us, hl with | [_, _], _ => rfl) a4 l4 c4 k4
  have D5 : DefAt K mg "_law_take" sL_take ["_law_pool_here", "_law_many"] := defAt X G (fun _ _ _ _ _ _ us hl => match us, hl with | [_, _], _ => rfl) a5 l5 c5 k5
  have D6 : DefAt K mg "_law_one" sL_one ["_law_pool_here", "_law_some"] := defAt X G (fun _ _ _ _ _ _ us hl => match us, hl with | [_, _], _ => rfl) a6 l6 c6 k6
  have D7 : DefAt K mg "_law_words" sL_words ["_law_pool_here", "_law_many"] := defAt X G (fun _ _ _ _ _ _ us hl => match us, hl with | [_, _], _ => rfl) a7 l7 c7 k7
  have D8 : DefAt K mg "_law_merge" sL_merge ["_law_rows_here"] := defAt X G (fun _ _ _ _ _ _ us hl => match us, hl with | [_], _ => rfl) a8 l8 c8 k8
  have D9 : DefAt K mg "_law_rows" sL_rows ["_law_pool_here"] := defAt X G (fun _ _ _ _ _ _ us hl => match us, hl with | [_], _ => rfl) a9 l9 c9 k9
  have D10 : DefAt K mg "_law_kept" sL_kept ["_law_rows_here", "_law_told"] := defAt X G (fun _ _ _ _ _ _ us hl => match us, hl with | [_, _], _ => rfl) a10 l10 c10 k10
  have FL := fun_mk (st := sLaw) l11 c11 k11
  refine ⟨PySem.W.fnOf "law" "law" (defArgs sLaw) (defBody sLaw) (defScope sLaw) .none kV11 dc11 pm11 an11 cd11 ct11, fun s v => .of_eq rfl, fun base _ _ => ?_⟩
  exact all_ok T D1 D2 D3 D4 D5 D6 D7 D8 D9 D10 FL
end Ab
open PySem PySem.W PyProof.Rows
set_option maxRecDepth 100000 in
set_option maxHeartbeats 0 in
theorem PySem.Challenge.cw_answersby_k06_lists_merged_holds : PySem.Challenge.rw_answersby_k06_lists_merged.Holds := by
  w_on; o_law; k_head; (case hw => w_witness2)
  k_fill
  refine Gk.walkG (l := PySem.Challenge.rw_answersby_k06_lists_merged) (n := 63) (k := 4) (x := "_law_script") (sp := fun w => Ab.spLaw _) rfl (by decide) rfl ⟨rfl, by decide, by decide⟩ (fun w h Y => PySem.W.kIn_of Y) ?F (fun w H a ns hl _ hS => ⟨a, ns, rfl, hS, hl, fun _ => rfl⟩)
  case F =>
    intro w mg fa h KX G hmg
    refine' Ab.all_mk KX G hmg ?a1 ?l1 ?c1 ?k1 ?a2 ?l2 ?c2 ?k2 ?a3 ?l3 ?c3 ?k3 ?a4 ?l4 ?c4 ?k4 ?a5 ?l5 ?c5 ?k5 ?a6 ?l6 ?c6 ?k6 ?a7 ?l7 ?c7 ?k7 ?a8 ?l8 ?c8 ?k8 ?a9 ?l9 ?c9 ?k9 ?a10 ?l10 ?c10 ?k10 ?a11 ?l11 ?c11 ?k11 ?z_int ?z_len ?z_max ?z_min ?z_any ?z_range ?z_repr ?z_list ?z_sorted
    (case a1 => k_is)
    (case l1 => k_is)
    (case c1 => k_is)
    (case k1 => k_is)
    (case a2 => k_is)
    (case l2 => k_is)
    (case c2 => k_is)
    (case k2 => k_is)
    (case a3 => k_is)
    (case l3 => k_is)
    (case c3 => k_is)
    (case k3 => k_is)
    (case a4 => k_is)
    (case l4 => k_is)
    (case c4 => k_is)
    (case k4 => k_is)
    (case a5 => k_is)
    (case l5 => k_is)
    (case c5 => k_is)
    (case k5 => k_is)
    (case a6 => k_is)
    (case l6 => k_is)
    (case c6 => k_is)
    (case k6 => k_is)
    (case a7 => k_is)
    (case l7 => k_is)
    (case c7 => k_is)
    (case k7 => k_is)
    (case a8 => k_is)
    (case l8 => k_is)
    (case c8 => k_is)
    (case k8 => k_is)
    (case a9 => k_is)
    (case l9 => k_is)
    (case c9 => k_is)
    (case k9 => k_is)
    (case a10 => k_is)
    (case l10 => k_is)
    (case c10 => k_is)
    (case k10 => k_is)
    (case a11 => k_is)
    (case l11 => k_is)
    (case c11 => k_is)
    (case k11 => k_is)
    (case z_int => k_is)
    (case z_len => k_is)
    (case z_max => k_is)
    (case z_min => k_is)
    (case z_any => k_is)
    (case z_range => k_is)
    (case z_repr => k_is)
    (case z_list => k_is)
    (case z_sorted => k_is)
