import PyProof.Rows.All
import Wide.All
import OpenK.AllK
import Wide.FinOn
import HandS.ForMost
import PyProof.ReprReads
import PyProof.ReprRoads
import HandS.Codes
import HandS.ForExc
import HandS.ExcInit
import HandS.ExcField
import HandS.ExcIs
import KE.KExcIs
import HandS.IsInst
import HandS.WrittenGet
import HandS.Star
import HandS.Conv
import HandS.More
import HandS.Property
import HandS.OwnEq
import HandS.ClsMeth
import HandS.TupAny
import HandS.DictComp
import HandS.DeepEq
import HandS.Strs
import HandS.TryMany
import HandS.Small
import HandS.Style
import HandS.Walk
import HandS.Iter
import PySem.Challenge.RW_answersby_k03_books_refuse
set_option Elab.async false
set_option linter.all false
set_option maxRecDepth 100000
set_option maxHeartbeats 8000000
/-! repr of data; defs that are called where no container is being shown -/
namespace Gk
open PySem L2 PySem.Spec PyProof.Rows

/-! ### a def's promise, kept where no list, tuple or dict is being shown -/
structure FnG (P : Program) (w : World) (K : PySem.W.Frag) (mg : Str → Option Value) (base : Heap) (CX : CXT) (k : Nat) (f : Addr) (fd : FuncData) (ps : List Str) (sp : Sp) : Prop where
  len : ∀ vs H Q E, sp vs H Q E → vs.length = ps.length
  go : ∀ (A : Around), A.guards = some [] → ∀ (outer : List Env) (s : Shared) (H : Hp) (args : Args) (us : List Value) (vs : List V) (Q : VK) (E : XK),
    Room k A → Env0 P w K mg base A outer s H → BindsTo s fd args (ps.zip us) → Vals vs us → sp vs H Q E → codeAny (model P w) A (.call (.ref f) args) (CR CX outer P w H s Q E) s

section
variable {P : Program} {w : World} {K : PySem.W.Frag} {mg : Str → Option Value} {base : Heap} {CX : CXT} {j k : Nat} {f : Addr} {fd : FuncData} {ps : List Str} {sp : Sp}
theorem FnG.up (F : FnG P w K mg base CX j f fd ps sp) (h : j ≤ k) : FnG P w K mg base CX k f fd ps sp :=
  ⟨F.len, fun A g outer s H args us vs Q E hr => F.go A g outer s H args us vs Q E (hr.mono h)⟩
end

section
variable {X : Cx} {CX : CXT} {k : Nat} {f : Addr} {fd : FuncData} {ps : List Str} {sp : Sp} {dvs : List V} {ds : List Value} {E : XK} {x : Str} {p pos : Pos} {e : Expr} {es : List Expr} {t : TA}
theorem runG {pins : List (Addr × Obj)} {σ : L2.St} {H : Hp} {s : Shared} {Q : VK} {us : List Value} {vs : List V} (F : FnG X.prog X.w X.K X.mg X.base CX k f fd ps sp) (g : X.A.guards = some [])
    (hr : Room k X.A) (hb : Binds X.K fd ps ds) (hd : Vals dvs ds) (hx : Passes CX X E) (I : Inv X pins σ H s) (r : Vals vs us) (h : sp (vs ++ dvs) H Q E) :
    wpAny (model X.prog X.w) X.A (call (.ref f) us) (EP X pins σ Q) X.xe s := by
  have rr := r.append hd
  have lens : (us ++ ds).length = ps.length := (rr.length).symm.trans (F.len _ _ _ _ h)
  have body := F.go X.A g X.stack s H ⟨us, []⟩ (us ++ ds) (vs ++ dvs) Q E hr I.env0 (hb s us I.kIn lens) rr h
  refine wpAny_call (codeAny_mono body ?_)
  intro res s' hres
  match res, hres with
  | .error e, z => exact hx pins σ H s e s' I z
  | .ok (.ret u), z => exact I.after z
  | .ok .next, z => exact z.elim
  | .ok .brk, z => exact z.elim
  | .ok .cont, z => exact z.elim
theorem pe_callG (F : FnG X.prog X.w X.K X.mg X.base CX k f fd ps sp) (g : X.A.guards = some []) (hr : Room k X.A) (hg : Gl X x) (hm : X.mg x = some (.ref f))
    (hk : PySem.W.keepIn X.K (.ref f) = true) (hb : Binds X.K fd ps ds) (hd : Vals dvs ds) (hx : Passes CX X E) (ha : PA X (e :: es) t)
    (hdb : (x == ("__debug__" : Str)) = false := by decide)
    (he : starEach (e :: es) X.env = (false, eval e X.env) :: starEach es X.env := by rfl)
    (hpl : (backTo pos (starEach es X.env)).any (·.1) = false := by rfl) :
    PE X (.Call (.Name x p) (e :: es) [] pos) (tCall sp dvs E t) := by
  refine ⟨fun pins s σ H Q I h => wpAny_Call_Name_kw (ld_glob I hg hm ?_ hdb)⟩
  have args := ha.run pos pins s σ H _ I h
  refine PySem.W.callWith_K (h₀ := X.base) I.ok.mod.kin hk (thn args ?_) he hpl
  rintro us s1 ⟨vs, H1, I1, r, q⟩
  exact ⟨I1.kIn, runG F g hr hb hd hx I1 r q⟩
end

/-! ### a def of the text, and the law's own call -/
section
variable {CX : CXT} {P : Program} {w : World} {K : PySem.W.Frag} {mg : Str → Option Value} {base : Heap}
theorem defG {k : Nat} {f : Addr} {x qual : Str} {st : Stmt} {fd : FuncData} {N ps : List Str} {sp : Sp}
    (F : Fun K x qual st f fd) (S : FnScope N ps (defScope st)) (len : ∀ vs H Q E, sp vs H Q E → vs.length = ps.length)
    (inner : ∀ (cd : Value) (A : Around), A.guards = some [] → ∀ (outer : List Env) (s : Shared) (H : Hp) (vs : List V) (Q : VK) (E : XK),
      Room k (A.deeper (envOfC qual (defScope st) s.heap.objs.size f cd)) → sp vs H Q E →
      ∃ t, PSs (cxOf CX P w K mg base N qual (defScope st) f cd A outer s H E) (defBody st) t ∧ t { nx := fun _ H' => Q .non H', rt := Q } (start N vs) H) :
    FnG P w K mg base CX (k + 1) f fd ps sp := by
  obtain ⟨oc, od, kV, doc, pm, an, cd, ct, osl, rfl, lk, hcd⟩ := F.ex
  refine ⟨len, ?_⟩
  intro A g outer s H args us vs Q E hr e0 hb r hsp
  have kept : ∀ b o, base.get? b = some o → s.heap.get? b = some o := fun b o z => (e0.bs b o z).1
  have KX : K.In s.heap := e0.mod.kin.keeps kept
  have lim : s.heap.NoLimit := e0.mod.nolimit.keeps kept
  have slots : ∀ y ∈ ps.zip us, (defScope st).names.lookup y.1 = some .local ∨
      ((defScope st).names.lookup y.1 = some .cell ∧ ((cellsFrom (s.heap.objs.size + 1) (defScope st).names []).lookup y.1).isSome = true) := by
    rintro ⟨n, v⟩ hy
    have hp := S.par n (List.of_mem_zip hy).1
    exact hp.imp id fun q => ⟨q, PySem.W.cellsFrom_some _ _ _ (.inl q)⟩
  refine codeAny_call_function hr.depth (KX _ _ lk) rfl S.co S.gen rfl (PySem.W.codeRec_of KX hcd) (hb _ _ _ _ ?_)
  refine wpAny_newFunctionEnv_cells S.kind slots ?_
  rintro env rfl s1 x
  refine ⟨lim.keeps x.toInCall.keep, codeAny_func ?_⟩
  obtain ⟨t, ht, hq⟩ := inner cd A g outer s H vs Q E (hr.deeper _) hsp
  have I := inv_start (CX := CX) (mg := mg) (E := E) S hr.hd e0 (len _ _ _ _ hsp) r x
  refine wpAny_mono (ht.run [] s1 (start N vs) H _ I hq) ?_ fun _ _ z => z
  intro fl s' hs
  match fl, hs with
  | .ret u, ⟨v, σ', H', J, rv, q⟩ => exact ⟨v, H', J.os, J.bare, J.base, J.hok, rv, q⟩
  | .next, ⟨σ', H', J, q⟩ => exact ⟨V.non, H', J.os, J.bare, J.base, J.hok, rfl, q⟩
  | .brk, ⟨_, _, _, q⟩ => exact q.elim
  | .cont, ⟨_, _, _, q⟩ => exact q.elim
/-- no exception leaves the def -/
theorem defG0 {k : Nat} {f : Addr} {x qual : Str} {st : Stmt} {fd : FuncData} {N ps : List Str} {sp : Sp}
    (F : Fun K x qual st f fd) (S : FnScope N ps (defScope st)) (len : ∀ vs H Q E, sp vs H Q E → vs.length = ps.length)
    (inner : ∀ (cd : Value) (A : Around), A.guards = some [] → ∀ (outer : List Env) (s : Shared) (H : Hp) (vs : List V) (Q : VK) (E : XK),
      Room k (A.deeper (envOfC qual (defScope st) s.heap.objs.size f cd)) → sp vs H Q E →
      ∃ t, PSs (cxOf CX0 P w K mg base N qual (defScope st) f cd A outer s H E).nox (defBody st) t ∧ t { nx := fun _ H' => Q .non H', rt := Q } (start N vs) H) :
    FnG P w K mg base CX0 (k + 1) f fd ps sp :=
  defG F S len fun cd A g outer s H vs Q E hr h => let ⟨t, a, b⟩ := inner cd A g outer s H vs Q E hr h; ⟨t, a.nox, b⟩
end

/-! ### repr -/
section
variable {X : Cx}
def rRepr (K : PySem.W.Frag) : List V → Hp → VK → Prop := fun xs H Q =>
  ∃ v d, xs = [v] ∧ Dp K H v d ∧ d.showable = true ∧ d.hasDict = false ∧ d.depth ≤ 60 ∧ d.shown.length ≤ sizeLine ∧ Q (.str d.shown) H
theorem call_reprD (hg : X.A.guards = some []) (hu : X.A.units + 64 < cLine) : CallR X (.builtin "repr") (rRepr X.K) := by
  intro pins s σ H xs us Q I r h
  obtain ⟨v, d, rfl, hd, h1, h2, h3, h4, q⟩ := h
  obtain ⟨u, rfl, ru⟩ := vals1 r
  obtain ⟨as, rd⟩ := Dp.reads I d v u hd ru
  have out : ∀ h' u' tk, (∀ b o, s.heap.get? b = some o → h'.get? b = some o) → EP X pins σ Q (.str d.shown u') { s with heap := h', toks := tk } :=
    fun h' u' tk hk => ⟨.str d.shown, H, I.kept hk, ⟨u', rfl⟩, q⟩
  cases rd with
  | none => exact P.repr_of_none (by simpa only [PyData.shown] using out s.heap s.toks (s.toks + 1) fun _ _ z => z)
  | bool b => exact P.repr_of_bool (by simpa only [PyData.shown] using out s.heap s.toks (s.toks + 1) fun _ _ z => z)
  | int i t => exact P.repr_of_int (by simpa [PyData.showable] using h1) (by simpa only [PyData.shown] using out s.heap _ _ fun _ _ z => z)
  | str x t => exact P.repr_of_str (by simpa only [PyData.shown] using out s.heap _ _ fun _ _ z => z) (by simpa only [PyData.shown] using h4)
  | list a1 a2 a3 a4 => exact repr_of_reads' (.list a1 a2 a3 a4) h1 (fun z => by rw [h2] at z; cases z) hg (by omega) (fun _ _ z => z) out h4
  | tuple a1 a2 a3 a4 => exact repr_of_reads' (.tuple a1 a2 a3 a4) h1 (fun z => by rw [h2] at z; cases z) hg (by omega) (fun _ _ z => z) out h4
  | dict a1 a2 a3 a4 a5 => simp [PyData.hasDict] at h2
end
end Gk
/-! the law's own call, by a promise of the kind FnG -/
namespace Gk
open PySem L2 PySem.Spec PyProof.Rows
abbrev AllTrue (s₁ : Shared) (r : Result) (s' : Shared) : Prop := r = .ok (.ret (.bool true)) ∧ OldK s₁.heap s'.heap ∧ s'.os = s₁.os ∧ AllBare s'.gens
section
variable {P : Program} {w : World} {K : PySem.W.Frag} {mg mb : Str → Option Value} {k : Nat} {fa a : Addr} {fd : FuncData} {x : Str} {sp : Sp} {s₁ : Shared} {vs : List Value} {ns : List Int}
/-- what is hidden by H stands at a alone, and that is the script's list -/
structure Hid (K : PySem.W.Frag) (s₁ : Shared) (a : Addr) (vs : List Value) (H : Hp) : Prop where
  only : Only H
  at_a : ∀ b, H b ≠ none → b = a
  new : H a ≠ none → K.lookup a = none
  scr : s₁.heap.get? a = some { cls := .type "list", data := .seq vs.toArray }
theorem Hid.free {H : Hp} (h : Hid K s₁ a vs H) {b : Addr} {o : Obj} (e : s₁.heap.get? b = some o) (hd : ∀ z n, o.data ≠ .seq z n) : H b = none := by
  cases q : H b with
  | none => rfl
  | some u =>
    obtain rfl : b = a := h.at_a b (by simp [q])
    rw [h.scr] at e
    cases e
    exact absurd rfl (hd _ _)
theorem Hid.nsp {H : Hp} (h : Hid K s₁ a vs H) {b : Addr} {m : Str → Option Value} : s₁.heap.Ns b m → (hidT s₁.heap H).Ns b m := by
  rintro ⟨o, es, ep, e, d, r⟩
  exact ⟨o, es, ep, hidT_get e (h.free e fun z n q => by rw [d] at q; cases q), d, r⟩
theorem Hid.kin {H : Hp} (h : Hid K s₁ a vs H) (KX : K.In s₁.heap) : K.In (hidT s₁.heap H) := by
  intro b o e
  refine hidT_get (KX b o e) ?_
  cases q : H b with
  | none => rfl
  | some u =>
    obtain rfl : b = a := h.at_a b (by simp [q])
    rw [h.new (by simp [q])] at e
    cases e
theorem run_law {H : Hp} (h : Hid K s₁ a vs H) (KX : K.In s₁.heap) (hns : s₁.heap.Ns mainGlobals mg) (hb : s₁.heap.Ns builtinsNs mb) (hbb : ∀ x : Str, x ≠ "__name__" → mb x = bootBuiltins x) (hlim : s₁.heap.NoLimit)
    (hg : s₁.gens = #[]) (hr : Room k callerA) (F : ∀ base : Heap, K.In base → base.Ns mainGlobals mg → FnG P w K mg base CX0 k fa fd [x] sp)
    (hbind : ∀ (s : Shared) (u : Value), BindsTo s fd ⟨[u], []⟩ [(x, u)]) (hok : HOk P w H s₁.heap) (hsp : sp [.ref a] H (fun v _ => v = .bl true) fun _ _ _ => False) :
    codeAny (model P w) callerA (.call (.ref fa) ⟨[.ref a], []⟩) (AllTrue s₁) s₁ := by
  obtain ⟨mc, l1, l2⟩ := hlim
  have md : Mod K mg (hidT s₁.heap H) := ⟨h.kin KX, h.nsp hns, ⟨mb, h.nsp hb, hbb⟩, ⟨mc, h.nsp l1, l2⟩⟩
  have ev : Env0 P w K mg (hidT s₁.heap H) callerA [] s₁ H :=
    ⟨rfl, md, fun b o e => of_hidT e, Nat.le_of_eq (hidT_size _ _), trivial, fun b hb => (List.not_mem_nil hb).elim, hok, .of_eq hg⟩
  have go := (F _ (h.kin KX) (h.nsp hns)).go callerA rfl [] s₁ H ⟨[.ref a], []⟩ [.ref a] [.ref a] _ _ hr ev (hbind s₁ (.ref a)) (.cons rfl .nil) hsp
  refine codeAny_mono go ?_
  intro res s' hres
  match res, hres with
  | .error e, z => exact z.elim
  | .ok .next, z => exact z.elim
  | .ok .brk, z => exact z.elim
  | .ok .cont, z => exact z.elim
  | .ok (.ret u), ⟨v, H', os, bare, un, hok', rv, q⟩ =>
    obtain rfl : v = .bl true := q
    obtain rfl : u = Value.bool true := rv
    refine ⟨rfl, OldK.of_keep ?_, os, bare⟩
    intro b o e
    rcases h.only b with z | ⟨ob, xs, z⟩
    · exact un.keep b o e z (fun m => (List.not_mem_nil m).elim) (fun m => (List.not_mem_nil m).elim)
    · obtain ⟨e1, _⟩ := hok b _ z
      obtain ⟨e2, _⟩ := hok' b _ (un.frzs b ob _ z)
      rw [e] at e1
      cases e1
      exact e2
theorem law_callG (KX : K.In s₁.heap) (hns : s₁.heap.Ns mainGlobals mg) (hb : s₁.heap.Ns builtinsNs mb) (hbb : ∀ x : Str, x ≠ "__name__" → mb x = bootBuiltins x) (hlim : s₁.heap.NoLimit) (hg : s₁.gens = #[])
    (scr : s₁.heap.get? a = some { cls := .type "list", data := .seq vs.toArray }) (hi : IntsAre vs ns) (hl : ns.length ≤ sizeLine) (hr : Room k callerA)
    (F : ∀ base : Heap, K.In base → base.Ns mainGlobals mg → FnG P w K mg base CX0 k fa fd [x] sp) (hbind : ∀ (s : Shared) (u : Value), BindsTo s fd ⟨[u], []⟩ [(x, u)])
    (hsp : ∀ H : Hp, Only H → SqL K H a (ns.map V.int) → sp [.ref a] H (fun v _ => v = .bl true) fun _ _ _ => False) :
    codeAny (model P w) callerA (.call (.ref fa) ⟨[.ref a], []⟩) (AllTrue s₁) s₁ := by
  have rv := vals_ints hi
  cases hk : K.lookup a with
  | some o =>
    have e := KX a o hk
    rw [scr] at e
    cases e
    have on : Only (fun _ => none) := fun _ => .inl rfl
    refine run_law (H := fun _ => none) ⟨on, fun b z => absurd rfl z, fun z => absurd rfl z, scr⟩ KX hns hb hbb hlim hg hr F hbind (fun b u z => nomatch z) (hsp _ on ?_)
    exact .inr ⟨_, vs.toArray, _, hk, rfl, rfl, rfl, by rw [List.size_toArray, hi.length]; exact hl, by simpa using rv⟩
  | none =>
    let L : HO := .frz { cls := .type "list", data := .seq vs.toArray } (.lst (ns.map V.int))
    have la : (fun b => if b = a then some L else none : Hp) a = some L := if_pos rfl
    have on : Only (fun b => if b = a then some L else none) := by
      intro b
      by_cases hb : b = a
      · exact .inr ⟨_, _, if_pos hb⟩
      · exact .inl (if_neg hb)
    refine run_law ⟨on, fun b z => ?_, fun _ => hk, scr⟩ KX hns hb hbb hlim hg hr F hbind (fun b u z => ?_) (hsp _ on (.inl (.inr ⟨_, la⟩)))
    · by_cases hb : b = a
      · exact hb
      · exact absurd (if_neg hb) z
    · by_cases hb : b = a
      · subst hb
        have z' := la.symm.trans z
        cases z'
        exact ⟨scr, by rw [List.length_map]; exact hl, vs, _, rv, scr⟩
      · have z' := (if_neg hb).symm.trans z
        cases z'
end
theorem walkG {l : PySem.W.OpenLaw} {n k : Nat} {q : Program} {loose : List Str} {XP : (Str → Option Value) → Heap → Prop} {YP : World → Heap → Prop} {d : DefRec} {K : Params → PySem.W.Frag} {sp : World → Sp} {x : Str}
    (hn : l.most = some n) (hn2 : n ≤ sizeLine) (hdf : d.params.defaults = []) (hr : Room k callerA) (hY : ∀ (w : World) (h : Heap), YP w h → (K w.params).In h)
    (F : ∀ (w : World) (mg : Str → Option Value) (fa : Addr) (h : Heap), (K w.params).In h → h.Ns mainGlobals mg → mg d.name = some (.ref fa) →
      ∃ fd : FuncData, (∀ (s : Shared) (u : Value), BindsTo s fd ⟨[u], []⟩ [(x, u)]) ∧
        ∀ base : Heap, (K w.params).In base → base.Ns mainGlobals mg → FnG l.prog w (K w.params) mg base CX0 k fa fd [x] (sp w))
    (hsp : ∀ (w : World) (H : Hp) (a : Addr) (ns : List Int), ns.length ≤ n → Only H → SqL (K w.params) H a (ns.map V.int) → sp w [.ref a] H (fun v _ => v = .bl true) fun _ _ _ => False) :
    PySem.W.WalkO q loose XP YP l.row.toRowW d [] (fun f vs => PySem.call f vs) := by
  refine Att.attach_call hn hdf ?_
  intro w s₀ s₁ mg mb fa o pm cd doc a vs ns G Y ho hd hcd hmg hobj hints hlen hg
  obtain ⟨fd, hb, hF⟩ := F w mg fa _ (hY w _ Y) G.T.g hmg
  exact law_callG (hY w _ Y) G.T.g G.T.b G.T.builtins G.T.nolimit hg hobj hints (Nat.le_trans hlen hn2) hr hF hb fun H hO hS => hsp w H a ns hlen hO hS
end Gk
namespace Gk
open PySem L2 PySem.Spec PyProof.Rows
/-- a def of the module's top, by its name, with its promise -/
def CalG (P : Program) (w : World) (K : PySem.W.Frag) (mg : Str → Option Value) (base : Heap) (k : Nat) (x : Str) (sp : Sp) : Prop :=
  ∃ (f : Addr) (fd : FuncData) (ps : List Str), FnG P w K mg base CX0 k f fd ps sp ∧ mg x = some (.ref f) ∧ PySem.W.keepIn K (.ref f) = true ∧ Binds K fd ps []
/-- a def as the top has left it -/
def DefAt (K : PySem.W.Frag) (mg : Str → Option Value) (x : Str) (st : Stmt) (ps : List Str) : Prop :=
  ∃ (f : Addr) (fd : FuncData), mg x = some (.ref f) ∧ Fun K x x st f fd ∧ Binds K fd ps []
theorem defAt {K : PySem.W.Frag} {h : Heap} {mg : Str → Option Value} {x : Str} {st : Stmt} {ps : List Str} {f : Addr} {oc : Value} {od an : Option Addr} {osl : Array (Option Value)} {kV doc pm cdv ct : Value} (X : K.In h) (G : h.Ns mainGlobals mg)
    (hb : ∀ (kV doc pm : Value) (an : Option Addr) (cdv ct : Value) (us : List Value), us.length = ps.length → bindArgs (PySem.W.fnOf x x (defArgs st) (defBody st) (defScope st) .none kV doc pm an cdv ct) ⟨us, []⟩ = pure (ps.zip us))
    (a : PySem.W.nsIn K mainGlobals x = some (some (.ref f)))
    (l : K.lookup f = some ⟨oc, od, .func (PySem.W.fnOf x x (defArgs st) (defBody st) (defScope st) .none kV doc pm an cdv ct), osl⟩)
    (c : PySem.W.codeIn K cdv x = true) (k : PySem.W.keepIn K (.ref f) = true) : DefAt K mg x st ps :=
  ⟨f, _, PySem.W.mg_of X G a, fun_mk l c k, (fun_mk (st := st) l c k).binds hb⟩
section
variable {P : Program} {w : World} {K : PySem.W.Frag} {mg : Str → Option Value} {base : Heap}
/-- a def by its body -/
theorem DefAt.by {x : Str} {st : Stmt} {ps N : List Str} {k : Nat} {sp : Sp} (D : DefAt K mg x st ps) (S : FnScope N ps (defScope st)) (len : ∀ vs H Q E, sp vs H Q E → vs.length = ps.length)
    (inner : ∀ (f : Addr) (cd : Value) (A : Around), A.guards = some [] → ∀ (outer : List Env) (s : Shared) (H : Hp) (vs : List V) (Q : VK) (E : XK),
      Room k (A.deeper (envOfC x (defScope st) s.heap.objs.size f cd)) → sp vs H Q E →
      ∃ t, PSs (cxOf CX0 P w K mg base N x (defScope st) f cd A outer s H E).nox (defBody st) t ∧ t { nx := fun _ H' => Q .non H', rt := Q } (start N vs) H) :
    CalG P w K mg base (k + 1) x sp := by
  obtain ⟨f, fd, hm, F, hb⟩ := D
  exact ⟨f, fd, ps, defG0 F S len (inner f), hm, F.kp, hb⟩
end
section
variable {X : Cx} {k j : Nat} {sp : Sp} {x : Str} {p pos : Pos} {e : Expr} {es : List Expr} {t : TA}
theorem pe_cG (c : CalG X.prog X.w X.K X.mg X.base k x sp) (g : X.A.guards = some []) (hr : Room j X.A) (hk : k ≤ j) (ha : PA X (e :: es) t) (hg : Gl X x := by rfl)
    (hdb : (x == ("__debug__" : Str)) = false := by decide) (he : starEach (e :: es) X.env = (false, eval e X.env) :: starEach es X.env := by rfl)
    (hpl : (backTo pos (starEach es X.env)).any (·.1) = false := by rfl) : PE X (.Call (.Name x p) (e :: es) [] pos) (tCall sp [] E0 t) := by
  obtain ⟨f, fd, ps, F, hm, hkp, hb⟩ := c
  exact pe_callG F g (hr.mono hk) hg hm hkp hb .nil pass0 ha hdb he hpl
end
end Gk
/-! readings, one construct a lemma: what a term of the layer asks, from the value -/
namespace Rd
open PySem L2 PySem.Spec PyProof.Rows Gk
section
variable {K : PySem.W.Frag} {σ : L2.St} {H : Hp} {Q : VK} {QA : List V → Hp → Prop} {QB : Bool → Hp → Prop} {QH : Hp → Prop} {D : Ends} {i j : Int} {n : Nat} {v x y : V} {ta tb te : TE} {tt tu : TT} {t u : TS} {as ar : TA} {p q : Addr} {xs ys : List V} {z s : Str} {b c : Bool}
theorem var (h : σ[n]? = some (some v)) (k : Q v H) : tVar n σ H Q := ⟨v, h, k⟩
theorem cst (k : Q v H) : tC v σ H Q := k
theorem op {r : R2} (k : ta σ H fun x H1 => tb σ H1 fun y H2 => r x y H2 Q) : tOp r ta tb σ H Q := k
theorem un {r : V → Hp → VK → Prop} (k : ta σ H fun x H1 => r x H1 Q) : tUn r ta σ H Q := k
theorem i0 {g : Int → Int → V} (k : Q (g i j) H) : rI0 g (.int i) (.int j) H Q := ⟨i, j, rfl, rfl, k⟩
theorem ic {C : Int → Int → Prop} {g : Int → Int → V} (h : C i j) (k : Q (g i j) H) : rI C g (.int i) (.int j) H Q := ⟨i, j, rfl, rfl, h, k⟩
theorem u1 {g : Int → V} (k : Q (g i) H) : rU g (.int i) H Q := ⟨i, rfl, k⟩
theorem eq (h : scal x y = true) (k : Q (.bl (decide (x = y))) H) : rEq x y H Q := ⟨h, k⟩
theorem ne (h : scal x y = true) (k : Q (.bl (!decide (x = y))) H) : rNe x y H Q := ⟨h, k⟩
theorem ixL (h : SqL K H p xs) (a : atI xs i = some v) (k : Q v H) : rIxL K (.ref p) (.int i) H Q := ⟨p, xs, i, v, rfl, rfl, h, a, k⟩
theorem ixT (h : SqT K H p xs) (a : atI xs i = some v) (k : Q v H) : rIxT K (.ref p) (.int i) H Q := ⟨p, xs, i, v, rfl, rfl, h, a, k⟩
theorem ixS {m : Nat} (h : z.length ≤ sizeLine) (a : atI z.cps.toList i = some m) (k : Q (.str ⟨#[m]⟩) H) : rIxS (.str z) (.int i) H Q := ⟨z, i, m, rfl, rfl, h, a, k⟩
theorem setL {m : Nat} (h : H p = some (.lst xs)) (a : ixN xs.length i = some m) (k : QH (upd H p (.lst (xs.set m v)))) : rSetL (.ref p) (.int i) v H QH := ⟨p, xs, i, m, rfl, rfl, h, a, k⟩
theorem inL {neg : Bool} (h : SqL K H p xs) (hx : flatV x = true) (ha : xs.all flatV = true) (k : Q (.bl (if neg then !inV x xs else inV x xs)) H) : rIn K neg x (.ref p) H Q := ⟨p, xs, rfl, .inl h, hx, ha, k⟩
theorem slL {lo hi : Option Int} (h : SqL K H p xs) (k : ∀ q, H q = none → Q (.ref q) (upd H q (.lst (cutV xs lo hi)))) : rSlL K (.ref p) lo hi H Q := ⟨p, xs, rfl, h, k⟩
theorem slS {lo hi : Option Int} (h : z.length ≤ sizeLine) (k : Q (.str (cutS z lo hi)) H) : rSlS (.str z) lo hi H Q := ⟨z, rfl, h, k⟩
theorem cat (h : H p = some (.lst xs)) (h' : H q = some (.lst ys)) (l : xs.length + ys.length ≤ sizeLine) (k : ∀ r, H r = none → Q (.ref r) (upd H r (.lst (xs ++ ys)))) : rCat (.ref p) (.ref q) H Q := ⟨p, q, xs, ys, rfl, rfl, h, h', l, k⟩
theorem sl {r : V → Option Int → Option Int → Hp → VK → Prop} {tl th : TO} (k : te σ H fun x H1 => tl σ H1 fun l H2 => th σ H2 fun u H3 => r x l u H3 Q) : tSl r te tl th σ H Q := k
theorem noPart {QO : Option Int → Hp → Prop} (k : QO none H) : tNoPart σ H QO := k
theorem part {QO : Option Int → Hp → Prop} (k : te σ H fun x H1 => ∃ i, x = .int i ∧ QO (some i) H1) : tPart te σ H QO := k
theorem int_ {R : Int → Prop} (k : R i) : ∃ i', V.int i = .int i' ∧ R i' := ⟨i, rfl, k⟩
theorem bl_ {R : Bool → Prop} (k : R b) : ∃ c, V.bl b = .bl c ∧ R c := ⟨b, rfl, k⟩
theorem nil (k : QA [] H) : tNil σ H QA := k
theorem cons (k : te σ H fun x H1 => ar σ H1 fun xs H2 => QA (x :: xs) H2) : tCons te ar σ H QA := k
theorem cb {r : List V → Hp → VK → Prop} (k : as σ H fun vs H1 => r vs H1 Q) : tCB r as σ H Q := k
theorem call {sp : Sp} {dvs : List V} {E : XK} (k : as σ H fun vs H1 => sp (vs ++ dvs) H1 Q E) : tCall sp dvs E as σ H Q := k
theorem lst (k : as σ H fun xs H1 => xs.length ≤ sizeLine ∧ ∀ p, H1 p = none → Q (.ref p) (upd H1 p (.lst xs))) : tLst as σ H Q := k
theorem tup (k : as σ H fun xs H1 => xs.length ≤ sizeLine ∧ ∀ p, H1 p = none → Q (.ref p) (upd H1 p (.tup xs))) : tTup as σ H Q := k
theorem test (k : te σ H fun x H' => ∃ k, x = .bl k ∧ QB k H') : tTest te σ H QB := k
theorem tb_ (k : te σ H fun x H' => ∃ k, x = .bl k ∧ QB k H') : tB te σ H QB := k
theorem not_ (k : tt σ H fun c H1 => QB (!c) H1) : tNot tt σ H QB := k
theorem or_ (k : tt σ H fun c H1 => if c = true then QB true H1 else tu σ H1 QB) : tOr tt tu σ H QB := k
theorem and_ (k : tt σ H fun c H1 => if c = true then tu σ H1 QB else QB false H1) : tAnd tt tu σ H QB := k
theorem orV (k : ta σ H fun x H1 => ∃ c, x = .bl c ∧ if c = true then Q (.bl true) H1 else tb σ H1 Q) : tOrV ta tb σ H Q := k
theorem andV (k : ta σ H fun x H1 => ∃ c, x = .bl c ∧ if c = true then tb σ H1 Q else Q (.bl false) H1) : tAndV ta tb σ H Q := k
theorem notV (k : ta σ H fun x H1 => ∃ c, x = .bl c ∧ Q (.bl (!c)) H1) : tNotV ta σ H Q := k
theorem tif (k : tt σ H fun c H1 => if c = true then ta σ H1 Q else tb σ H1 Q) : tIf tt ta tb σ H Q := k
theorem yes (k : QB true H) : tYes σ H QB := k
theorem next (k : D.nx σ H) : tNext D σ H := k
theorem seq (k : t { D with nx := u D } σ H) : tSeq t u D σ H := k
theorem drop (k : te σ H fun _ H1 => D.nx σ H1) : tDrop te D σ H := k
theorem ret (k : te σ H D.rt) : tRet te D σ H := k
theorem retN (k : D.rt .non H) : tRetN D σ H := k
theorem ifs (k : tt σ H fun b H1 => if b = true then t D σ H1 else u D σ H1) : tIfS tt t u D σ H := k
theorem asg {g : TG} (k : te σ H fun x H1 => g x σ H1 D.nx) : tAsg te g D σ H := k
theorem gname {QS : L2.St → Hp → Prop} (k : QS (σ.set n (some v)) H) : gName n v σ H QS := k
theorem gsub {QS : L2.St → Hp → Prop} {st : V → V → V → Hp → (Hp → Prop) → Prop} (k : ta σ H fun o H1 => tb σ H1 fun i H2 => st o i v H2 fun H3 => QS σ H3) : gSub ta tb st v σ H QS := k
theorem par {m l : Nat} (k : as σ H fun vs H1 => ∃ v w, vs = [v, w] ∧ D.nx ((σ.set m (some v)).set l (some w)) H1) : tPar m l as D σ H := k
theorem bm {T : String} {r : V → List V → Hp → VK → Prop} (k : te σ H fun x H1 => tyV K T x H1 ∧ as σ H1 fun xs H2 => r x xs H2 Q) : tBM K T r te as σ H Q := k
theorem bm0 {T : String} {r : V → List V → Hp → VK → Prop} (k : te σ H fun x H1 => tyV K T x H1 ∧ r x [] H1 Q) : tBM0 K T r te σ H Q := k
theorem app (h : H p = some (.lst xs)) (l : xs.length < sizeLine) (k : Q .non (upd H p (.lst (xs ++ [v])))) : rAppend (.ref p) [v] H Q := ⟨p, xs, v, rfl, rfl, h, l, k⟩
theorem ty_list (h : H p = some (.lst xs)) : tyV K "list" (.ref p) H := .inl ⟨rfl, xs, SqL.of h⟩
theorem int1 {R : Int → Prop} {R2 : Bool → Prop} (k : R i) : (∃ j, [V.int i] = [.int j] ∧ R j) ∨ ∃ k, [V.int i] = [.bl k] ∧ R2 k := .inl ⟨i, rfl, k⟩
theorem intB {R : Int → Prop} {R2 : Bool → Prop} (k : R2 b) : (∃ j, [V.bl b] = [.int j] ∧ R j) ∨ ∃ k, [V.bl b] = [.bl k] ∧ R2 k := .inr ⟨b, rfl, k⟩
theorem two {R : Int → Int → Prop} (k : R i j) : ∃ i' j', [V.int i, .int j] = [.int i', .int j'] ∧ R i' j' := ⟨i, j, rfl, k⟩
theorem one {R : Int → Prop} (k : R i) : ∃ i', [V.int i] = [.int i'] ∧ R i' := ⟨i, rfl, k⟩
theorem lenL {R : List V → Prop} (h : SqL K H p xs) (k : R xs) : ∃ p' ys, [V.ref p] = [.ref p'] ∧ (SqL K H p' ys ∨ SqT K H p' ys) ∧ R ys := ⟨p, xs, rfl, .inl h, k⟩
theorem lenS {R : Str → Prop} (h : z.length ≤ sizeLine) (k : R z) : ∃ z', [V.str z] = [.str z'] ∧ z'.length ≤ sizeLine ∧ R z' := ⟨z, rfl, h, k⟩
theorem andr {R : Prop} (k : R) : x = x ∧ R := ⟨rfl, k⟩
theorem str_ {R : Str → Prop} (k : R z) : ∃ c, V.str z = .str c ∧ R c := ⟨z, rfl, k⟩
theorem dec {c A B : Prop} [Decidable c] (h1 : c → A) (h2 : ¬ c → B) : if decide c = true then A else B := by
  by_cases h : c
  · rw [decide_eq_true h]; exact h1 h
  · rw [decide_eq_false h, if_neg Bool.false_ne_true]; exact h2 h
theorem ndec {c A B : Prop} [Decidable c] (h1 : ¬ c → A) (h2 : c → B) : if (!decide c) = true then A else B := by
  by_cases h : c
  · rw [decide_eq_true h]; exact h2 h
  · rw [decide_eq_false h]; exact h1 h
theorem tt_ {A B : Prop} (h : A) : if true = true then A else B := h
theorem ff_ {A B : Prop} (h : B) : if false = true then A else B := iteF h
theorem bool {b : Bool} {A B : Prop} (h1 : b = true → A) (h2 : b = false → B) : if b = true then A else B := by
  cases b with
  | true => exact h1 rfl
  | false => rw [if_neg Bool.false_ne_true]; exact h2 rfl
theorem fm {i m : Int} (m0 : 0 < m) : 0 ≤ i.fmod m ∧ i.fmod m < m := by
  rw [Int.fmod_eq_emod_of_nonneg i (Int.le_of_lt m0)]
  exact ⟨Int.emod_nonneg i (by omega), Int.emod_lt_of_pos i m0⟩
theorem atN {α : Type} {xs : List α} {i : Int} {v : α} (h0 : 0 ≤ i) (h : xs[i.toNat]? = some v) : atI xs i = some v := by
  have e : ((i.toNat : Nat) : Int) = i := Int.toNat_of_nonneg h0
  rw [← e]
  exact atI_nat h
theorem at0 {α : Type} {xs : List α} {v : α} : atI (v :: xs) 0 = some v := atN (Int.le_refl 0) rfl
theorem at_int {ns : List Int} {i : Int} (h0 : 0 ≤ i) (h : i < ((ns.map V.int).length : Int)) : ∃ c, atI (ns.map V.int) i = some (.int c) := by
  rw [List.length_map] at h
  have hk : i.toNat < ns.length := by omega
  exact ⟨ns[i.toNat], atN h0 (by simp [hk])⟩
theorem sz {n : Nat} (h : n ≤ 100000) : n ≤ sizeLine := Nat.le_trans h (by decide)
theorem szl {n : Nat} (h : n < 100000) : n < sizeLine := Nat.lt_of_lt_of_le h (by decide)
end
section
variable {X : Cx}
def rLenK (K : PySem.W.Frag) : List V → Hp → VK → Prop := fun xs H Q => ∃ p ys, xs = [.ref p] ∧ (SqL K H p ys ∨ SqT K H p ys) ∧ Q (.int ys.length) H
theorem callLen : CallR X (.builtin "len") (rLenK X.K) := call_len_seq
def rListK (K : PySem.W.Frag) : List V → Hp → VK → Prop := fun xs H Q => ∃ p ys, xs = [.ref p] ∧ (SqL K H p ys ∨ SqT K H p ys) ∧ ∀ l, H l = none → Q (.ref l) (upd H l (.lst ys))
theorem callList : CallR X (.type "list") (rListK X.K) := call_list_of
def tTru (K : PySem.W.Frag) (ta : TE) : TT := fun σ H Q => ta σ H fun x H' => ∃ k, TruV K x H' k ∧ Q k H'
theorem ptTru {K : PySem.W.Frag} {e : Expr} {ta : TE} (h : X.K = K) (p : PT X e fun σ H Q => ta σ H fun x H' => ∃ k, TruV X.K x H' k ∧ Q k H') : PT X e (tTru K ta) := by
  subst h
  exact p
variable {K : PySem.W.Frag} {σ : L2.St} {H : Hp} {Q : VK} {QB : Bool → Hp → Prop} {p : Addr} {xs : List V} {ta : TE}
theorem lenK (h : SqL K H p xs) (k : Q (.int xs.length) H) : rLenK K [.ref p] H Q := ⟨p, xs, rfl, .inl h, k⟩
theorem lenT (h : SqT K H p xs) (k : Q (.int xs.length) H) : rLenK K [.ref p] H Q := ⟨p, xs, rfl, .inr h, k⟩
theorem listK (h : SqL K H p xs) (k : ∀ l, H l = none → Q (.ref l) (upd H l (.lst xs))) : rListK K [.ref p] H Q := ⟨p, xs, rfl, .inl h, k⟩
theorem tru (k : ta σ H fun x H' => ∃ k, TruV K x H' k ∧ QB k H') : tTru K ta σ H QB := k
theorem truL {R : Bool → Prop} (h : SqL K H p xs) (k : R (!xs.isEmpty)) : ∃ k, TruV K (.ref p) H k ∧ R k := ⟨_, .inl ⟨xs, h, rfl⟩, k⟩
theorem any_ {bs : List Bool} (h : SqL K H p (bs.map V.bl)) (k : Q (.bl (bs.any id)) H) : rAny K [.ref p] H Q := ⟨p, bs, rfl, h, k⟩
theorem all_ {bs : List Bool} (h : SqL K H p (bs.map V.bl)) (k : Q (.bl (bs.all id)) H) : rAll K [.ref p] H Q := ⟨p, bs, rfl, h, k⟩
theorem repr_ {v : V} {d : PyData} (h : Dp K H v d) (h1 : d.showable = true) (h2 : d.hasDict = false) (h3 : d.depth ≤ 60) (h4 : d.shown.length ≤ sizeLine) (k : Q (.str d.shown) H) : rRepr K [v] H Q := ⟨v, d, rfl, h, h1, h2, h3, h4, k⟩
theorem eqD {x y : V} {d e : PyData} (hd : Dp K H x d) (he : Dp K H y e) (h1 : SeqAt.shaped d = true) (h2 : SeqAt.shaped e = true) (k : Q (.bl (PyData.eqv d e)) H) : rEqD K x y H Q := ⟨d, e, hd, he, h1, h2, k⟩
theorem neD {x y : V} {d e : PyData} (hd : Dp K H x d) (he : Dp K H y e) (h1 : SeqAt.shaped d = true) (h2 : SeqAt.shaped e = true) (k : Q (.bl (!PyData.eqv d e)) H) : rNeD K x y H Q := ⟨d, e, hd, he, h1, h2, k⟩
end
end Rd
set_option Elab.async false
set_option linter.all false
set_option maxRecDepth 100000
set_option maxHeartbeats 8000000
open PySem L2 Gk
local macro_rules | `(tactic| walk_at "look") => `(tactic| first
  | assumption
  | exact upd_same
  | exact SqL.of (by assumption)
  | exact SqL.of upd_same)
local macro_rules | `(tactic| walk_at "cond") => `(tactic| first | decide | (show _ ∨ _; right; split <;> decide) | (show _ ∧ _; constructor <;> omega) | (show _ ∨ _; left; constructor <;> omega) | (show _ ∨ _; right; constructor <;> omega) | (show _ ≠ _; omega) | (show _ < _; omega))
local macro_rules | `(tactic| walk_at "rd") => `(tactic| (with_reducible first
  | refine Rd.var rfl ?_ | refine Rd.cst ?_ | refine Rd.op ?_ | refine Rd.un ?_ | refine Rd.i0 ?_ | refine Rd.u1 ?_ | refine Rd.cons ?_ | refine Rd.nil ?_
  | refine Rd.seq ?_ | refine Rd.ifs ?_ | refine Rd.asg ?_ | refine Rd.gname ?_ | refine Rd.gsub ?_ | refine Rd.ret ?_ | refine Rd.retN ?_ | refine Rd.drop ?_ | refine Rd.next ?_
  | refine Rd.test ?_ | refine Rd.tb_ ?_ | refine Rd.not_ ?_ | refine Rd.or_ ?_ | refine Rd.and_ ?_ | refine Rd.orV ?_ | refine Rd.andV ?_ | refine Rd.notV ?_ | refine Rd.tif ?_ | refine Rd.yes ?_
  | refine Rd.cb ?_ | refine Rd.call ?_ | refine Rd.sl ?_ | refine Rd.noPart ?_ | refine Rd.part ?_ | refine Rd.int_ ?_ | refine Rd.bl_ ?_
  | refine Rd.eq rfl ?_ | refine Rd.ne rfl ?_ | refine Rd.lst ?_ | refine Rd.tup ?_ | refine Rd.par ?_ | refine Rd.bm ?_ | refine Rd.bm0 ?_
  | refine Rd.int1 ?_ | refine Rd.intB ?_ | refine Rd.two ?_ | refine Rd.one ?_ | refine Rd.andr ?_ | refine Rd.str_ ?_
  | (refine Rd.ic ?k1 ?_; (case k1 => with_unfolding_all walk_at "cond"))
  | (refine' Rd.ixL ?k1 ?k2 ?_; (case k1 => with_unfolding_all walk_at "look"); (case k2 => with_unfolding_all (first | rfl | exact Rd.at0)))
  | (refine' Rd.setL ?k1 ?k2 ?_; (case k1 => with_unfolding_all walk_at "look"); (case k2 => with_unfolding_all rfl))
  | (refine' Rd.lenL ?k1 ?_; (case k1 => with_unfolding_all walk_at "look"))
  | (refine' Rd.lenK ?k1 ?_; (case k1 => with_unfolding_all walk_at "look"))
  | refine Rd.tru ?_ | (refine' Rd.truL ?k1 ?_; (case k1 => with_unfolding_all walk_at "look"))))
namespace Rd
open PySem.Spec PyProof.Rows
section
variable {K : PySem.W.Frag} {σ : L2.St} {H H' : Hp} {α β : Type}
theorem sNew {p : Addr} {o : HO} (hp : H p = none) : Same H (upd H p o) := fun b u e => by
  rw [upd_ne (ne_of_none e hp)]
  exact e
theorem sMut {p : Addr} {o : HO} (h : Same H H') (hp : H p = none) : Same H (upd H' p o) := fun b u e => by
  rw [upd_ne (ne_of_none e hp)]
  exact h b u e
theorem pair_get {F : α → β → Prop} : ∀ {as : List α} {bs : List β} {i : Nat} {b : β}, Paired F as bs → bs[i]? = some b → ∃ a, as[i]? = some a ∧ F a b
  | _, _, i, b, .nil, h => by simp at h
  | a :: as, c :: bs, 0, b, .cons h hs, e => by
    obtain rfl : c = b := by simpa using e
    exact ⟨a, rfl, h⟩
  | a :: as, c :: bs, i + 1, b, .cons h hs, e => by
    have := pair_get hs (i := i) (b := b) (by simpa using e)
    simpa using this
theorem pair_len {F : α → β → Prop} : ∀ {as : List α} {bs : List β}, Paired F as bs → as.length = bs.length
  | _, _, .nil => rfl
  | _, _, .cons _ t => by simp [pair_len t]
theorem pair_imp {F G : α → β → Prop} (f : ∀ a b, F a b → G a b) : ∀ {as : List α} {bs : List β}, Paired F as bs → Paired G as bs
  | _, _, .nil => .nil
  | _, _, .cons h t => .cons (f _ _ h) (pair_imp f t)
theorem pair_map {f : α → V} : ∀ {as : List α} {ys : List V}, Paired (fun a y => y = f a) as ys → ys = as.map f
  | _, _, .nil => rfl
  | _, _, .cons h t => by rw [h, pair_map t]; rfl
/-- a relation of what is meant to a value in a heap that stays true as the heap grows -/
def Stays (B : β → V → Hp → Prop) : Prop := ∀ b x H H', Same H H' → B b x H → B b x H'
theorem take_succ {xs : List α} {i : Nat} {x : α} (h : xs[i]? = some x) : xs.take (i + 1) = xs.take i ++ [x] := by
  rw [List.take_succ, h]
  rfl
theorem sUpd {D : Addr} {o : HO} (s : Same H H') : Same (upd H D o) (upd H' D o) := fun b u e => by
  by_cases hb : b = D
  · subst hb; rw [upd_same] at e ⊢; exact e
  · rw [upd_ne hb] at e ⊢; exact s b u e
theorem upd_id {D : Addr} {o : HO} (h : H D = some o) : upd H D o = H := by
  funext b
  by_cases hb : b = D
  · subst hb; rw [upd_same, h]
  · rw [upd_ne hb]
/-- what holds of y in the heap behind, whatever the list in the making (which the heap ahead, H, does not know, and H1 does) holds -/
def Off (H H1 H2 : Hp) (B : V → Hp → Prop) (y : V) : Prop := ∀ D o, H D = none → H1 D ≠ none → B y (L2.upd H2 D o)
theorem off_old {H1 H2 : Hp} {B : V → Hp → Prop} {y : V} (hB : ∀ x H H', Same H H' → B x H → B x H') (s : Same H H2) (h : B y H) : Off H H1 H2 B y :=
  fun D o hD _ => hB _ _ _ (sMut s hD) h
theorem off_any {H1 H2 : Hp} {B : V → Prop} {y : V} (h : B y) : Off H H1 H2 (fun y _ => B y) y := fun D o hD _ => h
/-- a comprehension over a list of things -/
theorem lcL {tl te : TE} {tt : TT} {vs : List Nat} {j : Nat} {Q : VK} {a : Addr} {xs : List V} {bs : List α} (A : α → V → Hp → Prop) (B : β → V → Hp → Prop) (f : α → Bool) (g : α → β)
    (htl : ∀ R : V → Hp → Prop, R (.ref a) H → tl σ H R) (hl : SqL K H a xs) (hA : Stays A) (hB : Stays B) (pr : Paired (fun b x => A b x H) bs xs) (hz : xs.length ≤ 10000)
    (hw : ∀ x, wipe ((wipe σ vs).set j (some x)) vs = wipe σ vs)
    (turn : ∀ b x H1 (R : Bool → Hp → Prop), b ∈ bs → A b x H → A b x H1 → Same H H1 → (∀ H2, Same H1 H2 → R (f b) H2) → tt ((wipe σ vs).set j (some x)) H1 R)
    (elem : ∀ b x H1 (R : VK), b ∈ bs → f b = true → A b x H → A b x H1 → Same H H1 → (∀ y H2, Same H1 H2 → Off H H1 H2 (B (g b)) y → R y H2) → te ((wipe σ vs).set j (some x)) H1 R)
    (fin : ∀ D ys H1, H D = none → Same H H1 → H1 D = some (.lst ys) → Paired (fun c y => B c y H1) ((bs.filter f).map g) ys → Q (.ref D) H1) :
    tLc (iList K tl) (gName j) tt te vs σ H Q := by
  have hlen := pair_len pr
  refine htl _ ⟨a, rfl, ⟨xs, hl⟩, fun D hD => ?_⟩
  refine lc_list (K := K) (a := a) (xs := xs) (fun i H1 => ∃ ys, H1 D = some (.lst ys) ∧ ys.length ≤ i ∧ Same H H1 ∧ ∀ o, Paired (fun c y => B c y (upd H1 D o)) (((bs.take i).filter f).map g) ys) ?_ ?_ ?_ ?_
  · exact ⟨[], upd_same, Nat.le_refl _, sNew hD, fun _ => .nil⟩
  · rintro i H1 hi ⟨ys, _, _, s, _⟩
    exact s.seq hl
  · rintro i x H1 hx ⟨ys, hd, hy, s, pq⟩
    have hi : i < xs.length := (List.getElem?_eq_some_iff.mp hx).1
    obtain ⟨b, hb, hab⟩ := pair_get pr hx
    have mem : b ∈ bs := List.mem_of_getElem? hb
    have tk : bs.take (i + 1) = bs.take i ++ [b] := take_succ hb
    show wipe ((wipe σ vs).set j (some x)) vs = wipe σ vs ∧ _
    refine ⟨hw x, turn b x H1 _ mem hab (hA _ _ _ _ s hab) s fun H2 s2 => ?_⟩
    cases hf : f b with
    | false =>
      rw [if_neg Bool.false_ne_true]
      refine ⟨ys, s2 _ _ hd, by omega, s.trans s2, fun o => ?_⟩
      rw [tk, List.filter_append, List.filter_cons_of_neg (by simp [hf]), List.filter_nil, List.append_nil]
      exact pair_imp (fun c y => hB c y _ _ (sUpd s2)) (pq o)
    | true =>
      rw [if_pos rfl]
      refine elem b x H2 _ mem hf hab (hA _ _ _ _ (s.trans s2) hab) (s.trans s2) fun y H3 s3 hy3 => ?_
      have hd3 := s3 _ _ (s2 _ _ hd)
      have s4 : Same H H3 := (s.trans s2).trans s3
      refine ⟨ys, hd3, szl (by omega), ys ++ [y], upd_same, by rw [List.length_append]; simp; omega, sMut s4 hD, fun o => ?_⟩
      rw [tk, List.filter_append, List.filter_cons_of_pos (by simp [hf]), List.filter_nil, List.map_append, upd_upd]
      exact (pair_imp (fun c z h => hB c z _ _ (sUpd (s2.trans s3)) h) (pq o)).snoc (hy3 D o hD (by rw [s2 _ _ hd]; simp))
  · rintro H1 ⟨ys, hd, hy, s, pq⟩
    refine fin D ys H1 hD s hd ?_
    have pq := pq (.lst ys)
    rw [← hlen, List.take_length, upd_id hd] at pq
    exact pq
end
end Rd
namespace Rd
open PySem.Spec PyProof.Rows
section
variable {K : PySem.W.Frag} {σ : L2.St} {H H' : Hp} {Q : VK} {D : Ends} {z : Str}
/-! ### comprehensions and loops over ranges -/
def LcGo (J : It) (g : TG) (tt : TT) (te : TE) (vs : List Nat) (σ : L2.St) (Q : VK) (H1 : Hp) : Prop := ∀ D, H1 D = none → ∃ W : Nat → Nat → Hp → Prop, (∃ m, W 0 m (upd H1 D (.lst []))) ∧ ∀ i m H, W i m H →
  (J.stop i H ∧ Q (.ref D) H) ∨ (J.go i H ∧ ∃ Nx : Hp → Prop, (∀ H', Nx H' → ∃ m', m' < m ∧ W (i + 1) m' H') ∧ ∀ x H', J.yld i H x H' → g x (wipe σ vs) H' fun σ2 H2 => wipe σ2 vs = wipe σ vs ∧ tt σ2 H2 fun b H3 =>
    if b = true then te σ2 H3 fun y H4 => ∃ acc, H4 D = some (.lst acc) ∧ acc.length < sizeLine ∧ Nx (upd H4 D (.lst (acc ++ [y]))) else Nx H3)
theorem lcR {ta : TA} {g : TG} {tt : TT} {te : TE} {vs : List Nat} (k : ta σ H fun xs H1 => ∃ j : Int, xs = [.int j] ∧ -(2 ^ 62) ≤ j ∧ j < 2 ^ 62 ∧ LcGo (Itr 0 j.toNat) g tt te vs σ Q H1) : tLc (iRng1 ta) g tt te vs σ H Q := k
theorem rng {i : Int} {R : Prop} (h0 : 0 ≤ i) (h1 : i ≤ 100000) (k : R) : -(2 ^ 62) ≤ i ∧ i < 2 ^ 62 ∧ R := ⟨by omega, by omega, k⟩
/-- no test; each turn adds one thing -/
theorem goR {n j : Nat} {te : TE} {vs : List Nat} (Pv : Addr → Nat → List V → Hp → Prop) (h0 : ∀ D, H D = none → Pv D 0 [] (upd H D (.lst []))) (hw : ∀ x, wipe ((wipe σ vs).set j (some x)) vs = wipe σ vs) (hn : n ≤ 100000)
    (turn : ∀ D i acc H1, H D = none → i < n → acc.length = i → H1 D = some (.lst acc) → Pv D i acc H1 → ∀ R : VK, (∀ y H2, H2 D = some (.lst acc) → Pv D (i + 1) (acc ++ [y]) (upd H2 D (.lst (acc ++ [y]))) → R y H2) → te ((wipe σ vs).set j (some (.int (i : Int)))) H1 R)
    (fin : ∀ D acc H1, H D = none → acc.length = n → H1 D = some (.lst acc) → Pv D n acc H1 → Q (.ref D) H1) : LcGo (Itr 0 n) (gName j) tYes te vs σ Q H := by
  intro D hD
  refine lc_range (lo := 0) (n := n) (fun i H1 => ∃ acc, acc.length = i ∧ H1 D = some (.lst acc) ∧ Pv D i acc H1) ⟨[], rfl, upd_same, h0 D hD⟩ ?_ ?_
  · rintro i H1 hi ⟨acc, ha, hd, p⟩
    have e0 : (0 : Int) + (i : Int) = (i : Int) := Int.zero_add _
    rw [e0]
    refine ⟨hw _, ?_⟩
    refine turn D i acc H1 hD hi ha hd p _ fun y H2 h1 h2 => ?_
    exact ⟨acc, h1, szl (by omega), acc ++ [y], by simp [ha], upd_same, h2⟩
  · rintro H1 ⟨acc, ha, hd, p⟩
    exact fin D acc H1 hD ha hd p
def ForGo (J : It) (g : TG) (tb : TS) (D : Ends) (σ : L2.St) (H1 : Hp) : Prop := ∃ W : Nat → Nat → L2.St → Hp → Prop, (∃ m, W 0 m σ H1) ∧ ∀ i m σ H, W i m σ H →
  (J.stop i H ∧ D.nx σ H) ∨ (J.go i H ∧ ∃ N : L2.St → Hp → Prop, (∀ σ' H', N σ' H' → ∃ m', m' < m ∧ W (i + 1) m' σ' H') ∧ ∀ x H', J.yld i H x H' → g x σ H' fun σ2 H2 => tb { D with nx := N, ct := N, bk := D.nx } σ2 H2)
theorem forR {ta : TA} {g : TG} {tb : TS} (k : ta σ H fun xs H1 => ∃ j : Int, xs = [.int j] ∧ -(2 ^ 62) ≤ j ∧ j < 2 ^ 62 ∧ ForGo (Itr 0 j.toNat) g tb D σ H1) : tFor (iRng1 ta) g tb D σ H := k
theorem forGo {n j : Nat} {tb : TS} (Pv : Nat → L2.St → Hp → Prop) (h0 : Pv 0 σ H)
    (turn : ∀ i σ1 H1, i < n → Pv i σ1 H1 → tb { D with nx := Pv (i + 1), ct := Pv (i + 1), bk := D.nx } (σ1.set j (some (.int (i : Int)))) H1) (fin : ∀ σ1 H1, Pv n σ1 H1 → D.nx σ1 H1) : ForGo (Itr 0 n) (gName j) tb D σ H :=
  for_range (lo := 0) (n := n) Pv h0 (fun i σ1 H1 hi p => by
    show tb _ (σ1.set j (some (.int (0 + (i : Int))))) H1
    rw [Int.zero_add]
    exact turn i σ1 H1 hi p) fin
theorem adds {a b : Str} {R : Str → Str → Prop} (h : a.length + b.length ≤ 100000) (k : R a b) : ∃ i j, V.str a = .str i ∧ V.str b = .str j ∧ i.length + j.length ≤ sizeLine ∧ R i j := ⟨a, b, rfl, rfl, sz h, k⟩
theorem gtup {n : Nat} {t : TGs} {a : Addr} {xs : List V} {QS : L2.St → Hp → Prop} (h : SqT K H a xs) (hl : xs.length = n) (k : t xs σ H QS) : gTup K n t (.ref a) σ H QS := ⟨a, xs, rfl, h, hl, k⟩
theorem gcons {v : V} {r : List V} {t : TG} {u : TGs} {QS : L2.St → Hp → Prop} (k : t v σ H fun σ' H' => u r σ' H' QS) : gCons t u (v :: r) σ H QS := ⟨v, r, rfl, k⟩
theorem gnil {QS : L2.St → Hp → Prop} (k : QS σ H) : gNil [] σ H QS := ⟨rfl, k⟩
theorem cut {t u : TS} (Mid : L2.St → Hp → Prop) (h1 : t { D with nx := Mid } σ H) (h2 : ∀ σ' H', Mid σ' H' → u D σ' H') : C8.tCut t u D σ H := ⟨Mid, h1, h2⟩
/-- a method of a text -/
theorem m1 {r : V → List V → Hp → VK → Prop} {to te : TE} (k : to σ H fun x H1 => (∃ a, x = .str a) ∧ te σ H1 fun y H2 => r x [y] H2 Q) : tM1 r to te σ H Q := k
theorem isStr {R : Prop} (k : R) : (∃ a, V.str z = .str a) ∧ R := ⟨⟨z, rfl⟩, k⟩
end
end Rd
namespace W6
open L2 TL
/-! ### texts with a bound -/
structure W (n : Nat) (w : Str) : Prop where
  len : w.length ≤ n
  low : ∀ c ∈ tl w, c < 1000
theorem tl_len (w : Str) : (tl w).length = w.length := by show w.cps.toList.length = w.cps.size; simp
theorem W.app {n m : Nat} {a b : Str} (ha : W n a) (hb : W m b) : W (n + m) (a ++ b) := by
  have e : tl (a ++ b) = tl a ++ tl b := by show (a.cps ++ b.cps).toList = _; simp
  refine ⟨?_, fun c hc => ?_⟩
  · rw [← tl_len, e, List.length_append, tl_len, tl_len]
    exact Nat.add_le_add ha.len hb.len
  · rw [e, List.mem_append] at hc
    exact hc.elim (ha.low c) (hb.low c)
theorem W.cut {n : Nat} {a : Str} (ha : W n a) (lo hi : Option Int) : W n (cutS a lo hi) :=
  ⟨Nat.le_trans (cutS_length a lo hi) ha.len, fun c hc => ha.low c (by
    have hc : c ∈ ((a.cps.toList.drop (HT.sIx a.length 0 lo)).take (HT.sIx a.length a.length hi - HT.sIx a.length 0 lo)) := by simpa [cutS] using hc
    exact List.mem_of_mem_drop (List.mem_of_mem_take hc))⟩
theorem joinL_nil : ∀ ps : List (List Nat), joinL [] ps = ps.flatten
  | [] => rfl
  | [p] => by simp [joinL]
  | p :: q :: r => by rw [joinL, joinL_nil (q :: r)]; simp
theorem W.join {cs : List Str} (h : ∀ c ∈ cs, W 1 c) : W cs.length (Txt.join "" cs) := by
  have e : tl (Txt.join "" cs) = (cs.map tl).flatten := by
    rw [join_eq, tl_join]
    exact joinL_nil _
  refine ⟨?_, fun c hc => ?_⟩
  · rw [← tl_len, e]
    clear e
    induction cs with
    | nil => simp
    | cons a cs ih =>
      rw [List.map_cons, List.flatten_cons, List.length_append, List.length_cons, tl_len]
      have := ih fun c hc => h c (List.mem_cons_of_mem _ hc)
      have := (h a List.mem_cons_self).len
      omega
  · rw [e, List.mem_flatten] at hc
    obtain ⟨l, hl, hc⟩ := hc
    obtain ⟨s, hs, rfl⟩ := List.mem_map.mp hl
    exact (h s hs).low c hc
theorem W.mono {n m : Nat} {a : Str} (h : W n a) (l : n ≤ m) : W m a := ⟨Nat.le_trans h.len l, h.low⟩
theorem W.sum {cs : List Str} (h : ∀ c ∈ cs, W 1 c) : (cs.map (·.length)).sum ≤ cs.length := by
  induction cs with
  | nil => exact Nat.le_refl _
  | cons a cs ih =>
    rw [List.map_cons, List.sum_cons, List.length_cons]
    have := ih fun c hc => h c (List.mem_cons_of_mem _ hc)
    have := (h a List.mem_cons_self).len
    omega
theorem W.sign {n : Nat} {z : Str} {i : Int} (h : W n z) (h0 : 0 ≤ i) (h1 : i < (z.length : Int)) : ∃ c, atI z.cps.toList i = some c ∧ W 1 ⟨#[c]⟩ := by
  have l : i.toNat < z.cps.toList.length := by
    have e : z.cps.toList.length = z.length := tl_len z
    omega
  refine ⟨z.cps.toList[i.toNat], Rd.atN h0 (List.getElem?_eq_getElem l), Nat.le_refl _, fun c hc => ?_⟩
  have e : c = z.cps.toList[i.toNat] := by simpa using hc
  rw [e]
  exact h.low _ (List.getElem_mem l)
end W6
local macro_rules | `(tactic| walk_at "look") => `(tactic| first
  | assumption
  | exact upd_same
  | exact SqL.of (by assumption)
  | exact SqL.of upd_same)
local macro_rules | `(tactic| walk_at "cond") => `(tactic| first | decide | (show _ ∨ _; right; split <;> decide) | (show _ ∧ _; constructor <;> omega) | (show _ ∨ _; left; constructor <;> omega) | (show _ ∨ _; right; constructor <;> omega) | (show _ ≠ _; omega) | (show _ < _; omega))
local macro_rules | `(tactic| walk_at "rd") => `(tactic| (with_reducible first
  | refine Rd.var rfl ?_ | refine Rd.cst ?_ | refine Rd.op ?_ | refine Rd.un ?_ | refine Rd.i0 ?_ | refine Rd.u1 ?_ | refine Rd.cons ?_ | refine Rd.nil ?_
  | refine Rd.seq ?_ | refine Rd.ifs ?_ | refine Rd.asg ?_ | refine Rd.gname ?_ | refine Rd.gsub ?_ | refine Rd.ret ?_ | refine Rd.retN ?_ | refine Rd.drop ?_ | refine Rd.next ?_
  | refine Rd.test ?_ | refine Rd.tb_ ?_ | refine Rd.not_ ?_ | refine Rd.or_ ?_ | refine Rd.and_ ?_ | refine Rd.orV ?_ | refine Rd.andV ?_ | refine Rd.notV ?_ | refine Rd.tif ?_ | refine Rd.yes ?_
  | refine Rd.cb ?_ | refine Rd.call ?_ | refine Rd.sl ?_ | refine Rd.noPart ?_ | refine Rd.part ?_ | refine Rd.int_ ?_ | refine Rd.bl_ ?_
  | refine Rd.eq rfl ?_ | refine Rd.ne rfl ?_ | refine Rd.lst ?_ | refine Rd.tup ?_ | refine Rd.par ?_ | refine Rd.bm ?_ | refine Rd.bm0 ?_ | refine Rd.m1 ?_ | refine Rd.isStr ?_ | refine Rd.lcR ?_ | refine Rd.forR ?_ | refine Rd.gcons ?_ | refine Rd.gnil ?_
  | refine Rd.int1 ?_ | refine Rd.intB ?_ | refine Rd.two ?_ | refine Rd.one ?_ | refine Rd.andr ?_ | refine Rd.str_ ?_
  | (refine Rd.ic ?k1 ?_; (case k1 => with_unfolding_all walk_at "cond"))
  | (refine' Rd.ixL ?k1 ?k2 ?_; (case k1 => with_unfolding_all walk_at "look"); (case k2 => with_unfolding_all (first | rfl | exact Rd.at0)))
  | (refine' Rd.setL ?k1 ?k2 ?_; (case k1 => with_unfolding_all walk_at "look"); (case k2 => with_unfolding_all rfl))
  | (refine' Rd.lenL ?k1 ?_; (case k1 => with_unfolding_all walk_at "look"))
  | (refine' Rd.lenK ?k1 ?_; (case k1 => with_unfolding_all walk_at "look"))
  | refine Rd.tru ?_ | (refine' Rd.truL ?k1 ?_; (case k1 => with_unfolding_all walk_at "look"))))

namespace Ex
open PySem.Spec PyProof.Rows
/-! ### an own error with one field, f: def __init__(self, f): self.f = f -/
def spInit (C : Addr) (f : Str) : Sp := fun vs H Q _ => ∃ (a : Addr) (v : V), vs = [.ref a, v] ∧ H a = some (exo a C none) ∧ ∀ dx, H dx = none → dx ≠ a → Q .non (upd (upd H dx (exd dx [(f, v)])) a (exo a C (some dx)))
structure ErrC (K : PySem.W.Frag) (mg : Str → Option Value) (x f : Str) (C : Addr) : Prop where
  t : OexC K C
  xf : XfC K C
  ic : ExcC K C
  no : PySem.W.findIn K (.ref C) f = some none
  g : mg x = some (.ref C)
  te : PySem.W.exmOne K (.ref C) (.ref C) = some true
/-- its __init__ as a def that keeps its promise -/
def InitOk (P : Program) (w : World) (K : PySem.W.Frag) (mg : Str → Option Value) (base : Heap) (f : Str) (C : Addr) : Prop :=
  ∃ (fI : Addr) (fd : FuncData), PySem.W.findIn K (.ref C) "__init__" = some (some (.ref fI)) ∧ PySem.W.typeIn K (.ref fI) = some (.type "function") ∧ FnOk P w K mg base CX0 1 fI fd ["self", f] (spInit C f) ∧ Binds K fd ["self", f] []
theorem made_heap {H : Hp} {a d : Addr} {f : Str} {v : V} {C : Addr} (ha : H a = none) (hda : d ≠ a) :
    upd (L2.del (upd (upd (upd H a (exo a C none)) d (exd d [(f, v)])) a (exo a C (some d))) a) d (.xd [(f, v)]) = upd H d (.xd [(f, v)]) := by
  funext b
  by_cases hb : b = d
  · subst hb; rw [upd_same, upd_same]
  · rw [upd_ne hb, upd_ne hb]
    by_cases hba : b = a
    · subst hba; rw [del_same, ha]
    · rw [del_ne hba, upd_ne hba, upd_ne hb, upd_ne hba]
section
variable {X : Cx} {σ : L2.St} {H : Hp}
theorem pmkE {x f : Str} {C : Addr} {k : Nat} {e : Expr} {es : List Expr} {p pos : Pos} {ta : TA} (T : ErrC X.K X.mg x f C) (M : InitOk X.prog X.w X.K X.mg X.base f C) (hr : Room k X.A) (hk : 2 ≤ k) (ha : PA X (e :: es) ta) (hg : Gl X x := by rfl)
    (hdb : (x == ("__debug__" : Str)) = false := by decide) (he : starEach (e :: es) X.env = (false, eval e X.env) :: starEach es X.env := by rfl) (hpl : (backTo pos (starEach es X.env)).any (·.1) = false := by rfl) :
    PMk X (.Call (.Name x p) (e :: es) [] pos) (tMkO C (spInit C f) [] ta) := by
  obtain ⟨fI, fd, iC, tI, F, hb⟩ := M
  exact pmk_oex T.t iC tI F (hr.mono hk) hb .nil pass0 hg T.g ha hdb he hpl
theorem mk {C : Addr} {sp : Sp} {dvs : List V} {ta : TA} {Q : XK} (k : ta σ H fun vs H1 => vs.length ≤ 1000 ∧ ∀ a, H1 a = none → sp (.ref a :: (vs ++ dvs)) (upd H1 a (exo a C none)) (fun v H2 => v = .non ∧ ∃ (d : Addr) (fs : List (Str × V)), H2 a = some (exo a C (some d)) ∧ H2 d = some (exd d fs) ∧ H1 d = none ∧ Q (.ref C) (some d) (upd (L2.del (H2) a) d (.xd fs))) (fun _ _ _ => False)) :
    tMkO C sp dvs ta σ H Q := k
theorem made {C : Addr} {f : Str} {v : V} {Q : XK} (h : ∀ d, H d = none → Q (.ref C) (some d) (upd H d (.xd [(f, v)]))) :
    [v].length ≤ 1000 ∧ ∀ a, H a = none → spInit C f (.ref a :: ([v] ++ [])) (upd H a (exo a C none)) (fun u H2 => u = .non ∧ ∃ (d : Addr) (fs : List (Str × V)), H2 a = some (exo a C (some d)) ∧ H2 d = some (exd d fs) ∧ H d = none ∧ Q (.ref C) (some d) (upd (L2.del H2 a) d (.xd fs))) (fun _ _ _ => False) := by
  refine ⟨by simp, fun a ha => ⟨a, v, rfl, upd_same, fun d hd hda => ⟨rfl, d, [(f, v)], upd_same, ?_, ?_, ?_⟩⟩⟩
  · rw [upd_ne hda, upd_same]
  · rw [upd_ne hda] at hd; exact hd
  · rw [upd_ne hda] at hd
    rw [made_heap ha hda]
    exact h d hd
end
/-! ### defs that may raise -/
def CalX (P : Program) (w : World) (K : PySem.W.Frag) (mg : Str → Option Value) (base : Heap) (k : Nat) (x : Str) (sp : Sp) : Prop :=
  ∃ (f : Addr) (fd : FuncData) (ps : List Str), FnG P w K mg base (L2.CX P w) k f fd ps sp ∧ mg x = some (.ref f) ∧ PySem.W.keepIn K (.ref f) = true ∧ Binds K fd ps []
section
variable {P : Program} {w : World} {K : PySem.W.Frag} {mg : Str → Option Value} {base : Heap}
theorem byX {x : Str} {st : Stmt} {ps N : List Str} {k : Nat} {sp : Sp} (D : DefAt K mg x st ps) (S : FnScope N ps (defScope st)) (len : ∀ vs H Q E, sp vs H Q E → vs.length = ps.length)
    (inner : ∀ (f : Addr) (cd : Value) (A : Around), A.guards = some [] → ∀ (outer : List Env) (s : Shared) (H : Hp) (vs : List V) (Q : VK) (E : XK),
      Room k (A.deeper (envOfC x (defScope st) s.heap.objs.size f cd)) → sp vs H Q E →
      ∃ t, PSs (cxOf (L2.CX P w) P w K mg base N x (defScope st) f cd A outer s H E) (defBody st) t ∧ t { nx := fun _ H' => Q .non H', rt := Q } (start N vs) H) :
    CalX P w K mg base (k + 1) x sp := by
  obtain ⟨f, fd, hm, F, hb⟩ := D
  exact ⟨f, fd, ps, defG F S len (inner f), hm, F.kp, hb⟩
end
section
variable {X : Cx} {k j : Nat} {sp : Sp} {x : Str} {p pos : Pos} {e : Expr} {es : List Expr} {t : TA}
/-- called in a def that lets the same out -/
theorem pe_x {E : XK} (c : CalX X.prog X.w X.K X.mg X.base k x sp) (g : X.A.guards = some []) (hr : Room j X.A) (hk : k ≤ j) (tk : Takes X fun cls d _ H => E cls d H) (ha : PA X (e :: es) t) (hg : Gl X x := by rfl)
    (hdb : (x == ("__debug__" : Str)) = false := by decide) (he : starEach (e :: es) X.env = (false, eval e X.env) :: starEach es X.env := by rfl)
    (hpl : (backTo pos (starEach es X.env)).any (·.1) = false := by rfl) : PE X (.Call (.Name x p) (e :: es) [] pos) (tCall sp [] E t) := by
  obtain ⟨f, fd, ps, F, hm, hkp, hb⟩ := c
  exact pe_callG F g (hr.mono hk) hg hm hkp hb .nil (passes_call tk fun _ _ _ _ h => h) ha hdb he hpl
/-- called where nothing is raised -/
theorem pe_x0 (c : CalX X.prog X.w X.K X.mg X.base k x sp) (g : X.A.guards = some []) (hr : Room j X.A) (hk : k ≤ j) (ha : PA X (e :: es) t) (hg : Gl X x := by rfl)
    (hdb : (x == ("__debug__" : Str)) = false := by decide) (he : starEach (e :: es) X.env = (false, eval e X.env) :: starEach es X.env := by rfl)
    (hpl : (backTo pos (starEach es X.env)).any (·.1) = false := by rfl) : PE X (.Call (.Name x p) (e :: es) [] pos) (tCall sp [] E0 t) := by
  obtain ⟨f, fd, ps, F, hm, hkp, hb⟩ := c
  refine pe_callG F g (hr.mono hk) hg hm hkp hb .nil (fun pins σ H s u s' I z => ?_) ha hdb he hpl
  obtain ⟨_, _, _, _, _, _, _, _, _, _, _, _, z⟩ := z
  exact z.elim
/-- called in a try -/
theorem pe_xS {W : WX} (c : CalX X.prog X.w X.K X.mg X.base k x sp) (g : X.A.guards = some []) (hr : Room j X.A) (hk : k ≤ j) (tk : Takes X W) (ha : PA X (e :: es) t) (hg : Gl X x := by rfl)
    (hdb : (x == ("__debug__" : Str)) = false := by decide) (he : starEach (e :: es) X.env = (false, eval e X.env) :: starEach es X.env := by rfl)
    (hpl : (backTo pos (starEach es X.env)).any (·.1) = false := by rfl) : PE X (.Call (.Name x p) (e :: es) [] pos) (tCallS sp (WE W) t) := by
  obtain ⟨f, fd, ps, F, hm, hkp, hb⟩ := c
  refine ⟨fun pins s σ H Q I h => wpAny_Call_Name_kw (ld_glob I hg hm ?_ hdb)⟩
  refine PySem.W.callWith_K (h₀ := X.base) I.ok.mod.kin hkp (thn (ha.run pos pins s σ H _ I h) ?_) he hpl
  rintro us s1 ⟨vs, H1, I1, r, q⟩
  refine ⟨I1.kIn, ?_⟩
  have lens : us.length = ps.length := (r.length).symm.trans (F.len _ _ _ _ q)
  have body := F.go X.A g X.stack s1 H1 ⟨us, []⟩ us vs Q (WE W σ) (hr.mono hk) I1.env0 (by simpa using hb s1 us I1.kIn (by simpa using lens)) r q
  refine wpAny_call (codeAny_mono body ?_)
  intro res s' hres
  match res, hres with
  | .error e, z => exact passAt tk σ pins H1 s1 e s' I1 z
  | .ok (.ret u), z => exact I1.after z
  | .ok .next, z => exact z.elim
  | .ok .brk, z => exact z.elim
  | .ok .cont, z => exact z.elim
end
end Ex
namespace PySem.W
open PySem PySem.Calls PyProof.Rows
theorem clsIn_obj {K : Frag} {D : Addr} (h : hasDictIn K D = true) : ∃ c d cd sl, K.lookup D = some ⟨c, d, .cls cd, sl⟩ := by
  obtain ⟨cd, hc, _⟩ := any_some h
  unfold clsIn at hc
  split at hc
  · rename_i c d cd' sl ho
    exact ⟨c, d, cd', sl, ho⟩
  · cases hc
/-- an instance of an own exception class, with whatever dict, as isinstance asks it -/
theorem kitxD {K : Frag} {x D : Addr} {ox : Obj} {od : Option Obj} (C : L2.ExcC K D) : KitX K (.ref x) (.ref D) (fun h => InstAt h x ox D od) where
  ty := fun _ _ _ I => I.type
  it := fun _ _ X _ => by
    obtain ⟨c, d, cd, sl, ho⟩ := clsIn_obj C.hd
    intro A' Q' E' s' k q
    unfold isType loadHead
    exact wpAny_bind (wpAny_loadPart (k _ _ (X _ _ ho)) (wpAny_pure q))
  ne := fun h tp dd its n sl X htp => by
    obtain ⟨c, d, cd, sl', ho⟩ := clsIn_obj C.hd
    cases e : (Value.ref D == .ref tp) with
    | false => rfl
    | true =>
      obtain rfl : D = tp := Value.ref.inj (beq_iff_eq.mp e)
      have z := (X _ _ ho).symm.trans htp
      cases z
  ca := fun X I k => kx_classE X I C.hg C.hk C.hs (findObj_dataE (by obtain ⟨cd, hc, _⟩ := any_some C.hd; rw [hc]; rfl) C.ha C.hn C.ht) C.hm k
end PySem.W
namespace Ex
open PySem.Spec PyProof.Rows
/-- isinstance(e, c), e the exception that the suite holds, with its dict -/
def rIsD (K : PySem.W.Frag) (C a : Addr) (cls : Value) (d : Option Addr) : List V → Hp → VK → Prop := fun xs H Q => ∃ (c : V) (cv : Value) (b : Bool) (dd : Addr) (fs : List (Str × V)), xs = [.ref a, c] ∧ ClsV c cv ∧ cls = .ref C ∧ d = some dd ∧ H dd = some (.xd fs) ∧ PySem.W.kitOne K (.ref C) cv = some b ∧ Q (.bl b) H
theorem call_isD {X : Cx} {a C : Addr} {oe : Obj} {cls : Value} {d : Option Addr} {pn : List (Addr × Obj)} (T : ExcC X.K C) (hz : Zc cls d oe) (hf : ∃ vs, oe.data = .fields vs) : CallR (X.suite a ((a, oe) :: pn)) (.builtin "isinstance") (rIsD X.K C a cls d) := by
  intro pins s σ H xs us Q I r h
  obtain ⟨c, cv, b, dd, fs, rfl, kc, ec, ed, ea, e, q⟩ := h
  obtain ⟨u, t, rfl, ru, rt⟩ := vals2 r
  obtain rfl : u = Value.ref a := ru
  obtain rfl := kc.eq rt
  subst ec ed
  obtain ⟨hget, _⟩ := I.pin (a, oe) (List.mem_append.mpr (.inl List.mem_cons_self))
  obtain ⟨vs, hv⟩ := hf
  have hx : ObjOk X.prog X.w H s.heap dd (.xd fs) := I.hok dd _ ea
  obtain ⟨mA, hns, hr⟩ := hx
  obtain ⟨od, ho, hl⟩ := lookIn_ns hns
  have J : PySem.W.InstAt s.heap a oe C (some od) := ⟨hget, hz.1, by unfold PySem.W.notCls; rw [hv] <;> rfl, by rw [hz.2]; exact ho⟩
  exact PySem.W.kia_one (PySem.W.kitxD T) I.kIn J e (fun z => nomatch z) fun tk => ⟨.bl b, H, I.kept (t' := tk) fun _ _ z => z, rfl, q⟩
end Ex
namespace Gk
open PySem.Spec PyProof.Rows
section
variable {X : Cx}
def rReprX (K : PySem.W.Frag) : List V → Hp → VK → Prop := fun xs H Q => rRepr K xs H Q ∨ ∃ p, xs = [.ref p] ∧ H p = some (.dK []) ∧ Q (.str "{}") H
theorem call_reprX (hg : X.A.guards = some []) (hu : X.A.units + 64 < cLine) : CallR X (.builtin "repr") (rReprX X.K) := by
  intro pins s σ H xs us Q I r h
  rcases h with h | ⟨p, rfl, hp, q⟩
  · exact call_reprD hg hu pins s σ H xs us Q I r h
  · obtain ⟨u, rfl, ru⟩ := vals1 r
    obtain rfl : u = Value.ref p := ru
    obtain ⟨_, ns, vs, kv, dof⟩ := dk_of I.hok hp
    obtain rfl : vs = [] := by cases kv; rfl
    obtain ⟨o, es, ep, h1, h2, h3, _, h4, _⟩ := dof
    have he : es.toList = [] := by
      cases hz : es.toList with
      | nil => rfl
      | cons a l => rw [hz] at h4; cases h4
    have rd : Reads s.heap (.ref p) (.dict []) (p :: [] ++ []) := .dict h1 h2.1 h3 (by rw [he]; exact .nil) (by rw [he]; exact .nil)
    have e : (PyData.dict []).shown = "{}" := by decide +kernel
    have out : ∀ h' u' tk, (∀ b o, s.heap.get? b = some o → h'.get? b = some o) → EP X pins σ Q (.str (PyData.dict []).shown u') { s with heap := h', toks := tk } :=
      fun h' u' tk hk => ⟨.str "{}", H, I.kept hk, ⟨u', by rw [e]⟩, q⟩
    refine repr_of_reads' rd (by rfl) (fun _ m => ?_) hg (by show _ + (PyData.depth (.dict []) + 1) < _; have : PyData.depth (.dict []) = 1 := rfl; omega) (fun _ _ z => z) out (by rw [e]; decide +kernel)
    have : sysModules = p := by simpa using m
    rw [← this] at ns
    simp at ns
end
end Gk
namespace Gk
open PySem.Spec PyProof.Rows
section
variable {X : Cx} {k j : Nat} {sp : Sp} {x : Str} {p pos : Pos}
/-- a def without arguments -/
theorem pe_cG0 (c : CalG X.prog X.w X.K X.mg X.base k x sp) (g : X.A.guards = some []) (hr : Room j X.A) (hk : k ≤ j) (hg : Gl X x := by rfl) (hdb : (x == ("__debug__" : Str)) = false := by decide) :
    PE X (.Call (.Name x p) [] [] pos) (tCall sp [] E0 tNil) := by
  obtain ⟨f, fd, ps, F, hm, hkp, hb⟩ := c
  refine ⟨fun pins s σ H Q I h => wpAny_Call_Name_kw (ld_glob I hg hm ?_ hdb)⟩
  exact PySem.W.callWith_K0 I.kIn hkp (runG (us := []) F g (hr.mono hk) hb .nil pass0 I .nil h)
end
end Gk
namespace Ob
open PySem.Spec PyProof.Rows
/-! ### own classes: defs that keep their promise where no container is being shown -/
section
variable {X : Cx} {CX : CXT} {k : Nat} {f C : Addr} {fd : FuncData} {ps : List Str} {sp : Sp} {E : XK}
/-- nothing is raised there -/
theorem px0 : Passes (L2.CX X.prog X.w) X E0 := fun pins σ H s u s' I z => by
  obtain ⟨_, _, _, _, _, _, _, _, _, _, _, _, z⟩ := z
  exact z.elim
/-- the same goes out -/
theorem pxE {E : XK} (tk : Takes X fun cls d _ H => E cls d H) : Passes (L2.CX X.prog X.w) X E := passes_call tk fun _ _ _ _ h => h
theorem flow {pins : List (Addr × Obj)} {σ : L2.St} {H : Hp} {s : Shared} {Q : VK} {r : Result} {s' : Shared} (hx : Passes CX X E) (I : Inv X pins σ H s) (h : CR CX X.stack X.prog X.w H s Q E r s') : wants (EP X pins σ Q) X.xe r s' := by
  match r, h with
  | .error e, z => exact hx pins σ H s e s' I z
  | .ok (.ret u), z => exact I.after z
  | .ok .next, z => exact z.elim
  | .ok .brk, z => exact z.elim
  | .ok .cont, z => exact z.elim
/-- the call of such a def, A somewhere at this body or one step further in -/
theorem goG {A : Around} {H : Hp} {s : Shared} {Q : VK} {us : List Value} {vs : List V} (F : FnG X.prog X.w X.K X.mg X.base CX k f fd ps sp) (g : A.guards = some []) (hr : Room k A)
    (e0 : Env0 X.prog X.w X.K X.mg X.base A X.stack s H) (kn : X.K.In s.heap) (hb : Binds X.K fd ps []) (r : Vals vs us) (h : sp vs H Q E) :
    codeAny (model X.prog X.w) A (.call (.ref f) ⟨us, []⟩) (CR CX X.stack X.prog X.w H s Q E) s := by
  have lens : (us ++ []).length = ps.length := by rw [List.append_nil]; exact (r.length).symm.trans (F.len _ _ _ _ h)
  have b := hb s us kn lens
  rw [List.append_nil] at b
  exact F.go A g X.stack s H ⟨us, []⟩ us vs Q E hr e0 b r h
/-- a method m of the class at C -/
def MCal (P : Program) (w : World) (K : PySem.W.Frag) (mg : Str → Option Value) (base : Heap) (CX : CXT) (C : Addr) (k : Nat) (m : Str) (sp : Sp) : Prop :=
  ∃ (f : Addr) (fd : FuncData) (ps : List Str), FnG P w K mg base CX k f fd ps sp ∧ Meth K C m f ∧ Binds K fd ps []
section
variable {j : Nat} {m : Str} {o e : Expr} {es : List Expr} {apos pos : Pos} {ta : TE} {t : TA}
theorem meth {pl : Sem Bool} (he : PE X o ta) (c : L2.Cls X.K C) (M : MCal X.prog X.w X.K X.mg X.base CX C k m sp) (g : X.A.guards = some []) (hr : Room j X.A) (hk : k ≤ j) (hx : Passes CX X E) (ha : PA X (e :: es) t)
    (hst : starEach (e :: es) X.env = (false, eval e X.env) :: starEach es X.env := by rfl) (hpl : (backTo pos (starEach es X.env)).any (·.1) = false := by rfl)
    (ht : eval (.Call (.Attribute o m apos) (e :: es) [] pos) X.env = (do
      let ov ← eval o X.env
      standAt apos.atName
      let (f, first) ← holding [ov] (getMethod ov m pl)
      callWith pos f first (backTo pos (starEach (e :: es) X.env)) (backToKw pos (keywordEach [] X.env))) := by rfl) : PE X (.Call (.Attribute o m apos) (e :: es) [] pos) (tMeth C m sp [] E ta t) := by
  obtain ⟨f, fd, ps, F, hm, hb⟩ := M
  refine ⟨fun pins s σ H Q I h => PySem.W.methodCall_KW (pl := pl) (thn (he.run pins s σ H _ I h) fun u s1 ⟨x, H1, I1, rx, a, dx, fs, ex, ea, l, q⟩ => ?_) ht⟩
  subst ex
  obtain rfl : u = Value.ref a := rx
  refine getmeth_ok I1 ea c hm l (PySem.W.callWith_K (first := [.ref a]) (h₀ := X.base) I.ok.mod.kin hm.kp (thn (ha.run pos pins s1 σ H1 _ I1 q) fun us s2 ⟨vs, H2, I2, r, q2⟩ => ⟨I2.kIn, wpAny_call ?_⟩) hst hpl)
  have q2 : sp (V.ref a :: (vs ++ [])) H2 Q E := q2
  rw [List.append_nil] at q2
  exact codeAny_mono (goG F g (hr.mono hk) I2.env0 I2.kIn hb (.cons (show RelV (.ref a) (.ref a) from rfl) r) q2) fun r s' z => flow hx I2 z
theorem meth0 {pl : Sem Bool} (he : PE X o ta) (c : L2.Cls X.K C) (M : MCal X.prog X.w X.K X.mg X.base CX C k m sp) (g : X.A.guards = some []) (hr : Room j X.A) (hk : k ≤ j) (hx : Passes CX X E)
    (ht : eval (.Call (.Attribute o m apos) [] [] pos) X.env = (do
      let ov ← eval o X.env
      standAt apos.atName
      let (f, first) ← holding [ov] (getMethod ov m pl)
      callWith pos f first (backTo pos (starEach [] X.env)) (backToKw pos (keywordEach [] X.env))) := by rfl) : PE X (.Call (.Attribute o m apos) [] [] pos) (tMeth C m sp [] E ta tNil) := by
  obtain ⟨f, fd, ps, F, hm, hb⟩ := M
  refine ⟨fun pins s σ H Q I h => PySem.W.methodCall_KW (pl := pl) (thn (he.run pins s σ H _ I h) fun u s1 ⟨x, H1, I1, rx, a, dx, fs, ex, ea, l, q⟩ => ?_) ht⟩
  subst ex
  obtain rfl : u = Value.ref a := rx
  refine getmeth_ok I1 ea c hm l (PySem.W.callWith_K0 (first := [.ref a]) I1.kIn hm.kp (wpAny_call ?_))
  exact codeAny_mono (goG F g (hr.mono hk) I1.env0 I1.kIn hb (.cons (show RelV (.ref a) (.ref a) from rfl) .nil) q) fun r s' z => flow hx I1 z
end
/-- C() -/
def MkCal (P : Program) (w : World) (K : PySem.W.Frag) (mg : Str → Option Value) (base : Heap) (CX : CXT) (C : Addr) (k : Nat) (x : Str) (sp : Sp) : Prop :=
  ∃ (f : Addr) (fd : FuncData) (ps : List Str), FnG P w K mg base CX k f fd ps sp ∧ Mk K C f ∧ Binds K fd ps [] ∧ mg x = some (.ref C)
theorem guards_make {A : Around} {us : List Value} {kw : List (Str × Value)} : (A.under (.builtin "type.__call__" ⟨.ref C :: us, kw⟩)).guards = A.guards := by
  first
  | rfl
  | simp [Around.under, Code.isGuard, guardIds]
theorem runMk {pins : List (Addr × Obj)} {σ : L2.St} {H : Hp} {s : Shared} {Q : VK} {us : List Value} {vs : List V} (M : Mk X.K C f) (F : FnG X.prog X.w X.K X.mg X.base CX k f fd ps sp) (g : X.A.guards = some []) (hr : Room (k + 1) X.A) (hb : Binds X.K fd ps [])
    (hx : Passes CX X E) (I : Inv X pins σ H s) (r : Vals vs us)
    (h : ∀ x dx, H x = none → H dx = none → dx ≠ x → sp (.ref x :: (vs ++ [])) (upd (upd H dx (.own x)) x (.ins C dx [])) (fun v H2 => v = .non ∧ Q (.ref x) H2) E) :
    wpAny (model X.prog X.w) X.A (call (.ref C) us) (EP X pins σ Q) X.xe s := by
  have hq := h (s.heap.objs.size + 1) s.heap.objs.size (I.hok.fresh (Nat.le_succ _)) (I.hok.fresh (Nat.le_refl _)) (Nat.ne_of_lt (Nat.lt_succ_self _))
  rw [List.append_nil] at hq
  have I2 := Inv.made (C := C) I
  have run := goG F (A := X.A.under (.builtin "type.__call__" ⟨.ref C :: us, []⟩)) (guards_make.trans g) (hr.make C us []) (I2.env0.make C us []) I2.kIn hb (.cons (show RelV (.ref (s.heap.objs.size + 1)) (.ref (s.heap.objs.size + 1)) from rfl) r) hq
  refine wpAny_call (make_map (f := f) I.kIn M.makes M.init (beq_iff_eq.mp M.fn) (codeAny_mono run fun r s' hq' => ?_))
  match r, hq' with
  | .error e, z => exact hx pins σ _ _ e s' I2 z
  | .ok .next, z => exact z.elim
  | .ok .brk, z => exact z.elim
  | .ok .cont, z => exact z.elim
  | .ok (.ret u), z =>
    obtain ⟨v, H', I3, rv, ev, q3⟩ := I2.after z
    subst ev
    exact ⟨rv, ⟨V.ref (s.heap.objs.size + 1), H', I3, rfl, q3⟩⟩
section
variable {j : Nat} {x : Str} {e : Expr} {es : List Expr} {p pos : Pos} {t : TA}
theorem make (M : MkCal X.prog X.w X.K X.mg X.base CX C k x sp) (gd : X.A.guards = some []) (hr : Room j X.A) (hk : k + 1 ≤ j) (hx : Passes CX X E) (ha : PA X (e :: es) t) (hg : Gl X x := by rfl)
    (hdb : (x == ("__debug__" : Str)) = false := by decide) (he : starEach (e :: es) X.env = (false, eval e X.env) :: starEach es X.env := by rfl) (hpl : (backTo pos (starEach es X.env)).any (·.1) = false := by rfl) :
    PE X (.Call (.Name x p) (e :: es) [] pos) (tMake C sp [] E t) := by
  obtain ⟨f, fd, ps, F, M, hb, hm⟩ := M
  refine ⟨fun pins s σ H Q I h => wpAny_Call_Name_kw (ld_glob I hg hm ?_ hdb)⟩
  exact PySem.W.callWith_K (h₀ := X.base) I.ok.mod.kin M.kp (thn (ha.run pos pins s σ H _ I h) fun us s1 ⟨vs, H1, I1, r, q⟩ => ⟨I1.kIn, runMk M F gd (hr.mono hk) hb hx I1 r q⟩) he hpl
theorem make0 (M : MkCal X.prog X.w X.K X.mg X.base CX C k x sp) (gd : X.A.guards = some []) (hr : Room j X.A) (hk : k + 1 ≤ j) (hx : Passes CX X E) (hg : Gl X x := by rfl)
    (hdb : (x == ("__debug__" : Str)) = false := by decide) : PE X (.Call (.Name x p) [] [] pos) (tMake C sp [] E tNil) := by
  obtain ⟨f, fd, ps, F, M, hb, hm⟩ := M
  refine ⟨fun pins s σ H Q I h => wpAny_Call_Name_kw (ld_glob I hg hm ?_ hdb)⟩
  exact PySem.W.callWith_K0 I.kIn M.kp (runMk (us := []) M F gd (hr.mono hk) hb hx I .nil h)
end
/-- a property, read -/
def PCal (P : Program) (w : World) (K : PySem.W.Frag) (mg : Str → Option Value) (base : Heap) (CX : CXT) (C : Addr) (k : Nat) (m : Str) (sp : Sp) : Prop :=
  ∃ (p f : Addr) (fd : FuncData) (ps : List Str), FnG P w K mg base CX k f fd ps sp ∧ PropOf K C m p f ∧ Binds K fd ps []
theorem prop {m : Str} {e : Expr} {pos : Pos} {ta : TE} {j : Nat} (he : PE X e ta) (c : L2.Cls X.K C) (M : PCal X.prog X.w X.K X.mg X.base CX C k m sp) (g : X.A.guards = some []) (hr : Room j X.A) (hk : k + 1 ≤ j) (hx : Passes CX X.nox E)
    (hab : attributeBase e m X.env (eval e X.env) = eval e X.env := by rfl) : PE X (.Attribute e m pos) (tProp C sp [] E ta) := by
  obtain ⟨p, f, fd, ps, F, hp, hb⟩ := M
  refine ⟨fun pins s σ H Q I h => attr_of hab (thn (he.run pins s σ H _ I h) fun u s1 ⟨x, H1, I1, rx, a, dx, fs, ex, ea, q⟩ => ?_)⟩
  subst ex
  obtain rfl : u = Value.ref a := rx
  obtain ⟨mA, O, _, _, _, _⟩ := ins_get I1.hok ea
  obtain ⟨od, J, _⟩ := O.look
  obtain ⟨rest, hrec⟩ := hp.rec_
  have I3 := I1.tok (s1.toks + 1)
  have hc : (PySem.W.clsIn X.K C).isSome = true := by
    obtain ⟨cd, hc, _⟩ := PySem.W.any_some c.hd
    rw [hc]
    rfl
  refine PySem.W.get_bind I1.kIn J (PySem.W.plainGet_of (c.get m)).1 (PySem.W.findObj_data hc hp.at_ hp.get hp.tak) (PySem.W.plainGet_of (c.get m)).2 (wpAny_call (PySem.W.prop_get (s := { s1 with toks := s1.toks + 1 }) I1.kIn hrec ?_))
  refine codeAny_mono (goG F (A := X.A.in1) g (hr.mono hk).in1 I3.env0.in1 I3.kIn hb (.cons (show RelV (.ref a) (.ref a) from rfl) .nil) q) fun r s' z => ?_
  match r, z with
  | .error er, z => exact (show False from hx pins σ H1 { s1 with toks := s1.toks + 1 } er s' (I3.wish _) z).elim
  | .ok .next, z => exact z.elim
  | .ok .brk, z => exact z.elim
  | .ok .cont, z => exact z.elim
  | .ok (.ret u), z =>
    obtain ⟨v, H', I4, rv, q3⟩ := I3.after z
    show wpAny _ _ (handedOut u) _ _ _
    rw [PySem.W.handedOut_of (handed_of rv)]
    exact wpAny_pure ⟨v, H', I4, rv, q3⟩
/-! ### static methods, read off the class -/
structure CSta (K : PySem.W.Frag) (C : Addr) (mc : Value) (m : Str) (p g : Addr) : Prop where
  rd : PySem.W.readsIn K C mc = true
  ga : PySem.W.specialIn K (.ref C) "__getattribute__" = some (some (.builtin "type.__getattribute__"))
  at_ : PySem.W.findCls K (.ref C) mc m = some (.get (.builtin "staticmethod.__get__") (.ref p) .none (.ref C))
  rc : ∃ rest, PySem.W.recIn K p "staticmethod" = some (.ref g :: rest)
  kp : PySem.W.keepIn K (.ref g) = true
def SCal (P : Program) (w : World) (K : PySem.W.Frag) (mg : Str → Option Value) (base : Heap) (CX : CXT) (C : Addr) (k : Nat) (m : Str) (sp : Sp) : Prop :=
  ∃ (p f : Addr) (fd : FuncData) (ps : List Str) (mc : Value), FnG P w K mg base CX k f fd ps sp ∧ CSta K C mc m p f ∧ Binds K fd ps []
def tStat (C : Addr) (sp : Sp) (E : XK) (ta : TE) : TE := fun σ H Q => ta σ H fun x H1 => x = .ref C ∧ sp [] H1 Q E
theorem stat0 {m : Str} {o : Expr} {apos pos : Pos} {ta : TE} {j : Nat} {pl : Sem Bool} (he : PE X o ta) (M : SCal X.prog X.w X.K X.mg X.base CX C k m sp) (g : X.A.guards = some []) (hr : Room j X.A) (hk : k ≤ j) (hx : Passes CX X E)
    (ht : eval (.Call (.Attribute o m apos) [] [] pos) X.env = (do
      let ov ← eval o X.env
      standAt apos.atName
      let (f, first) ← holding [ov] (getMethod ov m pl)
      callWith pos f first (backTo pos (starEach [] X.env)) (backToKw pos (keywordEach [] X.env))) := by rfl) : PE X (.Call (.Attribute o m apos) [] [] pos) (tStat C sp E ta) := by
  obtain ⟨p, f, fd, ps, mc, F, cs, hb⟩ := M
  obtain ⟨rest, hp⟩ := cs.rc
  refine ⟨fun pins s σ H Q I h => PySem.W.methodCall_KW (pl := pl) (thn (he.run pins s σ H _ I h) fun u s1 ⟨x, H1, I1, rx, ex, q⟩ => ?_) ht⟩
  subst ex
  obtain rfl : u = Value.ref C := rx
  have I2 := I1.tok (s1.toks + 1)
  refine PySem.W.method_cls I1.kIn cs.ga (PySem.W.cls_bind I1.kIn cs.rd cs.at_ (wpAny_call (PySem.W.sm_get (s := { s1 with toks := s1.toks + 1 }) I1.kIn hp (PySem.W.handed_on rfl ?_))))
  refine PySem.W.callWith_K0 (first := []) I2.kIn cs.kp (wpAny_call ?_)
  exact codeAny_mono (goG F g (hr.mono hk) I2.env0 I2.kIn hb .nil q) fun r s' z => flow hx I2 z
end
end Ob
/-! special methods of own classes, called by signs: x[k], x[k] = v, len(x), ==, != -/
namespace Ow
open PySem.Spec PyProof.Rows PySem.W
/-- the method m of the class at C is the def at g -/
structure SpM (K : Frag) (C : Addr) (m : Str) (g : Addr) : Prop where
  at_ : findIn K (.ref C) m = some (some (.ref g))
  fn : typeIn K (.ref g) = some (.type "function")
/-- instances of the class at C are no deques -/
def NoDq (K : Frag) (C : Addr) : Prop := subIn K (.ref C) (.type "collections.deque") = some false
section
variable {prog : Program} {w : World} {A : Around} {E : Value → Shared → Prop} {s : Shared} {a C g : Addr} {K : Frag} {m : Str} {o : Obj}
theorem special (hk : K.In s.heap) (ho : s.heap.get? a = some o) (hc : o.cls = .ref C) (h : SpM K C m g) {args : List Value} {Q : Option Value → Shared → Prop}
    (k : wpAny (model prog w) A (call (.ref g) (.ref a :: args)) (fun v => Q (some v)) E s) : wpAny (model prog w) A (callSpecial? (.ref a) m args) Q E s := by
  unfold callSpecial? specialOf
  refine wpAny_bind (wpAny_bind (wpAny_typeOf_ref ho ?_))
  rw [hc]
  refine looks_findIn (M := model prog w) hk h.at_ A _ E s (fun _ _ e => e) ?_
  refine wpAny_holding ?_
  refine wpAny_bind (bind_fn (M := model prog w) hk (.ref a) h.fn A _ E s (fun _ _ e => e) ?_)
  exact wpAny_bind (wpAny_mono k (fun v s' q => wpAny_pure q) fun _ _ z => z)
theorem seqKey (hk : K.In s.heap) (ho : s.heap.get? a = some o) (hc : o.cls = .ref C) (hd : NoDq K C) {i : Value} {Q : Value → Shared → Prop} (q : Q i s) : wpAny (model prog w) A (sequenceKey (.ref a) i m) Q E s := by
  unfold sequenceKey
  refine wpAny_bind (wpAny_typeOf_ref ho ?_)
  rw [hc]
  show wpAny _ _ (List.anyM (fun n => isSubtype (.ref C) (.type n)) ["collections.deque"] >>= _) _ _ _
  refine wpAny_bind ?_
  show wpAny _ _ (isSubtype (.ref C) (.type "collections.deque") >>= _) _ _ _
  refine wpAny_bind (looks_subIn (M := model prog w) hk hd A _ E s (fun _ _ e => e) ?_)
  exact wpAny_pure (wpAny_pure q)
theorem get_own (hk : K.In s.heap) (ho : s.heap.get? a = some o) (hc : o.cls = .ref C) (hd : NoDq K C) (h : SpM K C "__getitem__" g) {i : Value} {Q : Value → Shared → Prop}
    (k : wpAny (model prog w) A (call (.ref g) [.ref a, i]) Q E s) : wpAny (model prog w) A (getItem (.ref a) i) Q E s := by
  unfold getItem
  refine wpAny_holding ?_
  refine wpAny_bind (seqKey hk ho hc hd ?_)
  refine wpAny_bind (special hk ho hc h ?_)
  exact wpAny_mono k (fun v s' q => wpAny_pure q) fun _ _ z => z
theorem set_own (hk : K.In s.heap) (ho : s.heap.get? a = some o) (hc : o.cls = .ref C) (hd : NoDq K C) (h : SpM K C "__setitem__" g) {i v : Value} {Q : Unit → Shared → Prop}
    (k : wpAny (model prog w) A (call (.ref g) [.ref a, i, v]) (fun _ => Q ()) E s) : wpAny (model prog w) A (setItem (.ref a) i v) Q E s := by
  unfold setItem
  refine wpAny_holding ?_
  refine wpAny_bind (seqKey hk ho hc hd ?_)
  refine wpAny_bind (special hk ho hc h ?_)
  exact wpAny_mono k (fun v s' q => wpAny_pure q) fun _ _ z => z
end
section
open L2
variable {X : Cx} {CX : CXT} {k : Nat} {g C : Addr} {fd : FuncData} {ps : List Str} {sp : Sp} {E : XK}
/-- a def called one step further in (by a built-in) -/
theorem runG1 {dvs : List V} {ds : List Value} {pins : List (Addr × Obj)} {σ : L2.St} {H : Hp} {s : Shared} {Q : VK} {us : List Value} {vs : List V} (F : FnG X.prog X.w X.K X.mg X.base CX k g fd ps sp) (gd : X.A.guards = some []) (hr : Room (k + 1) X.A)
    (hb : Binds X.K fd ps ds) (hd : Vals dvs ds) (hx : Passes CX X E) (I : Inv X pins σ H s) (r : Vals vs us) (h : sp (vs ++ dvs) H Q E) : wpAny (model X.prog X.w) X.A.in1 (call (.ref g) us) (EP X pins σ Q) X.xe s := by
  have rr := r.append hd
  have lens := (rr.length).symm.trans (F.len (vs ++ dvs) H Q E h)
  have body := F.go X.A.in1 gd X.stack s H ⟨us, []⟩ (us ++ ds) (vs ++ dvs) Q E hr.in1 I.env0.in1 (hb s us I.kIn lens) rr h
  refine wpAny_call (codeAny_mono body ?_)
  intro res s' hres
  match res, hres with
  | .error e, z => exact hx pins σ H s e s' I z
  | .ok (.ret u), z => exact I.after z
  | .ok .next, z => exact z.elim
  | .ok .brk, z => exact z.elim
  | .ok .cont, z => exact z.elim
/-- what a method called by a sign asks of its class -/
structure SpC (K : Frag) (C : Addr) (m : Str) (g : Addr) : Prop where
  sp : SpM K C m g
  dq : NoDq K C
  fi : fnIn K g = true
theorem instAt {pins : List (Addr × Obj)} {σ : L2.St} {H : Hp} {s : Shared} (I : Inv X pins σ H s) {a dx : Addr} {fs : List (Str × V)} (ha : H a = some (.ins C dx fs)) : ∃ od, W.InstAt s.heap a (W.instObj C dx) C (some od) := by
  obtain ⟨_, _, _, ho, mA, hns, _⟩ := I.hok a _ ha
  obtain ⟨od, hd, _⟩ := lookIn_ns hns
  exact ⟨od, ho, rfl, rfl, hd⟩
def tGetO (C : Addr) (sp : Sp) (E : XK) (ta tb : TE) : TE := fun σ H Q => ta σ H fun x H1 => tb σ H1 fun y H2 => ∃ a dx fs, x = .ref a ∧ H2 a = some (.ins C dx fs) ∧ sp [.ref a, y] H2 Q E
theorem pe_getO {a b : Expr} {ta tb : TE} {pos : Pos} (S : SpC X.K C "__getitem__" g) (F : FnG X.prog X.w X.K X.mg X.base CX k g fd ps sp) (gd : X.A.guards = some []) (hr : Room (k + 1) X.A) (hb : Binds X.K fd ps []) (hx : Passes CX X E) (ha : PE X a ta) (hb' : PE X b tb)
    (hs : ∀ (o i : Value), subscripted b true o i = runValue (.builtin "lifetime.subscript" ⟨[o, i], []⟩)) : PE X (.Subscript a b pos) (tGetO C sp E ta tb) := by
  refine ⟨fun pins s σ H Q I h => Subscript_ (binT ha hb' I h fun v u s2 x y H2 I2 rx ry q => ?_)⟩
  obtain ⟨p, dx, fs, rfl, hp, q⟩ := q
  obtain rfl : v = Value.ref p := rx
  obtain ⟨m, fr⟩ := I2.fr
  obtain ⟨od, J⟩ := instAt I2 hp
  have isf : isFn X.K (.ref g) = true := by show (typeIn X.K (.ref g) == some (.type "function")) = true; rw [S.sp.fn] <;> rfl
  exact sub_K fr I2.ok.mod.kin J S.sp.at_ S.fi isf (runG1 (dvs := []) F gd hr hb .nil hx I2 (.cons (show RelV (.ref p) (.ref p) from rfl) (.cons ry .nil)) q) (hs _ _)
def rSetO (C : Addr) (sp : Sp) (E : XK) : TSet := fun o i v H Q => ∃ a dx fs, o = .ref a ∧ H a = some (.ins C dx fs) ∧ sp [.ref a, i, v] H (fun _ H' => Q H') E
theorem set_ownR (S : SpC X.K C "__setitem__" g) (F : FnG X.prog X.w X.K X.mg X.base CX k g fd ps sp) (gd : X.A.guards = some []) (hr : Room k X.A) (hb : Binds X.K fd ps []) (hx : Passes CX X E) : PSet X (rSetO C sp E) := by
  intro pins s σ H o i v ov iv u Q I ro ri rv h
  obtain ⟨p, dx, fs, rfl, hp, q⟩ := h
  obtain rfl : ov = Value.ref p := ro
  obtain ⟨_, _, _, ho, _⟩ := I.hok p _ hp
  refine set_own I.kIn ho rfl S.dq S.sp ?_
  refine wpAny_mono (runG (dvs := []) F gd hr hb .nil hx I (.cons (show RelV (.ref p) (.ref p) from rfl) (.cons ri (.cons rv .nil))) q) ?_ (fun _ _ z => z)
  rintro r s' ⟨w, H', I', _, q'⟩
  exact ⟨H', I', q'⟩
end
end Ow
/-! == and != of an instance of an own class, by its own __eq__, and len by its own __len__ -/
namespace Ob
open PySem.Spec PyProof.Rows
section
variable {prog : Program} {w : World} {A : Around} {E : Value → Shared → Prop} {s : Shared} {K : PySem.W.Frag} {x C f L : Addr} {tb b : Value} {h₀ : Heap} {m : Str → Option Value} {ox : Obj} {od : Option Obj}
/-- the outcome of == as != asks it -/
def NeBack (Q : Value → Shared → Prop) (v : Value) (s' : Shared) : Prop := ∃ c : Bool, v = .bool c ∧ Q (.bool (!c)) s'
theorem ne_entry {Q : Fin → Shared → Prop} (hu : A.units < cLine) (X : K.In s.heap) (I : PySem.W.InstAt s.heap x ox C od) (hs : PySem.W.findIn K (.ref C) "__eq__" = some (some (.ref f))) (hf : PySem.W.isFn K (.ref f) = true)
    (h : wpAny (model prog w) A (call (.ref f) [.ref x, b]) (fun v s' => ∃ c : Bool, v = .bool c ∧ Q (.done (.ret (.bool (!c)))) s') E s) : wpAny (model prog w) A (Builtin.«object.__ne__» ⟨[.ref x, b], []⟩) Q E s := by
  unfold Builtin.«object.__ne__»
  refine wpAny_bind (wpAny_pure (wpAny_bind (wpAny_cRoomFor hu ?_)))
  refine wpAny_bind (PySem.W.ifBound_K X I hs hf (wpAny_mono h (fun v s' z => ?_) fun _ _ e => e))
  obtain ⟨c, rfl, q⟩ := z
  show wpAny _ _ (truthy (.bool c) >>= fun r => ret (.bool (!r))) _ _ _
  exact wpAny_bind (wpAny_truthy_bool (wpAny_pure q))
theorem ne_call {Q : Value → Shared → Prop} (hu : A.units + 1 < cLine) (X : K.In s.heap) (I : PySem.W.InstAt s.heap x ox C od) (hs : PySem.W.findIn K (.ref C) "__eq__" = some (some (.ref f))) (hf : PySem.W.isFn K (.ref f) = true) (hm : PySem.W.mroIn K C (.type "object") = some true)
    (h : wpAny (model prog w) A.in1 (call (.ref f) [.ref x, b]) (NeBack Q) E s) : wpAny (model prog w) A (call (.builtin "object.__ne__") [.ref x, b]) Q E s := by
  have sub : PySem.W.Looks (model prog w) s.heap (isInstance (.ref x) (.type "object")) true := I.type.andThen (PySem.W.looks_mroIn X hm)
  refine wpAny_call (codeAny_call_builtin F.cmp_object.ne.plain F.cmpEntry_ne (PySem.W.check_slot F.cmpKind_ne F.cmpSplit_ne sub (F.cmpArgs_ne _ _) ?_))
  exact ne_entry (A := A.in1) hu X I hs hf (wpAny_mono h (fun v s' z => z) fun _ _ e => e)
theorem ne_K {Q : Value → Shared → Prop} (hu : A.units + 1 < cLine) (X : K.In s.heap) (I : PySem.W.InstAt s.heap x ox C od) (hb : PySem.W.Looks (model prog w) s.heap (typeOf b) tb) (hn : PySem.W.notFirst K C tb = true)
    (hne : PySem.W.findIn K (.ref C) "__ne__" = some (some (.builtin "object.__ne__"))) (hs : PySem.W.findIn K (.ref C) "__eq__" = some (some (.ref f))) (hf : PySem.W.isFn K (.ref f) = true) (hm : PySem.W.mroIn K C (.type "object") = some true)
    (h : wpAny (model prog w) A.in1 (call (.ref f) [.ref x, b]) (NeBack Q) E s) : wpAny (model prog w) A (richCompare .NotEq (.ref x) b) Q E s := by
  have bnd : wpAny (model prog w) A (callSpecialIfBound? (.ref x) "__ne__" [b]) (fun r s' => ∃ c : Bool, r = some (.bool (!c)) ∧ Q (.bool (!c)) s') E s := by
    simp only [callSpecialIfBound?, bindSpecialIfBound?]
    refine wpAny_holding (wpAny_bind (wpAny_bind (wpAny_bind (I.type.here ((PySem.W.looks_findIn X hne).here ?_)))))
    simp only [F.cmp_object.ne.bind]
    refine wpAny_bind (wpAny_askSetting (wpAny_ite ?_))
    have fin : wpAny (model prog w) A (call (.builtin "object.__ne__") ([.ref x] ++ [b]) >>= fun v => pure (some v)) (fun r s' => ∃ c : Bool, r = some (.bool (!c)) ∧ Q (.bool (!c)) s') E s :=
      wpAny_bind (ne_call hu X I hs hf hm (wpAny_mono h (fun v s' ⟨c, e, q⟩ => ⟨c, e, wpAny_pure ⟨c, rfl, q⟩⟩) fun _ _ e => e))
    split
    · exact wpAny_bind (wpAny_pure (wpAny_pure fin))
    · exact wpAny_tryCatch (wpAny_bind (wpAny_pure (wpAny_pure fin)))
  have one : wpAny (model prog w) A (tryCompare (.ref x) "__ne__" b) (fun r s' => ∃ c : Bool, r = some (.bool (!c)) ∧ Q (.bool (!c)) s') E s := by
    unfold tryCompare
    refine wpAny_bind (wpAny_mono bnd (fun r s' z => ?_) fun _ _ e => e)
    obtain ⟨c, rfl, q⟩ := z
    exact wpAny_pure ⟨c, rfl, q⟩
  have hu0 : A.units < cLine := Nat.lt_of_succ_lt hu
  unfold richCompare
  simp only [oneThing_ref]
  refine wpAny_holding (wpAny_bind (wpAny_cRoomFor hu0 (wpAny_bind (I.type.here (wpAny_bind (hb.here ?_))))))
  split
  · rename_i q
    have e : PySem.W.subIn K tb (.ref C) = some false := (Bool.or_eq_true_iff.mp hn).elim (fun e => by rw [beq_iff_eq.mp e] at q; simp at q) (fun e => beq_iff_eq.mp e)
    refine wpAny_bind ((PySem.W.looks_subIn X e).here ?_)
    simp only [Bool.false_eq_true, if_false]
    refine wpAny_bind (wpAny_mono one (fun r s' z => ?_) fun _ _ e => e)
    obtain ⟨c, rfl, hq⟩ := z
    exact wpAny_pure hq
  · refine wpAny_bind (wpAny_pure ?_)
    simp only [Bool.false_eq_true, if_false]
    refine wpAny_bind (wpAny_mono one (fun r s' z => ?_) fun _ _ e => e)
    obtain ⟨c, rfl, hq⟩ := z
    exact wpAny_pure hq
end
section
variable {X : Cx} {CX : CXT} {k j : Nat} {C : Addr} {sp : Sp} {E : XK}
/-- the own == of the class at C -/
def EqCal (P : Program) (w : World) (K : PySem.W.Frag) (mg : Str → Option Value) (base : Heap) (CX : CXT) (C : Addr) (k : Nat) (sp : Sp) : Prop :=
  ∃ (f : Addr) (fd : FuncData) (ps : List Str), FnG P w K mg base CX k f fd ps sp ∧ PySem.W.findIn K (.ref C) "__eq__" = some (some (.ref f)) ∧ PySem.W.isFn K (.ref f) = true ∧ Binds K fd ps []
/-- what it promises must be a truth value -/
def rEqO (K : PySem.W.Frag) (C : Addr) (sp : Sp) (neg : Bool) : R2 := fun x y H Q => ∃ (a dx : Addr) (fs : List (Str × V)) (t : Value), x = .ref a ∧ H a = some (.ins C dx fs) ∧ TyX K H y t ∧ PySem.W.notFirst K C t = true ∧
  sp [.ref a, y] H (fun v H' => ∃ c : Bool, v = .bl c ∧ Q (.bl (if neg = true then !c else c)) H') E0
theorem op_eqO (M : EqCal X.prog X.w X.K X.mg X.base CX C k sp) (g : X.A.guards = some []) (hr : Room j X.A) (hk : k ≤ j) (hx : Passes CX X E0) : OpR X (compareOp .Eq) (rEqO X.K C sp false) := by
  obtain ⟨f, fd, ps, F, hs, hf, hb⟩ := M
  intro pins s σ H x y v u Q I rx ry h
  obtain ⟨a, dx, fs, t, rfl, ha, ty, hn, q⟩ := h
  obtain rfl : v = Value.ref a := rx
  obtain ⟨od, J⟩ := Ow.instAt I ha
  obtain ⟨m, hF⟩ := I.fr
  obtain ⟨Pk, Z, pk, _⟩ := kit_of I ry ty
  refine PySem.W.cmp_K (op := .Eq) (tb := t) hr.units0 hF I.ok.mod.kin J (Z.ty _ _ I.kIn pk) hn hs hf (wpAny_call (codeAny_mono (goG F g (hr.mono hk) I.env0 I.kIn hb (.cons (show RelV (.ref a) (.ref a) from rfl) (.cons ry .nil)) q) fun r s' z => ?_))
  match r, z with
  | .error er, z => exact hx pins σ H s er s' I z
  | .ok .next, z => exact z.elim
  | .ok .brk, z => exact z.elim
  | .ok .cont, z => exact z.elim
  | .ok (.ret u'), z =>
    obtain ⟨v, H', I', rv, c, rfl, q'⟩ := I.after z
    obtain rfl : u' = Value.bool c := rv
    exact ⟨.bl c, H', I', rfl, q'⟩
theorem op_neO (M : EqCal X.prog X.w X.K X.mg X.base CX C k sp) (hne : PySem.W.findIn X.K (.ref C) "__ne__" = some (some (.builtin "object.__ne__"))) (hm : PySem.W.mroIn X.K C (.type "object") = some true)
    (g : X.A.guards = some []) (hr : Room j X.A) (hk : k + 1 ≤ j) (hx : Passes CX X E0) : OpR X (compareOp .NotEq) (rEqO X.K C sp true) := by
  obtain ⟨f, fd, ps, F, hs, hf, hb⟩ := M
  intro pins s σ H x y v u Q I rx ry h
  obtain ⟨a, dx, fs, t, rfl, ha, ty, hn, q⟩ := h
  obtain rfl : v = Value.ref a := rx
  obtain ⟨od, J⟩ := Ow.instAt I ha
  obtain ⟨Pk, Z, pk, _⟩ := kit_of I ry ty
  refine ne_K (tb := t) (by have := hr.un; omega) I.kIn J (Z.ty _ _ I.kIn pk) hn hne hs hf hm (wpAny_call (codeAny_mono (goG F (A := X.A.in1) g (hr.mono hk).in1 I.env0.in1 I.kIn hb (.cons (show RelV (.ref a) (.ref a) from rfl) (.cons ry .nil)) q) fun r s' z => ?_))
  match r, z with
  | .error er, z => exact hx pins σ H s er s' I z
  | .ok .next, z => exact z.elim
  | .ok .brk, z => exact z.elim
  | .ok .cont, z => exact z.elim
  | .ok (.ret u'), z =>
    obtain ⟨v, H', I', rv, c, rfl, q'⟩ := I.after z
    obtain rfl : u' = Value.bool c := rv
    exact ⟨c, rfl, .bl (!c), H', I', rfl, q'⟩
/-- the own len -/
def LenCal (P : Program) (w : World) (K : PySem.W.Frag) (mg : Str → Option Value) (base : Heap) (CX : CXT) (C : Addr) (k : Nat) (sp : Sp) : Prop :=
  ∃ (f : Addr) (fd : FuncData) (ps : List Str), FnG P w K mg base CX k f fd ps sp ∧ PySem.W.findIn K (.ref C) "__len__" = some (some (.ref f)) ∧ PySem.W.isFn K (.ref f) = true ∧ Binds K fd ps []
def rLenO (C : Addr) (sp : Sp) : List V → Hp → VK → Prop := fun xs H Q => ∃ (a dx : Addr) (fs : List (Str × V)), xs = [.ref a] ∧ H a = some (.ins C dx fs) ∧ sp [.ref a] H (fun v H' => ∃ n : Int, v = .int n ∧ 0 ≤ n ∧ n < 2 ^ 63 ∧ Q (.int n) H') E0
theorem call_lenO (M : LenCal X.prog X.w X.K X.mg X.base CX C k sp) (g : X.A.guards = some []) (hr : Room j X.A) (hk : k + 1 ≤ j) (hx : Passes CX X E0) : CallR X (.builtin "len") (rLenO C sp) := by
  obtain ⟨f, fd, ps, F, hs, hf, hb⟩ := M
  intro pins s σ H xs us Q I r h
  obtain ⟨a, dx, fs, rfl, ha, q⟩ := h
  obtain ⟨u, rfl, ru⟩ := vals1 r
  obtain rfl : u = Value.ref a := ru
  obtain ⟨od, J⟩ := Ow.instAt I ha
  obtain ⟨m, hF⟩ := I.fr
  refine PySem.W.len_K hF I.ok.mod.kin J hs hf (wpAny_call (codeAny_mono (goG F (A := X.A.in1) g (hr.mono hk).in1 I.env0.in1 I.kIn hb (.cons (show RelV (.ref a) (.ref a) from rfl) .nil) q) fun r s' z => ?_))
  match r, z with
  | .error er, z => exact hx pins σ H s er s' I z
  | .ok .next, z => exact z.elim
  | .ok .brk, z => exact z.elim
  | .ok .cont, z => exact z.elim
  | .ok (.ret u'), z =>
    obtain ⟨v, H', I', rv, n, rfl, h0, h1, q'⟩ := I.after z
    obtain ⟨t, rfl⟩ := (show ∃ t, u' = Value.int n t from rv)
    exact ⟨⟨h0, h1⟩, .int n, H', I'.tok _, ⟨_, rfl⟩, q'⟩
end
end Ob
/-! == and != of dicts whose values are data, or dicts again: both outcomes -/
namespace Ob
open PySem.Spec PyProof.Rows
section
variable {prog : Program} {w : World} {Ky : Type} [DecidableEq Ky] {knd : KeyKind prog w Ky} {A : Around} {s : Shared} {a b : Addr} {ka kb : List (Ky × Value)} {r : Bool}
theorem neP_dicts (ha : (a == sysModules) = false) (hb : (b == sysModules) = false) (da : s.heap.DictOf knd a ka) (db : s.heap.DictOf knd b kb) (hu : A.units < cLine) (hits : ka.length = kb.length → PySem.W.KeqHitsP prog w A.in1 s kb ka r)
    (E Q : Value → Shared → Prop) (h : Q (.bool (!(ka.length == kb.length && r))) s) : wpAny (model prog w) A (richCompare .NotEq (.ref a) (.ref b)) Q E s := by
  refine wpAny_richCompare_same_room (op := .NotEq) da.typeIs db.typeIs PySem.F.slot_dict_ne ?_ hu
  refine wpAny_call_entry PySem.F.slot_dict_ne da.typeIs PySem.F.entry_dict_ne ?_ (PySem.F.args_dict_ne_2 _ _)
  show wpAny _ _ (Builtin.Dict.dictSlotArgs "__ne__" ⟨[.ref a, .ref b], []⟩ >>= fun p => _) _ _ s
  unfold Builtin.Dict.dictSlotArgs
  refine wpAny_bind (wpAny_bind (wpAny_notOrdered_dict da.typeIs (show wpAny _ _ (pure (Value.ref a, Value.ref b)) _ _ s from wpAny_pure ?_)))
  refine wpAny_bind (wpAny_isInstance (T := "dict") db.typeIs PySem.F.sub_dict_dict ?_)
  rw [show (!true) = false from rfl, if_neg Bool.false_ne_true]
  refine wpAny_bind (wpAny_pure (wpAny_bind (wpAny_pure (wpAny_bind (PySem.W.samePairsP ha hb da db hits ?_)))))
  exact wpAny_pure ⟨_, rfl, (fun x => nomatch x), by simpa using h⟩
end
/-- what the values under the keys of ks say, one after another, by those in ls -/
inductive HitF (F : V → V → Bool → Prop) (ls : List (Key × V)) : List (Key × V) → Bool → Prop
  | nil : HitF F ls [] true
  | miss {k : Key} {v : V} {r : List (Key × V)} : valV ls k = none → HitF F ls ((k, v) :: r) false
  | hit {k : Key} {v y : V} {r : List (Key × V)} {e b : Bool} : valV ls k = some y → F v y e → HitF F ls r b → HitF F ls ((k, v) :: r) (e && b)
def EqB (K : PySem.W.Frag) (H : Hp) : Nat → V → V → Bool → Prop
  | 0 => fun x y b => ∃ d e, Dp K H x d ∧ Dp K H y e ∧ SeqAt.shaped d = true ∧ SeqAt.shaped e = true ∧ b = PyData.eqv d e
  | n + 1 => fun x y b => (∃ d e, Dp K H x d ∧ Dp K H y e ∧ SeqAt.shaped d = true ∧ SeqAt.shaped e = true ∧ b = PyData.eqv d e) ∨
      ∃ a c ks ls r, x = .ref a ∧ y = .ref c ∧ a ≠ c ∧ H a = some (.dK ks) ∧ H c = some (.dK ls) ∧ HitF (EqB K H n) ls ks r ∧ b = (ks.length == ls.length && r)
theorem hitF_run {P : Program} {w : World} {A : Around} {s : Shared} {F : V → V → Bool → Prop} (ih : ∀ x y b v u, F x y b → RelV x v → RelV y u → SeqAt.EqP P w A s v u b) {ls : List (Key × V)} {vb : List (Key × Value)} (rb : KV ls vb) :
    ∀ {ks : List (Key × V)} {va : List (Key × Value)} {r : Bool}, KV ks va → HitF F ls ks r → PySem.W.KeqHitsP P w A s vb va r
  | [], _, _, .nil, .nil => .nil
  | (k, v) :: ks, (k', u) :: va, _, .cons h t, z => by
    obtain ⟨h1, h2⟩ := h
    obtain rfl : k = k' := h1
    have lk : RelO (valV ls k) (valueAt vb k) := rb.val k
    cases z with
    | miss hn =>
      rw [hn] at lk
      exact .miss (RelO.none_of lk)
    | hit hy hf hr =>
      rw [hy] at lk
      obtain ⟨y', ey, ry⟩ := lk.some_of
      exact .hit ey (ih _ _ _ _ _ hf h2 ry) (hitF_run ih rb t hr)
section
variable {X : Cx} {pins : List (Addr × Obj)} {σ : L2.St} {H : Hp} {s : Shared}
theorem eqB_run (I : Inv X pins σ H s) : ∀ (n : Nat) (A : Around), A.units + n + 66 < cLine → ∀ (x y : V) (b : Bool) (v u : Value), EqB X.K H n x y b → RelV x v → RelV y u → SeqAt.EqP X.prog X.w A s v u b := by
  have dat : ∀ (A : Around), A.units + 64 < cLine → ∀ (x y : V) (b : Bool) (v u : Value), (∃ d e, Dp X.K H x d ∧ Dp X.K H y e ∧ SeqAt.shaped d = true ∧ SeqAt.shaped e = true ∧ b = PyData.eqv d e) → RelV x v → RelV y u → SeqAt.EqP X.prog X.w A s v u b := by
    rintro A hu x y b v u ⟨d, e, hd, he, sd, se, rfl⟩ rx ry
    obtain ⟨as, r1⟩ := Dp.reads I d x v hd rx
    obtain ⟨bs, r2⟩ := Dp.reads I e y u he ry
    exact (SeqAt.eqAt_reads d e A s v u as bs r1 r2 (SeqAt.canLay_of_shaped sd) (SeqAt.canLay_of_shaped se) (SeqAt.room_of_shaped sd hu)).eqP
  intro n
  induction n with
  | zero => exact fun A hu x y b v u h rx ry => dat A (by omega) x y b v u h rx ry
  | succ n ih =>
    intro A hu x y b v u h rx ry
    rcases h with h | ⟨a, c, ks, ls, r, rfl, rfl, ne, ha, hc, hf, rfl⟩
    · exact dat A (by omega) x y b v u h rx ry
    · obtain rfl : v = Value.ref a := rx
      obtain rfl : u = Value.ref c := ry
      obtain ⟨_, ya, va, ra, da⟩ := (show ObjOk X.prog X.w H s.heap a (.dK ks) from I.hok a _ ha)
      obtain ⟨_, yb, vb, rb, db⟩ := (show ObjOk X.prog X.w H s.heap c (.dK ls) from I.hok c _ hc)
      have hit := hitF_run (ih A.in1 (by show A.units + 1 + n + 66 < cLine; omega)) rb ra hf
      have e1 : va.length = ks.length := (Paired.length ra).symm
      have e2 : vb.length = ls.length := (Paired.length rb).symm
      exact SeqAt.eqP_refs ne fun E Q q => PySem.W.rcP_dicts ya yb da db (by omega) (fun _ => hit) E Q (by rw [e1, e2]; exact q)
end
section
variable {X : Cx}
def rEqX (K : PySem.W.Frag) (neg : Bool) : R2 := fun x y H Q => ∃ a c ks ls r, x = .ref a ∧ y = .ref c ∧ H a = some (.dK ks) ∧ H c = some (.dK ls) ∧ HitF (EqB K H 2) ls ks r ∧ Q (.bl (if neg = true then !(ks.length == ls.length && r) else ks.length == ls.length && r)) H
theorem op_eqX (hu : X.A.units + 80 < cLine) : OpR X (compareOp .Eq) (rEqX X.K false) := by
  intro pins s σ H x y v u Q I rx ry h
  obtain ⟨a, c, ks, ls, r, rfl, rfl, ha, hc, hf, q⟩ := h
  obtain rfl : v = Value.ref a := rx
  obtain rfl : u = Value.ref c := ry
  obtain ⟨_, ya, va, ra, da⟩ := (show ObjOk X.prog X.w H s.heap a (.dK ks) from I.hok a _ ha)
  obtain ⟨_, yb, vb, rb, db⟩ := (show ObjOk X.prog X.w H s.heap c (.dK ls) from I.hok c _ hc)
  have hit := hitF_run (eqB_run I 2 X.A.in1 (by show X.A.units + 1 + 2 + 66 < cLine; omega)) rb ra hf
  have e1 : va.length = ks.length := (Paired.length ra).symm
  have e2 : vb.length = ls.length := (Paired.length rb).symm
  exact PySem.W.rcP_dicts ya yb da db (by omega) (fun _ => hit) _ _ ⟨_, H, I, (by rw [e1, e2]; rfl), q⟩
theorem op_neX (hu : X.A.units + 80 < cLine) : OpR X (compareOp .NotEq) (rEqX X.K true) := by
  intro pins s σ H x y v u Q I rx ry h
  obtain ⟨a, c, ks, ls, r, rfl, rfl, ha, hc, hf, q⟩ := h
  obtain rfl : v = Value.ref a := rx
  obtain rfl : u = Value.ref c := ry
  obtain ⟨_, ya, va, ra, da⟩ := (show ObjOk X.prog X.w H s.heap a (.dK ks) from I.hok a _ ha)
  obtain ⟨_, yb, vb, rb, db⟩ := (show ObjOk X.prog X.w H s.heap c (.dK ls) from I.hok c _ hc)
  have hit := hitF_run (eqB_run I 2 X.A.in1 (by show X.A.units + 1 + 2 + 66 < cLine; omega)) rb ra hf
  have e1 : va.length = ks.length := (Paired.length ra).symm
  have e2 : vb.length = ls.length := (Paired.length rb).symm
  exact neP_dicts ya yb da db (by omega) (fun _ => hit) _ _ ⟨_, H, I, (by rw [e1, e2]; rfl), q⟩
end
end Ob
/-! len(set(t)) of a tuple of texts: how many different ones -/
namespace Ss
open PySem.Spec PyProof.Rows
/-- how many different texts are among the first i -/
def dcN (xs : List Str) : Nat → Nat
  | 0 => 0
  | i + 1 => if (xs.take i).any (· == xs.getD i Str.empty) = true then dcN xs i else dcN xs i + 1
theorem dcN_le (xs : List Str) : ∀ i, dcN xs i ≤ i
  | 0 => Nat.le_refl _
  | i + 1 => by
    have := dcN_le xs i
    show (if (xs.take i).any (· == xs.getD i Str.empty) = true then dcN xs i else dcN xs i + 1) ≤ i + 1
    split <;> omega
theorem any_eq {xs : List Str} {x : Str} : xs.any (· == x) = true ↔ x ∈ xs := by
  rw [List.any_eq_true]
  exact ⟨fun ⟨y, m, e⟩ => by rw [← beq_iff_eq.mp e]; exact m, fun m => ⟨x, m, beq_self_eq_true x⟩⟩
theorem getD_at {xs : List Str} {i : Nat} (h : i < xs.length) : xs.getD i Str.empty = xs[i] := by
  rw [List.getD_eq_getElem?_getD, List.getElem?_eq_getElem h] <;> rfl
theorem dcN_nodup {xs : List Str} (nd : xs.Nodup) : ∀ i, i ≤ xs.length → dcN xs i = i
  | 0, _ => rfl
  | i + 1, h => by
    show (if (xs.take i).any (· == xs.getD i Str.empty) = true then dcN xs i else dcN xs i + 1) = i + 1
    have hi : i < xs.length := h
    have ne : ¬ (xs.take i).any (· == xs.getD i Str.empty) = true := fun z => by
      rw [any_eq, getD_at hi] at z
      obtain ⟨j, hj, e⟩ := List.mem_iff_getElem.mp z
      rw [List.getElem_take] at e
      rw [List.length_take] at hj
      have := (List.getElem_inj nd).mp e
      omega
    rw [if_neg ne, dcN_nodup nd i (Nat.le_of_lt hi)]
theorem nodup_dcN {xs : List Str} : ∀ i, i ≤ xs.length → dcN xs i = i → (xs.take i).Nodup
  | 0, _, _ => by simp
  | i + 1, h, e => by
    have hi : i < xs.length := h
    have e' : (if (xs.take i).any (· == xs.getD i Str.empty) = true then dcN xs i else dcN xs i + 1) = i + 1 := e
    have le := dcN_le xs i
    by_cases c : (xs.take i).any (· == xs.getD i Str.empty) = true
    · rw [if_pos c] at e'; omega
    · rw [if_neg c] at e'
      have ih := nodup_dcN i (Nat.le_of_lt hi) (by omega)
      have nm : xs[i] ∉ xs.take i := fun z => c (by rw [any_eq, getD_at hi]; exact z)
      rw [List.take_add_one, List.getElem?_eq_getElem hi]
      rw [List.nodup_append]
      refine ⟨ih, by simp, fun a ha b hb z => ?_⟩
      have hb : b = xs[i] := by simpa using hb
      subst z hb
      exact nm ha
theorem dc_iff {xs : List Str} : dcN xs xs.length = xs.length ↔ xs.Nodup := by
  refine ⟨fun e => ?_, fun nd => dcN_nodup nd _ (Nat.le_refl _)⟩
  have := nodup_dcN xs.length (Nat.le_refl _) e
  rwa [List.take_length] at this
section
variable {P : Program} {w : World} {A : Around} {E : Value → Shared → Prop} {s : Shared}
theorem upd_texts {I : Addr} {fp wr : List Addr} {G : Array GenState → Array GenState → Prop} {n : Nat} {Pv : Nat → Value → Prop} {St : Nat → Shared → Prop} {R : Result → Shared → Prop} (W : WalksS P w A.in1 I fp wr G n Pv St) (S : Addr) (hSf : S ∉ fp)
    (xs : List Str) (hn : n ≤ xs.length) (hb : n + 1 < scanBound) (hval : ∀ i v, Pv i v → ∃ t, v = .str (xs.getD i Str.empty) t) : ∀ (k i : Nat) (s : Shared), n - i = k → i ≤ n → St i s → s.heap.SetOf (PySem.strKind P w) S (fun z => (xs.take i).any (· == z)) (dcN xs i) →
      (∀ s', Moved (S :: wr) G s s' → s'.heap.SetOf (PySem.strKind P w) S (fun z => (xs.take n).any (· == z)) (dcN xs n) → R (.ok (.ret .none)) s') → codeAny (model P w) A (.builtin "set.update.loop" ⟨[.ref S, .ref I], []⟩) R s := by
  have hSw : S ∉ wr := fun h => hSf (W.sub _ h)
  have more : ∀ b ∈ wr, b ∈ S :: wr := fun b hb => List.mem_cons_of_mem _ hb
  have stay : ∀ {s1 s2 : Shared} {G' : Array GenState → Array GenState → Prop} {p : Str → Bool} {c : Nat}, Moved wr G' s1 s2 → s1.heap.SetOf (PySem.strKind P w) S p c → s2.heap.SetOf (PySem.strKind P w) S p c := fun hm ⟨o, es, ep, t, ho, rest⟩ => ⟨o, es, ep, t, hm.heap S _ hSw ho, rest⟩
  intro k
  induction k with
  | zero =>
    intro i s hk hi hst hS hR
    obtain rfl : i = n := by omega
    refine codeAny_builtin F.entry_set_update_loop ?_
    rw [Around.under_plainId F.plain_set_update_loop _]
    exact (show wpAny _ A.in1 (pyNext (.ref I) >>= _) _ _ s from wpAny_bind (W.done s _ _ hst fun s' hm => (show wpAny _ A.in1 (ret Value.none) _ _ s' from wpAny_pure (hR s' (hm.mono more) (stay hm hS)))))
  | succ k ih =>
    intro i s hk hi hst hS hR
    have hlt : i < n := by omega
    refine codeAny_builtin F.entry_set_update_loop ?_
    rw [Around.under_plainId F.plain_set_update_loop _]
    refine (show wpAny _ A.in1 (pyNext (.ref I) >>= _) _ _ s from wpAny_bind (W.item i s _ _ hlt hst fun v s' hP hst' hm => ?_))
    obtain ⟨t, rfl⟩ := hval i v hP
    have hS1 := stay hm hS
    refine (show wpAny _ A.in1 (holding [Value.str (xs.getD i Str.empty) t] (setAdd S (.str (xs.getD i Str.empty) t)) >>= _) _ _ s' from wpAny_bind (wpAny_holding ?_))
    unfold setAdd
    refine wpAny_holding (wpAny_bind ((PySem.strKind P w).pyHash (k := xs.getD i Str.empty) (strKind_is _ _ _ _) ?_))
    have hle := dcN_le xs i
    refine wpAny_setAddHashed_of (knd := PySem.strKind P w) (s := { s' with toks := s'.toks + 1 }) (strKind_is _ _ _ _) rfl hS1 (by omega) fun h' hsb hS2 => ?_
    have hS3 : h'.SetOf (PySem.strKind P w) S (fun z => (xs.take (i + 1)).any (· == z)) (dcN xs (i + 1)) := by
      refine SetOf_congr hS2 (fun z => ?_) rfl
      have hx : i < xs.length := by omega
      show ((xs.take i).any (· == z) || decide (z = xs.getD i Str.empty)) = (xs.take (i + 1)).any (· == z)
      rw [List.take_add_one, List.getElem?_eq_getElem hx, getD_at hx, List.any_append]
      congr 1
      show decide (z = xs[i]) = ((xs[i] == z) || false)
      rw [Bool.or_false, Bool.eq_iff_iff, decide_eq_true_iff, beq_iff_eq]
      exact eq_comm
    refine wpAny_pure ⟨plainId_quiet F.plain_set_update_loop _, ih (i + 1) _ (by omega) hlt (W.frame _ s' _ _ hst' (Nat.le_succ _) fun b hb o e => ?_) hS3 fun s'' hm2 hS4 => ?_⟩
    · exact (hsb.2 b (fun h : b = S => hSf (by rw [← h]; exact hb))).trans e
    · refine hR s'' (Moved.trans W.gtrans ((hm.mono more).then_heap (Nat.le_succ _) fun b o hb e => ?_) hm2) hS4
      exact (hsb.2 b (fun h : b = S => hb (by rw [h]; exact List.mem_cons_self))).trans e
abbrev setO (led : Bool) : Obj := { cls := .type "set", dict := none, data := .set #[] 0 (.fresh 0 0 led) }
set_option maxHeartbeats 8000000 in
theorem set_texts {l : Addr} {items : Array Value} {xs : List Str} {Q : Value → Shared → Prop} (hh : A.handled = none) (hl : s.heap.IsTuple l items) (hi : StrsAre items.toList xs) (hb : xs.length + 1 < scanBound)
    (h : ∀ (h' : Heap) (tk : Nat), h'.SetOf (PySem.strKind P w) s.heap.objs.size (fun z => xs.any (· == z)) (dcN xs xs.length) → (∀ b o, b < s.heap.objs.size → s.heap.get? b = some o → h'.get? b = some o) → Q (.ref s.heap.objs.size) { s with heap := h', toks := tk }) :
    wpAny (model P w) A (call (.type "set") [.ref l]) Q E s := by
  obtain ⟨c, tl, hmro⟩ := F.called_set.mro
  have hmade := F.called_set.made; have hsub := F.called_set.sub
  refine wpAny_call (codeAny_of_tree (show wpAny _ _ (callAny (.type "set") _) _ _ _ from wpAny_pure ⟨Code.quiet_builtin _ (by decide +kernel), codeAny_builtin F.entry_type_call ?_⟩))
  rw [Around.under_plain (weight_type_call_type "set" [.ref l] []) rfl]
  have h1 := F.called_set.notType; have h2 := F.called_set.canCreate; have hct := F.typeCall_set_1 (.ref l)
  repeat (any_goals (first | assumption | wp_step))
  have hsz : xs.length = items.size := by rw [← StrsAre.len_eq hi, Array.length_toList]
  refine codeAny_mono (code_set_new_1 (.ref l) (E := E) (Q₁ := fun obj s₁ => ∃ led : Bool, obj = .ref s.heap.objs.size ∧ s₁ = { s with heap := s.heap.push (setO led) }) fun led => ⟨led, rfl, rfl⟩) fun r s₁ hr => ?_
  match r, hr with
  | .error e, hr => exact hr
  | .ok .next, hr => exact hr.elim
  | .ok .brk, hr => exact hr.elim
  | .ok .cont, hr => exact hr.elim
  | .ok (.ret obj), hr =>
    obtain ⟨led, rfl, rfl⟩ := hr
    have hS : (s.heap.push (setO led)).get? s.heap.objs.size = some (setO led) := Heap.get?_push_size _ rfl
    have hT : Shared.TypeIs { s with heap := s.heap.push (setO led) } (.ref s.heap.objs.size) "set" := ⟨_, hS, rfl⟩
    have hli := F.called_set.init.lookup; have hbi := F.called_set.init.bind (.ref s.heap.objs.size)
    repeat (any_goals (first | assumption | wp_step))
    refine codeAny_mono (codeAny_call_builtin (R := wants (fun r s₂ => r = .none ∧ ∃ h' tk, s₂ = { s with heap := h', toks := tk } ∧ h'.SetOf (PySem.strKind P w) s.heap.objs.size (fun z => xs.any (· == z)) (dcN xs xs.length) ∧ (∀ b o, b < s.heap.objs.size → s.heap.get? b = some o → h'.get? b = some o)) E)
      F.called_set.init.plain F.entry_set_init (check_set_init_1 hT ?_)) fun r₂ s₂ hr₂ => ?_
    · obtain ⟨⟨ocls, odict, odata, oslots⟩, hol, hcl, nl, hdl⟩ := hl
      simp only at hcl hdl
      subst hcl hdl
      have hol' : (s.heap.push (setO led)).get? l = some { cls := .type "tuple", dict := odict, data := .seq items nl, slots := oslots } := Heap.get?_push_of_some _ hol
      have hsls := F.sub_tuple_set; have hslf := F.sub_tuple_frozenset; have hne : (Value.type "tuple" == Value.type "dict") = false := by decide
      have hl1 : (s.heap.push (setO led)).IsTuple l items := ⟨_, hol', rfl, nl, rfl⟩
      unfold Builtin.«set.__init__» noKeywords Builtin.Frozenset.updateFrom
      generalize hPI : pyIter = PI
      wp_walk
      subst hPI
      refine wpAny_pyIter_tuple hl1 (wpAny_bind (wpAny_runValue ?_))
      have hlS : l < s.heap.objs.size := Heap.lt_size hol
      have pz : (s.heap.push (setO led)).objs.size = s.heap.objs.size + 1 := Heap.size_push ..
      have hh3 : A.in1.in1.in1.handled = none := by simp [hh]
      have hneI : l ≠ (s.heap.push (setO led)).objs.size := by rw [Heap.size_push]; exact Nat.ne_of_lt (Nat.lt_succ_of_lt hlS)
      have hSf : s.heap.objs.size ∉ [(s.heap.push (setO led)).objs.size, l] := by
        rw [Heap.size_push]; simp only [List.mem_cons, List.not_mem_nil, or_false, not_or]
        exact ⟨Nat.ne_of_lt (Nat.lt_succ_self _), Nat.ne_of_gt hlS⟩
      have hval : ∀ (i : Nat) (v : Value), items[i]? = some v → ∃ t, v = .str (xs.getD i Str.empty) t := fun i v hv => SS.strs_at hi i v (by rw [Array.getElem?_toList]; exact hv)
      refine upd_texts ((Walks.tuple hh3 _ l hneI items).toS) s.heap.objs.size hSf xs (by omega) (by omega) hval (items.size - 0) 0 _ (by omega) (Nat.zero_le _) ⟨⟨_, Heap.get?_push_size _ rfl, rfl, rfl⟩, (hl1.push _)⟩ ?hS0 ?hR
      case hS0 =>
        have hget : ((s.heap.push (setO led)).push { cls := .type "tuple_iterator", data := .fields #[.ref l, .int 0 0] }).get? s.heap.objs.size = some (setO led) := Heap.get?_push_of_some _ hS
        exact SetOf_congr ((setObjOf_fresh (knd := PySem.strKind P w) led).setOf hget (by unfold scanBound; omega)) (fun _ => rfl) rfl
      case hR =>
        intro s' hm hS'
        obtain ⟨h', g', d', tk', os'⟩ := s'
        obtain rfl : g' = s.gens := hm.gens
        obtain rfl : d' = s.drawn := hm.drawn
        obtain rfl : os' = s.os := hm.os
        refine (show wpAny _ _ _ _ _ _ from wpAny_pure (show wpAny _ _ (ret Value.none) _ _ _ from wpAny_pure ⟨rfl, h', tk', rfl, ?_, fun b o hb e => ?_⟩))
        · rw [← hsz, List.take_length] at hS'
          exact hS'
        · refine hm.heap b o ?_ (Heap.get?_push_of_some _ (Heap.get?_push_of_some _ e))
          rw [Heap.size_push]; simp only [List.mem_cons, List.not_mem_nil, or_false, not_or]
          exact ⟨Nat.ne_of_lt hb, Nat.ne_of_lt (Nat.lt_succ_of_lt hb)⟩
    · match r₂, hr₂ with
      | .error e, hr₂ => exact hr₂
      | .ok .next, hr₂ => exact hr₂.elim
      | .ok .brk, hr₂ => exact hr₂.elim
      | .ok .cont, hr₂ => exact hr₂.elim
      | .ok (.ret r), hr₂ =>
        obtain ⟨rfl, h', tk, rfl, hS', hk'⟩ := hr₂
        repeat (any_goals (first | assumption | wp_step))
        exact h _ _ hS' hk'
end
section
variable {X : Cx}
def tLenSetT (K : PySem.W.Frag) (ta : TE) : TE := fun σ H Q => ta σ H fun x H1 => ∃ (l : Addr) (xs : List Str), x = .ref l ∧ SqT K H1 l (xs.map V.str) ∧ xs.length ≤ 1000 ∧ Q (.int (dcN xs xs.length : Nat)) H1
theorem pe_lenSetT {a : Expr} {ta : TE} {p p2 q pos : Pos} (hc : X.calm = true) (hm : X.mg "len" = none) (hm2 : X.mg "set" = none) (ha : PE X a ta) (hg : Gl X "len" := by rfl) (hg2 : Gl X "set" := by rfl)
    (na : starEach [a] X.env = (false, eval a X.env) :: starEach [] X.env := by rfl) : PE X (.Call (.Name "len" p) [.Call (.Name "set" p2) [a] [] q] [] pos) (tLenSetT X.K ta) := by
  refine ⟨fun pins s σ H Q I h => Call_ (ld_blt I hg hm boot_len (callWith_builtin1 (args_cons ?_ rfl) rfl rfl))⟩
  refine Call_ (ld_blt I hg2 hm2 boot_set (callWith_type1 (args_cons (thn (ha.run pins s σ H _ I h) fun v s1 ⟨x, H1, I1, r1, q1⟩ => args_nil ?_) na) na rfl))
  obtain ⟨l, xs, rfl, hq, hl, q1⟩ := q1
  cases r1
  obtain ⟨its, r, pl, hz⟩ := I1.tuple hq
  have sb : (1000 : Nat) + 1 < scanBound := by decide +kernel
  refine set_texts (I1.ok.hd hc) pl (by simpa using strsAre_of r) (by omega) fun h' tk hS hk => args_nil ?_
  obtain ⟨o, es, ep, t, ho, hex, hd, _, _, _, hf, hn⟩ := hS
  have I2 : Inv X pins σ H1 { s1 with heap := h', toks := tk } := I1.kept fun b o e => hk b o (Heap.lt_size e) e
  have le := dcN_le xs xs.length
  exact call_len_set ho hex hd hf (by rw [hn] <;> omega) ⟨.int (dcN xs xs.length : Nat), H1, I2.tok _, ⟨_, by rw [hn]⟩, q1⟩
end
end Ss
namespace Rd
open PySem.Spec PyProof.Rows
section
variable {K : PySem.W.Frag} {σ : L2.St} {H H' : Hp} {α β : Type}
theorem tupS {a : Addr} {xs : List V} (s : Same H H') (h : SqT K H a xs) : SqT K H' a xs := h.imp (fun r => r.imp (s _ _) (fun ⟨o, e⟩ => ⟨o, s _ _ e⟩)) id
theorem lcW {tl te : TE} {g : TG} {tt : TT} {vs : List Nat} {Q : VK} (k : tl σ H fun x H1 => tLc (iTup K (tC x)) g tt te vs σ H1 Q) : tLc (iTup K tl) g tt te vs σ H Q := k
/-- a comprehension over a tuple of things -/
theorem lcT {tl te : TE} {tt : TT} {vs : List Nat} {j : Nat} {Q : VK} {a : Addr} {xs : List V} {bs : List α} (A : α → V → Hp → Prop) (B : β → V → Hp → Prop) (f : α → Bool) (g : α → β)
    (htl : ∀ R : V → Hp → Prop, R (.ref a) H → tl σ H R) (hl : SqT K H a xs) (hA : Stays A) (hB : Stays B) (pr : Paired (fun b x => A b x H) bs xs) (hz : xs.length ≤ 10000)
    (hw : ∀ x, wipe ((wipe σ vs).set j (some x)) vs = wipe σ vs)
    (turn : ∀ b x H1 (R : Bool → Hp → Prop), b ∈ bs → A b x H → A b x H1 → Same H H1 → (∀ H2, Same H1 H2 → R (f b) H2) → tt ((wipe σ vs).set j (some x)) H1 R)
    (elem : ∀ b x H1 (R : VK), b ∈ bs → f b = true → A b x H → A b x H1 → Same H H1 → (∀ y H2, Same H1 H2 → Off H H1 H2 (B (g b)) y → R y H2) → te ((wipe σ vs).set j (some x)) H1 R)
    (fin : ∀ D ys H1, H D = none → Same H H1 → H1 D = some (.lst ys) → Paired (fun c y => B c y H1) ((bs.filter f).map g) ys → Q (.ref D) H1) :
    tLc (iTup K tl) (gName j) tt te vs σ H Q := by
  have hlen := pair_len pr
  refine htl _ ⟨a, rfl, ⟨xs, hl⟩, fun D hD => ?_⟩
  refine lc_tup (K := K) (a := a) (xs := xs) (fun i H1 => ∃ ys, H1 D = some (.lst ys) ∧ ys.length ≤ i ∧ Same H H1 ∧ ∀ o, Paired (fun c y => B c y (upd H1 D o)) (((bs.take i).filter f).map g) ys) ?_ ?_ ?_ ?_
  · exact ⟨[], upd_same, Nat.le_refl _, sNew hD, fun _ => .nil⟩
  · rintro i H1 hi ⟨ys, _, _, s, _⟩
    exact tupS s hl
  · rintro i x H1 hx ⟨ys, hd, hy, s, pq⟩
    have hi : i < xs.length := (List.getElem?_eq_some_iff.mp hx).1
    obtain ⟨b, hb, hab⟩ := pair_get pr hx
    have mem : b ∈ bs := List.mem_of_getElem? hb
    have tk : bs.take (i + 1) = bs.take i ++ [b] := take_succ hb
    show wipe ((wipe σ vs).set j (some x)) vs = wipe σ vs ∧ _
    refine ⟨hw x, turn b x H1 _ mem hab (hA _ _ _ _ s hab) s fun H2 s2 => ?_⟩
    cases hf : f b with
    | false =>
      rw [if_neg Bool.false_ne_true]
      refine ⟨ys, s2 _ _ hd, by omega, s.trans s2, fun o => ?_⟩
      rw [tk, List.filter_append, List.filter_cons_of_neg (by simp [hf]), List.filter_nil, List.append_nil]
      exact pair_imp (fun c y => hB c y _ _ (sUpd s2)) (pq o)
    | true =>
      rw [if_pos rfl]
      refine elem b x H2 _ mem hf hab (hA _ _ _ _ (s.trans s2) hab) (s.trans s2) fun y H3 s3 hy3 => ?_
      have hd3 := s3 _ _ (s2 _ _ hd)
      have s4 : Same H H3 := (s.trans s2).trans s3
      refine ⟨ys, hd3, szl (by omega), ys ++ [y], upd_same, by rw [List.length_append]; simp; omega, sMut s4 hD, fun o => ?_⟩
      rw [tk, List.filter_append, List.filter_cons_of_pos (by simp [hf]), List.filter_nil, List.map_append, upd_upd]
      exact (pair_imp (fun c z h => hB c z _ _ (sUpd (s2.trans s3)) h) (pq o)).snoc (hy3 D o hD (by rw [s2 _ _ hd]; simp))
  · rintro H1 ⟨ys, hd, hy, s, pq⟩
    refine fin D ys H1 hD s hd ?_
    have pq := pq (.lst ys)
    rw [← hlen, List.take_length, upd_id hd] at pq
    exact pq
end
end Rd
namespace Dt
open PyProof.Rows W6
def dS (r : List Str) : PyData := .list (r.map PyData.str)
def dR (rows : List (List Str)) : PyData := .list (rows.map dS)
def dO : Option (List Str) → PyData
  | none => .none
  | some l => dS l
/-- texts as the laws make them -/
structure Ts (r : List Str) : Prop where
  n : r.length ≤ 100
  w : ∀ w ∈ r, W 100 w
structure Rs (rows : List (List Str)) : Prop where
  n : rows.length ≤ 100
  r : ∀ r ∈ rows, Ts r
theorem strOk_of {n : Nat} {w : Str} (h : W n w) : PyData.strOk w = true := by
  unfold PyData.strOk
  rw [Array.all_eq_true']
  intro c hc
  have := h.low c (by simpa using hc)
  exact decide_eq_true (by omega)
theorem lay_strs : ∀ {r : List Str}, (∀ w ∈ r, W 100 w) → PyData.canLayAll0 (r.map PyData.str) = true
  | [], _ => rfl
  | a :: r, h => by
    have := strOk_of (h a (by simp))
    simp [PyData.canLayAll0, PyData.canLay0, this, lay_strs (r := r) fun w hw => h w (by simp [hw])]
theorem lay_rows : ∀ {rows : List (List Str)}, (∀ r ∈ rows, Ts r) → PyData.canLayAll0 (rows.map dS) = true
  | [], _ => rfl
  | a :: r, h => by
    have := lay_strs (h a (by simp)).w
    simp [PyData.canLayAll0, PyData.canLay0, dS, this]
    exact lay_rows (rows := r) fun w hw => h w (by simp [hw])
theorem dep_strs : ∀ r : List Str, PyData.depthAll (r.map PyData.str) ≤ 1
  | [] => by simp [PyData.depthAll]
  | a :: r => by simp [PyData.depthAll, PyData.depth]; exact dep_strs r
theorem dep_rows : ∀ rows : List (List Str), PyData.depthAll (rows.map dS) ≤ 2
  | [] => by simp [PyData.depthAll]
  | a :: r => by
    have := dep_rows r
    have := dep_strs a
    simp [PyData.depthAll, PyData.depth, dS]
    omega
theorem shaped_dS {r : List Str} (h : ∀ w ∈ r, W 100 w) : SeqAt.shaped (dS r) = true := by
  have := dep_strs r
  simp [SeqAt.shaped, dS, PyData.canLay0, lay_strs h, PyData.depth]
  omega
theorem shaped_dR {r : List (List Str)} (h : ∀ x ∈ r, Ts x) : SeqAt.shaped (dR r) = true := by
  have := dep_rows r
  simp [SeqAt.shaped, dR, PyData.canLay0, lay_rows h, PyData.depth]
  omega
theorem shaped_dO {o : Option (List Str)} (h : ∀ l, o = some l → ∀ w ∈ l, W 100 w) : SeqAt.shaped (dO o) = true := by
  cases o with
  | none => rfl
  | some l => exact shaped_dS (h l rfl)
theorem show_strs : ∀ r : List Str, PyData.showableAll (r.map PyData.str) = true
  | [] => rfl
  | a :: r => by simp [PyData.showableAll, PyData.showable, show_strs r]
theorem show_rows : ∀ rows : List (List Str), PyData.showableAll (rows.map dS) = true
  | [] => rfl
  | a :: r => by simp [PyData.showableAll, PyData.showable, dS, show_strs]; exact show_rows r
theorem nodict_strs : ∀ r : List Str, PyData.hasDictAll (r.map PyData.str) = false
  | [] => rfl
  | a :: r => by simp [PyData.hasDictAll, PyData.hasDict, nodict_strs r]
theorem nodict_rows : ∀ rows : List (List Str), PyData.hasDictAll (rows.map dS) = false
  | [] => rfl
  | a :: r => by simp [PyData.hasDictAll, PyData.hasDict, dS, nodict_strs]; exact nodict_rows r
theorem show_dR (r : List (List Str)) : (dR r).showable = true := by simp [dR, PyData.showable, show_rows]
theorem nodict_dR (r : List (List Str)) : (dR r).hasDict = false := by simp [dR, PyData.hasDict, nodict_rows]
theorem deep_dR (r : List (List Str)) : (dR r).depth ≤ 60 := by
  have := dep_rows r
  simp [dR, PyData.depth]
  omega
theorem show_dO (o : Option (List Str)) : (dO o).showable = true := by
  cases o with
  | none => rfl
  | some l => simp [dO, dS, PyData.showable, show_strs]
theorem nodict_dO (o : Option (List Str)) : (dO o).hasDict = false := by
  cases o with
  | none => rfl
  | some l => simp [dO, dS, PyData.hasDict, nodict_strs]
theorem deep_dO (o : Option (List Str)) : (dO o).depth ≤ 60 := by
  cases o with
  | none => simp [dO, PyData.depth]
  | some l =>
    have := dep_strs l
    simp [dO, dS, PyData.depth]
    omega
theorem from_le : ∀ (ts : List Str) (k : Nat) (acc : Str), (textFrom k acc ts).length ≤ acc.length + (ts.map fun t => t.length + 2).sum
  | [], k, acc => Nat.le_refl _
  | t :: r, k, acc => by
    have ih := from_le r (k + 1) (acc ++ (if k > 0 then ", " else "" : String) ++ t)
    have e : (acc ++ (if k > 0 then ", " else "" : String) ++ t).length ≤ acc.length + 2 + t.length := by
      rw [strLen_append, strLen_append]
      have : (Str.ofString (if k > 0 then ", " else "")).length ≤ 2 := by split <;> decide +kernel
      omega
    rw [List.map_cons, List.sum_cons]
    show (textFrom (k + 1) _ r).length ≤ _
    omega
theorem list_le {ts : List Str} {m : Nat} (h : ∀ t ∈ ts, t.length + 2 ≤ m) : (listText ts).length ≤ 2 + ts.length * m := by
  have s : ∀ l : List Str, (∀ t ∈ l, t.length + 2 ≤ m) → (l.map fun t => t.length + 2).sum ≤ l.length * m := by
    intro l
    induction l with
    | nil => intro _; simp
    | cons a l ih =>
      intro h
      have h1 := h a (by simp)
      have h2 := ih fun t ht => h t (by simp [ht])
      simp only [List.map_cons, List.sum_cons, List.length_cons, Nat.succ_mul]
      omega
  have a := from_le ts 0 "["
  have b := s ts h
  have e : (listText ts).length = (textFrom 0 "[" ts).length + 1 := by
    unfold listText
    rw [strLen_append]
    rfl
  have e1 : Str.length "[" = 1 := by decide +kernel
  omega
theorem shownAll_map : ∀ ds : List PyData, PyData.shownAll ds = ds.map PyData.shown
  | [] => rfl
  | d :: ds => by rw [PyData.shownAll, shownAll_map ds]; rfl
theorem shown_str {w : Str} (h : W 100 w) : (PyData.shown (.str w)).length ≤ 1002 := by
  have := StrLaws.reprText_len w fun c hc => Nat.lt_of_lt_of_le (h.low c hc) (by decide)
  have := h.len
  rw [PyData.shown]
  omega
theorem shown_dS {r : List Str} (h : Ts r) : (dS r).shown.length ≤ 100402 := by
  unfold dS
  rw [PyData.shown, shownAll_map]
  have := list_le (ts := (r.map PyData.str).map PyData.shown) (m := 1004) (by
    intro t ht
    simp only [List.map_map, List.mem_map, Function.comp] at ht
    obtain ⟨w, hw, rfl⟩ := ht
    have := shown_str (h.w w hw)
    omega)
  rw [List.length_map, List.length_map] at this
  have := h.n
  omega
theorem shown_dR {rows : List (List Str)} (h : Rs rows) : (dR rows).shown.length ≤ sizeLine := by
  unfold dR
  rw [PyData.shown, shownAll_map]
  have := list_le (ts := (rows.map dS).map PyData.shown) (m := 100404) (by
    intro t ht
    simp only [List.map_map, List.mem_map, Function.comp] at ht
    obtain ⟨w, hw, rfl⟩ := ht
    have := shown_dS (h.r w hw)
    omega)
  rw [List.length_map, List.length_map] at this
  have := h.n
  have e : sizeLine = 16777216 := sizeLine_eq
  omega
theorem eqv_strs : ∀ a b : List Str, PyData.eqvAll (a.map PyData.str) (b.map PyData.str) = decide (a = b)
  | [], [] => rfl
  | [], _ :: _ => by simp [PyData.eqvAll]
  | _ :: _, [] => by simp [PyData.eqvAll]
  | x :: a, y :: b => by
    have ih := eqv_strs a b
    simp only [List.map_cons, PyData.eqvAll, PyData.eqv, ih]
    by_cases e : x = y
    · subst e; simp
    · simp [e]
theorem eqv_dS (a b : List Str) : PyData.eqv (dS a) (dS b) = decide (a = b) := by
  show PyData.eqv (.list _) (.list _) = _
  rw [PyData.eqv, eqv_strs]
theorem eqv_rows : ∀ a b : List (List Str), PyData.eqvAll (a.map dS) (b.map dS) = decide (a = b)
  | [], [] => rfl
  | [], _ :: _ => by simp [PyData.eqvAll]
  | _ :: _, [] => by simp [PyData.eqvAll]
  | x :: a, y :: b => by
    have ih := eqv_rows a b
    simp only [List.map_cons, PyData.eqvAll, eqv_dS, ih]
    by_cases e : x = y
    · subst e; simp
    · simp [e]
theorem eqv_dR (a b : List (List Str)) : PyData.eqv (dR a) (dR b) = decide (a = b) := by
  show PyData.eqv (.list _) (.list _) = _
  rw [PyData.eqv, eqv_rows]
theorem eqv_dO (a b : Option (List Str)) : PyData.eqv (dO a) (dO b) = decide (a = b) := by
  cases a with
  | none =>
    cases b with
    | none => rfl
    | some l => show PyData.eqv .none (.list _) = _; simp [PyData.eqv]
  | some k =>
    cases b with
    | none => show PyData.eqv (.list _) .none = _; simp [PyData.eqv]
    | some l => rw [show dO (some k) = dS k from rfl, show dO (some l) = dS l from rfl, eqv_dS]; simp
section
variable {K : PySem.W.Frag} {H : Hp}
theorem dp_strs : ∀ r : List Str, DpAll K H (r.map V.str) (r.map PyData.str)
  | [] => .nil
  | a :: r => .cons (.str a) (dp_strs r)
theorem dp_S {p : Addr} {r : List Str} (h : SqL K H p (r.map V.str)) : Dp K H (.ref p) (dS r) := .lst h (dp_strs r)
end
theorem shown_dO {o : Option (List Str)} (h : ∀ l, o = some l → Ts l) : (dO o).shown.length ≤ sizeLine := by
  cases o with
  | none => show (PyData.shown .none).length ≤ _; rw [PyData.shown]; exact Nat.le_trans (by decide +kernel : Str.length "None" ≤ 4) (by decide)
  | some l => exact Nat.le_trans (shown_dS (h l rfl)) (by decide)
end Dt
namespace Od2
open PySem.Spec PyProof.Rows
def rDictD : List V → Hp → VK → Prop := fun xs H Q => ∃ (a : Addr) (kvs : List (Key × V)), xs = [.ref a] ∧ L2.Rd H a (.dK kvs) ∧ ∀ p, H p = none → Q (.ref p) (upd H p (.dK kvs))
theorem call_dict {X : Cx} : CallR X (.type "dict") rDictD := call_dictD
end Od2
namespace Ob
open PySem.Spec PyProof.Rows
section
variable {X : Cx} {CX : CXT} {k j : Nat} {C : Addr} {sp : Sp} {E : XK}
/-- x[k] and x[k] = v of the class at C -/
def GetCal (P : Program) (w : World) (K : PySem.W.Frag) (mg : Str → Option Value) (base : Heap) (CX : CXT) (C : Addr) (k : Nat) (m : Str) (sp : Sp) : Prop :=
  ∃ (g : Addr) (fd : FuncData) (ps : List Str), FnG P w K mg base CX k g fd ps sp ∧ Ow.SpC K C m g ∧ Binds K fd ps []
theorem getO {a b : Expr} {ta tb : TE} {pos : Pos} (M : GetCal X.prog X.w X.K X.mg X.base CX C k "__getitem__" sp) (g : X.A.guards = some []) (hr : Room j X.A) (hk : k + 1 ≤ j) (hx : Passes CX X E) (ha : PE X a ta) (hb : PE X b tb)
    (hs : ∀ (o i : Value), subscripted b true o i = runValue (.builtin "lifetime.subscript" ⟨[o, i], []⟩)) : PE X (.Subscript a b pos) (Ow.tGetO C sp E ta tb) := by
  obtain ⟨f, fd, ps, F, S, bd⟩ := M
  exact Ow.pe_getO S F g (hr.mono hk) bd hx ha hb hs
theorem setO (M : GetCal X.prog X.w X.K X.mg X.base CX C k "__setitem__" sp) (g : X.A.guards = some []) (hr : Room j X.A) (hk : k ≤ j) (hx : Passes CX X E) : PSet X (Ow.rSetO C sp E) := by
  obtain ⟨f, fd, ps, F, S, bd⟩ := M
  exact Ow.set_ownR S F g (hr.mono hk) bd hx
end
/-- what of the text an own class has -/
structure CF (K : PySem.W.Frag) (mg : Str → Option Value) (x : Str) (C : Addr) : Prop where
  cl : L2.Cls K C
  g : mg x = some (.ref C)
  ne : PySem.W.findIn K (.ref C) "__ne__" = some (some (.builtin "object.__ne__"))
  ob : PySem.W.mroIn K C (.type "object") = some true
/-- a method as the top has left it -/
def MethAt (K : PySem.W.Frag) (x qual : Str) (st : Stmt) (ps : List Str) (f : Addr) (fd : FuncData) : Prop := Fun K x qual st f fd ∧ Binds K fd ps []
section
variable {P : Program} {w : World} {K : PySem.W.Frag} {mg : Str → Option Value} {base : Heap}
theorem byG {x qual : Str} {st : Stmt} {ps N : List Str} {f : Addr} {fd : FuncData} {k : Nat} {sp : Sp} (D : MethAt K x qual st ps f fd) (S : FnScope N ps (defScope st)) (len : ∀ vs H Q E, sp vs H Q E → vs.length = ps.length)
    (inner : ∀ (cd : Value) (A : Around), A.guards = some [] → ∀ (outer : List Env) (s : Shared) (H : Hp) (vs : List V) (Q : VK) (E : XK),
      Room k (A.deeper (envOfC qual (defScope st) s.heap.objs.size f cd)) → sp vs H Q E →
      ∃ t, PSs (cxOf CX0 P w K mg base N qual (defScope st) f cd A outer s H E).nox (defBody st) t ∧ t { nx := fun _ H' => Q .non H', rt := Q } (start N vs) H) : FnG P w K mg base CX0 (k + 1) f fd ps sp :=
  defG0 D.1 S len inner
theorem byGX {x qual : Str} {st : Stmt} {ps N : List Str} {f : Addr} {fd : FuncData} {k : Nat} {sp : Sp} (D : MethAt K x qual st ps f fd) (S : FnScope N ps (defScope st)) (len : ∀ vs H Q E, sp vs H Q E → vs.length = ps.length)
    (inner : ∀ (cd : Value) (A : Around), A.guards = some [] → ∀ (outer : List Env) (s : Shared) (H : Hp) (vs : List V) (Q : VK) (E : XK),
      Room k (A.deeper (envOfC qual (defScope st) s.heap.objs.size f cd)) → sp vs H Q E →
      ∃ t, PSs (cxOf (L2.CX P w) P w K mg base N qual (defScope st) f cd A outer s H E) (defBody st) t ∧ t { nx := fun _ H' => Q .non H', rt := Q } (start N vs) H) : FnG P w K mg base (L2.CX P w) (k + 1) f fd ps sp :=
  defG D.1 S len inner
end
end Ob
namespace Ab
open PySem L2 Gk
def top (i : Nat) : Stmt := PySem.Challenge.pw_answersby_k03_books_refuse.main.body.getD i (.Pass ⟨0, 0, 0, 0⟩)
def clsBody : Stmt → List Stmt
  | .ClassDef _ _ _ b _ _ _ _ _ _ _ => b
  | _ => []
def meth (i j : Nat) : Stmt := (clsBody (top i)).getD j (.Pass ⟨0, 0, 0, 0⟩)
structure Txt (K : PySem.W.Frag) (mg : Str → Option Value) : Prop where
  int : mg "int" = none
  len : mg "len" = none
  max : mg "max" = none
  min : mg "min" = none
  isinstance : mg "isinstance" = none
  range : mg "range" = none
  list : mg "list" = none
  dict : mg "dict" = none
  tuple : mg "tuple" = none
  set : mg "set" = none
  str : mg "str" = none
  bool : mg "bool" = none
  repr : mg "repr" = none
  all : mg "all" = none
  ValueError : mg "ValueError" = none

theorem one_ {n : Nat} (h : n + 64 < cLine) : n + 1 < cLine := by omega
theorem un80 {k : Nat} {A : Around} (r : Room k A) : A.units + 80 < cLine := by have := r.un; omega
/-! ### tables -/
def tab (l : List Str) (f : Str → V) : List (Key × V) := l.map fun o => (.inr o, f o)
theorem val_tab (l : List Str) (f : Str → V) {o : Str} (h : o ∈ l) : valV (tab l f) (.inr o) = some (f o) := by
  induction l with
  | nil => cases h
  | cons a l ih =>
    by_cases e : a = o
    · subst e
      simp [valV, tab]
    · have hm : o ∈ l := (List.mem_cons.mp h).resolve_left fun z => e z.symm
      have := ih hm
      simp only [valV, tab, List.map_cons] at this ⊢
      rw [List.find?_cons_of_neg (by simpa using e)]
      exact this
theorem none_tab (l : List Str) (f : Str → V) {o : Str} (h : o ∉ l) : valV (tab l f) (.inr o) = none := by
  induction l with
  | nil => rfl
  | cons a l ih =>
    have e : a ≠ o := fun z => h (by rw [z]; exact List.mem_cons_self)
    have := ih fun z => h (List.mem_cons_of_mem _ z)
    simp only [valV, tab, List.map_cons] at this ⊢
    rw [List.find?_cons_of_neg (by simpa using e)]
    exact this
def put (f : Str → V) (o : Str) (v : V) : Str → V := fun x => if x = o then v else f x
theorem put_tab (l : List Str) (f : Str → V) {o : Str} (v : V) (h : o ∈ l) : putK (tab l f) (.inr o) v = tab l (put f o v) := by
  have e : ((tab l f).any fun kv => decide (kv.1 = .inr o)) = true := by
    rw [List.any_eq_true]
    exact ⟨(.inr o, f o), List.mem_map.mpr ⟨o, h, rfl⟩, by simp⟩
  rw [putK, if_pos e]
  simp only [tab, List.map_map]
  refine List.map_congr_left fun x _ => ?_
  by_cases c : x = o
  · subst c; simp [put]
  · simp [put, c]
theorem putK_new (l : List Str) (f : Str → V) {o : Str} (v : V) (h : o ∉ l) : putK (tab l f) (.inr o) v = tab l f ++ [(.inr o, v)] := by
  have e : ¬ ((tab l f).any fun kv => decide (kv.1 = .inr o)) = true := by
    rw [List.any_eq_true]
    rintro ⟨kv, hm, hk⟩
    obtain ⟨x, hx, rfl⟩ := List.mem_map.mp hm
    have : x = o := by simpa using hk
    exact h (this ▸ hx)
  rw [putK, if_neg e]
theorem tab_snoc (l : List Str) (f : Str → V) (o : Str) : tab l f ++ [(.inr o, f o)] = tab (l ++ [o]) f := by simp [tab]
theorem tab_congr {l : List Str} {f g : Str → V} (h : ∀ o ∈ l, f o = g o) : tab l f = tab l g := List.map_congr_left fun o ho => by rw [h o ho]
theorem tab_len (l : List Str) (f : Str → V) : (tab l f).length = l.length := List.length_map ..
/-- the tables of the document -/
def ops : List Str := ["truth", "size", "each", "turned", "hash", "call", "member", "like", "unlike", "before", "behind", "grow"]
def menus : List (Str × List Str) := [("truth", ["truth", "length"]), ("size", ["length"]), ("each", ["walk", "item"]), ("turned", ["back", "count"]), ("hash", ["hash"]), ("call", ["call"]), ("member", ["has", "walk", "item"]), ("like", ["own", "turned"]),
  ("unlike", ["own", "like", "turned", "turned_like"]), ("before", ["own", "turned"]), ("behind", ["own", "turned"]), ("grow", ["grow", "plus"])]
def menu (o : Str) : List Str := (menus.lookup o).getD []
def flagsW : List Str := ["bars_hash", "ends_same", "ends_true"]
/-! ### heaps that go on -/
theorem sqT_same {K : PySem.W.Frag} {H H' : Hp} {p : Addr} {xs : List V} (s : Same H H') (h : SqT K H p xs) : SqT K H' p xs := Rd.tupS s h
/-- what stands at a is no tuple -/
def NoTup (H : Hp) (a : Addr) : Prop := ∀ u, H a = some u → (∀ xs, u ≠ .tup xs) ∧ ∀ o xs, u ≠ .frz o (.tup xs)
theorem sqT_upd {K : PySem.W.Frag} {H : Hp} {a p : Addr} {z : HO} {xs : List V} (n : NoTup H a) (h : SqT K H p xs) : SqT K (upd H a z) p xs := by
  rcases h with (h | ⟨o, h⟩) | h
  · refine .inl (.inl ?_)
    rw [upd_ne (fun e => by subst e; exact (n _ h).1 _ rfl)]
    exact h
  · refine .inl (.inr ⟨o, ?_⟩)
    rw [upd_ne (fun e => by subst e; exact (n _ h).2 _ _ rfl)]
    exact h
  · exact .inr h
theorem nt_dK {H : Hp} {a : Addr} {kvs : List (Key × V)} (h : H a = some (.dK kvs)) : NoTup H a := fun u e => by
  rw [h] at e; cases e; exact ⟨fun _ => by simp, fun _ _ => by simp⟩
theorem nt_lst {H : Hp} {a : Addr} {xs : List V} (h : H a = some (.lst xs)) : NoTup H a := fun u e => by
  rw [h] at e; cases e; exact ⟨fun _ => by simp, fun _ _ => by simp⟩
theorem nt_ins {H : Hp} {a C dx : Addr} {fs : List (Str × V)} (h : H a = some (.ins C dx fs)) : NoTup H a := fun u e => by
  rw [h] at e; cases e; exact ⟨fun _ => by simp, fun _ _ => by simp⟩
theorem nt_none {H : Hp} {a : Addr} (h : H a = none) : NoTup H a := fun u e => by rw [h] at e; cases e
theorem tup_ty {K : PySem.W.Frag} {H : Hp} {p : Addr} {xs : List V} (h : SqT K H p xs) : TyX K H (.ref p) (.type "tuple") := by
  rcases h with (h | ⟨o, h⟩) | ⟨o, its, n, h, c, _⟩
  · exact .base (.tup h)
  · exact .fTuple h
  · exact .kTuple h c
end Ab
/-! a try whose clauses name what they catch, one after the other; own methods and signs within a try -/
namespace Et
open PySem.Spec PyProof.Rows
abbrev Clause := Value × (Addr → Value → Option Addr → TS)
/-- the ends behind a suite: the name is gone -/
def goneE (i : Nat) (D : Ends) : Ends := { nx := fun u K => D.nx (u.set i none) K, rt := D.rt, bk := fun u K => D.bk (u.set i none) K, ct := fun u K => D.ct (u.set i none) K }
/-- what the clauses wish of an exception; slot i is the name's -/
def wAsN (K : PySem.W.Frag) (i : Nat) (out : WX) (D : Ends) : List Clause → WX
  | [] => out
  | (c, t) :: r => fun cls d τ G => ∃ y, PySem.W.exmOne K cls c = some y ∧ (y = true → ∀ e, G e = none → t e cls d (goneE i D) (τ.set i (some (.ref e))) G) ∧ (y = false → wAsN K i out D r cls d τ G)
inductive Clauses (X : Cx) (n : Str) : List ExceptHandler → List Clause → Prop
  | nil : Clauses X n [] []
  | cons {x : Str} {c : Value} {t : Addr → Value → Option Addr → TS} {b : Stmt} {bs : List Stmt} {p q : Pos} {hs : List ExceptHandler} {l : List Clause} (hc : Names X x c)
      (hb : ∀ (e : Addr) (oe : Obj) (cls : Value) (d : Option Addr) (pn : List (Addr × Obj)), Zc cls d oe → (∃ vs, oe.data = .fields vs) → PSs (X.suite e ((e, oe) :: pn)) (b :: bs) (t e cls d)) (r : Clauses X n hs l) :
      Clauses X n (.ExceptHandler (some (.Name x p)) (some n) (b :: bs) q :: hs) ((c, t) :: l)
/-- an exception at e that has come down to the frame of X: sI is the state without it -/
structure Down (X : Cx) (B : Heap) (pins : List (Addr × Obj)) (τ : L2.St) (G : Hp) (sI : Shared) (e : Addr) (cls : Value) (d : Option Addr) (s : Shared) : Prop where
  inv : Inv X pins τ G sI
  nb : ∀ b o, sI.heap.get? b = some o → b ∉ frs X.stack → B.get? b = some o
  up : sI.heap.UpToSlots s.heap
  fl : HandSPX.FlyingZ B (X.env :: X.outer) e (Zc cls d) s.heap
  na : G e = none
  os : s.os = sI.os
  ag : AllBare s.gens
section
variable {X : Cx} {B : Heap} {pins : List (Addr × Obj)} {τ : L2.St} {G : Hp} {sI s : Shared} {e : Addr} {cls : Value} {d : Option Addr}
theorem Down.here (z : Down X B pins τ G sI e cls d s) : Inv X pins τ G s := Inv.landed z.inv z.nb z.fl.1 z.up z.os z.ag
theorem Down.held (z : Down X B pins τ G sI e cls d s) (hf : X.env.frame = some X.env.locals) :
    ∃ oe vs, s.heap.get? e = some oe ∧ Zc cls d oe ∧ oe.data = .fields vs ∧ Inv (X.suite e ((e, oe) :: (X.pn ++ pins))) [] τ G s := by
  obtain ⟨oe, vs, h1, h2, h3⟩ := z.fl.there
  have no : e ∉ frs (X.env :: X.outer) := fun m => by
    obtain ⟨_, o, ho, hn⟩ := z.fl.2.2.1.mem m
    rw [ho] at h1
    exact hn vs (by rw [Option.some.inj h1]; exact h3)
  refine ⟨oe, vs, h1, h2, h3, z.here.suite h1 h3 z.na (fun q => no ?_) fun m => no ?_⟩
  · exact List.mem_filterMap.mpr ⟨X.env, List.mem_cons_self, by rw [q]; exact hf⟩
  · obtain ⟨v, hv, w⟩ := List.mem_filterMap.mp m
    exact List.mem_filterMap.mpr ⟨v, List.mem_cons_of_mem _ hv, w⟩
/-- no clause is left: it goes on -/
theorem Down.out {W : WX} {D : Ends} (z : Down X B pins τ G sI e cls d s) (hs : X.stack = X.env :: X.outer) (hf : X.env.frame = some X.env.locals) (tk : Takes X W) (w : W cls d τ G) :
    wpAny (model X.prog X.w) X.A (handleBy (.ref e) X.env []) (SP X pins D) X.xe s := by
  have fl := z.fl
  obtain ⟨_, _, _, oe, vs, T, oT, ts, h1, _, h3, h4, _⟩ := id fl
  have off : wpAny (model X.prog X.w) X.A (setFlight (.ref e) X.env.frame) (fun _ s' => wpAny (model X.prog X.w) X.A (throw (.ref e) : Sem Flow) (SP X pins D) X.xe s') X.xe s := by
    rw [hf]
    refine HandSPX.setFlight_upZ fl fun h4 hh up => wpAny_throw (tk _ _ ⟨e, B, sI, pins, τ, G, cls, d, rfl, z.inv, z.nb, z.up.trans up, ?_, z.na, z.os, z.ag, w⟩)
    rw [hs]
    exact .inr (.inr hh)
  refine wpAny_handleBy_nil ?_
  unfold PySem.passOn
  refine wpAny_bind (wpAny_field h1 h3 h4 ?_)
  rw [if_neg (show ¬ ((Value.ref T == Value.none) = true) by simp)]
  first
    | exact wpAny_bind (wpAny_pure (wpAny_bind off))
    | exact wpAny_bind off
/-- the clauses, one after the other -/
theorem Down.asked {i : Nat} {n : Str} {W : WX} {D : Ends} (hs : X.stack = X.env :: X.outer) (hf : X.env.frame = some X.env.locals) (hN : X.N.Nodup) (hi : X.N[i]? = some n) (hl : X.env.kindOf n = some .local) (tk : Takes X W)
    {hds : List ExceptHandler} {l : List Clause} (hc : Clauses X n hds l) : ∀ {s : Shared}, Down X B pins τ G sI e cls d s → wAsN X.K i W D l cls d τ G → wpAny (model X.prog X.w) X.A (handleBy (.ref e) X.env hds) (SP X pins D) X.xe s := by
  induction hc with
  | nil => exact fun z w => z.out hs hf tk w
  | @cons x c t b bs p q r l' names su _ ih =>
    rintro s z ⟨y, ym, yes, no⟩
    obtain ⟨oe, vs, h1, h2, h3, S⟩ := z.held hf
    have kind : PySem.W.Looks (model X.prog X.w) s.heap (typeOf (.ref e)) cls := fun A Q E s' k q => wpAny_typeOf_ref (k _ _ h1) (by rw [h2.1]; exact q)
    have asks := PySem.W.exm_one (M := model X.prog X.w) z.here.kIn kind ym
    refine wpAny_handleBy_cons (codeAny_handlers_test ?_) (by intro q; cases q)
    have nm : ∀ {Q : Value → Shared → Prop} {E : Value → Shared → Prop}, Q c s → wpAny (model X.prog X.w) (X.A.mark (some (.ref e))) (eval (.Name x p) X.env) Q E s := fun {Q E} k => by
      obtain ⟨g1, g2, g3⟩ := names
      rcases g3 with m | ⟨m, v, nn⟩
      · exact ld_glob (X := X.suite e ((e, oe) :: (X.pn ++ pins))) S g1 m k g2
      · exact ld_blt (X := X.suite e ((e, oe) :: (X.pn ++ pins))) S g1 m v k nn g2
    refine nm (asks.here ?_)
    cases y with
    | false => exact ih z (no rfl)
    | true =>
      refine codeAny_handlers_suite_as (HandSPX.lands_againZ z.fl fun h4 fl4 up4 => ?_)
      have z4 : Down X B pins τ G sI e cls d { s with heap := h4 } := ⟨z.inv, z.nb, z.up.trans up4, fl4, z.na, z.os, z.ag⟩
      obtain ⟨oe4, vs4, k1, k2, k3, S4⟩ := z4.held hf
      refine store_ok (X := X.suite e ((e, oe4) :: (X.pn ++ pins))) (v := .ref e) S4 hN hi (.inl hl) rfl (fun s5 S5 => ?_) (.inr hl)
      refine wpAny_mono ((su e oe4 cls d (X.pn ++ pins) k2 ⟨_, k3⟩).run [] s5 _ G _ S5 (yes rfl e z.na)) (fun f s6 q6 => ?_) (fun _ _ bad => False.elim bad)
      have leave : ∀ {τ' : L2.St} {G' : Hp} {R : Shared → Prop}, Inv (X.suite e ((e, oe4) :: (X.pn ++ pins))) [] τ' G' s6 → (∀ s7, Inv X pins (τ'.set i none) G' s7 → R s7) →
          wpAny (model X.prog X.w) X.A (do bindName X.env n .none; unbindBehindTheSuite X.env n q) (fun _ s7 => R s7) X.xe s6 := fun a k => gone_ok (a.unsuite z.inv.ok) hN hi hl k
      match f, q6 with
      | .next, q6 => obtain ⟨_, _, a, k⟩ := q6; exact leave a fun _ J => ⟨_, _, J, k⟩
      | .brk, q6 => obtain ⟨_, _, a, k⟩ := q6; exact leave a fun _ J => ⟨_, _, J, k⟩
      | .cont, q6 => obtain ⟨_, _, a, k⟩ := q6; exact leave a fun _ J => ⟨_, _, J, k⟩
      | .ret _, q6 => obtain ⟨_, _, _, a, v, k⟩ := q6; exact leave a fun _ J => ⟨_, _, _, J, v, k⟩
end
section
variable {X : Cx} {n : Str} {i : Nat} {body : List Stmt} {h0 : ExceptHandler} {hds : List ExceptHandler} {l : List Clause} {pos : Pos} {tb : WX → TS} {out : WX}
theorem ps_tryN (hs : X.stack = X.env :: X.outer) (hf : X.env.frame = some X.env.locals) (hN : X.N.Nodup) (hi : X.N[i]? = some n) (hl : X.env.kindOf n = some .local) (tk : Takes X out)
    (hb : ∀ (W : WX) (pn : List (Addr × Obj)) (xe : Value → Shared → Prop), Takes (X.tr pn xe) W → PassesOwn (model X.prog X.w) X.A X.env xe → PSs (X.tr pn xe) body (tb W))
    (hc : Clauses X n (h0 :: hds) l) : PS X (.Try body (h0 :: hds) [] [] pos) (fun D τ G => tb (wAsN X.K i out D l) D τ G) := by
  refine ⟨fun pins s τ G D I q => wpAny_Try_except (wpAny_mono ((hb (wAsN X.K i out D l) (X.pn ++ pins) (fun u t => wpAny (model X.prog X.w) X.A (noteFrame u X.env) (fun _ t' => wpAny (model X.prog X.w) X.A (setFlight u none)
    (fun _ t'' => wpAny (model X.prog X.w) X.A (handleBy u X.env (h0 :: hds)) (SP X pins D) X.xe t'') X.xe t') X.xe t) ?_ PassesOwn.looking).run [] s τ G D (I.toTry _) q) ?_ fun _ _ z => z)⟩
  · rintro u t ⟨e, B, sI, pins', τ', G', cls, d, rfl, J, nb, up, sky, na, os, ag, w⟩
    have J' : Inv X pins τ' G' sI := J.ofTry I.ok
    have sky' : Sky B (X.env :: X.outer) e (Zc cls d) X.env.locals t.heap := by rw [← hs]; exact sky
    exact Sky.land Zc.steady (by rw [I.ok.frames, hs]) hf sky' fun h3 fl3 up3 => Down.asked hs hf hN hi hl tk hc (s := { t with heap := h3 }) ⟨J', nb, up.trans up3, fl3, na, os, ag⟩ w
  · intro f t z
    match f, z with
    | .next, z => obtain ⟨_, _, J, k⟩ := z; exact wpAny_execs_nil ⟨_, _, J.ofTry I.ok, k⟩
    | .brk, z => obtain ⟨_, _, J, k⟩ := z; exact ⟨_, _, J.ofTry I.ok, k⟩
    | .cont, z => obtain ⟨_, _, J, k⟩ := z; exact ⟨_, _, J.ofTry I.ok, k⟩
    | .ret _, z => obtain ⟨_, _, _, J, v, k⟩ := z; exact ⟨_, _, _, J.ofTry I.ok, v, k⟩
end
/-! ### within a try -/
section
variable {X : Cx} {W : WX} {k j : Nat} {f C : Addr} {fd : FuncData} {ps : List Str} {sp : Sp}
theorem flowS {pins : List (Addr × Obj)} {τ : L2.St} {G : Hp} {s : Shared} {Q : VK} {r : Result} {s' : Shared} (tk : Takes X W) (I : Inv X pins τ G s) (h : CR (L2.CX X.prog X.w) X.stack X.prog X.w G s Q (WE W τ) r s') : wants (EP X pins τ Q) X.xe r s' := by
  match r, h with
  | .error e, z => exact passAt tk τ pins G s e s' I z
  | .ok (.ret u), z => exact I.after z
  | .ok .next, z => exact z.elim
  | .ok .brk, z => exact z.elim
  | .ok .cont, z => exact z.elim
def tMethS (m : Str) (C : Addr) (sp : Sp) (E : L2.St → XK) (ta : TE) (t : TA) : TE := fun τ G Q => ta τ G fun x G1 => ∃ a dx fs, x = .ref a ∧ G1 a = some (.ins C dx fs) ∧ fs.lookup m = none ∧ t τ G1 fun vs G2 => sp (x :: vs) G2 Q (E τ)
theorem methS {m : Str} {o e : Expr} {es : List Expr} {apos pos : Pos} {ta : TE} {t : TA} {pl : Sem Bool} (tk : Takes X W) (he : PE X o ta) (c : L2.Cls X.K C) (M : Ob.MCal X.prog X.w X.K X.mg X.base (L2.CX X.prog X.w) C k m sp) (g : X.A.guards = some []) (hr : Room j X.A) (hk : k ≤ j) (ha : PA X (e :: es) t)
    (hst : starEach (e :: es) X.env = (false, eval e X.env) :: starEach es X.env := by rfl) (hpl : (backTo pos (starEach es X.env)).any (·.1) = false := by rfl)
    (ht : eval (.Call (.Attribute o m apos) (e :: es) [] pos) X.env = (do
      let ov ← eval o X.env
      standAt apos.atName
      let (f, first) ← holding [ov] (getMethod ov m pl)
      callWith pos f first (backTo pos (starEach (e :: es) X.env)) (backToKw pos (keywordEach [] X.env))) := by rfl) : PE X (.Call (.Attribute o m apos) (e :: es) [] pos) (tMethS m C sp (WE W) ta t) := by
  obtain ⟨f, fd, ps, F, hm, hb⟩ := M
  refine ⟨fun pins s τ G Q I h => PySem.W.methodCall_KW (pl := pl) (thn (he.run pins s τ G _ I h) fun u s1 ⟨x, G1, I1, rx, a, dx, fs, ex, ea, l, q⟩ => ?_) ht⟩
  subst ex
  obtain rfl : u = Value.ref a := rx
  refine getmeth_ok I1 ea c hm l (PySem.W.callWith_K (first := [.ref a]) (h₀ := X.base) I.ok.mod.kin hm.kp (thn (ha.run pos pins s1 τ G1 _ I1 q) fun us s2 ⟨vs, G2, I2, r, q2⟩ => ⟨I2.kIn, wpAny_call ?_⟩) hst hpl)
  exact codeAny_mono (Ob.goG F g (hr.mono hk) I2.env0 I2.kIn hb (.cons (show RelV (.ref a) (.ref a) from rfl) r) q2) fun r s' z => flowS tk I2 z
/-- x[k] -/
def tGetS (C : Addr) (sp : Sp) (E : L2.St → XK) (ta tb : TE) : TE := fun τ G Q => ta τ G fun x G1 => tb τ G1 fun y G2 => ∃ a dx fs, x = .ref a ∧ G2 a = some (.ins C dx fs) ∧ sp [.ref a, y] G2 Q (E τ)
theorem getS {a b : Expr} {ta tb : TE} {pos : Pos} (tk : Takes X W) (M : Ob.GetCal X.prog X.w X.K X.mg X.base (L2.CX X.prog X.w) C k "__getitem__" sp) (gd : X.A.guards = some []) (hr : Room j X.A) (hk : k + 1 ≤ j) (ha : PE X a ta) (hb' : PE X b tb)
    (hs : ∀ (o i : Value), subscripted b true o i = runValue (.builtin "lifetime.subscript" ⟨[o, i], []⟩)) : PE X (.Subscript a b pos) (tGetS C sp (WE W) ta tb) := by
  obtain ⟨f, fd, ps, F, S, hb⟩ := M
  refine ⟨fun pins s τ G Q I h => Subscript_ (binT ha hb' I h fun v u s2 x y G2 I2 rx ry q => ?_)⟩
  obtain ⟨p, dx, fs, rfl, hp, q⟩ := q
  obtain rfl : v = Value.ref p := rx
  obtain ⟨m, fr⟩ := I2.fr
  obtain ⟨od, J⟩ := Ow.instAt I2 hp
  have isf : PySem.W.isFn X.K (.ref f) = true := by show (PySem.W.typeIn X.K (.ref f) == some (.type "function")) = true; rw [S.sp.fn] <;> rfl
  refine PySem.W.sub_K fr I2.ok.mod.kin J S.sp.at_ S.fi isf (wpAny_call ?_) (hs _ _)
  exact codeAny_mono (Ob.goG F (A := X.A.in1) gd (hr.mono hk).in1 I2.env0.in1 I2.kIn hb (.cons (show RelV (.ref p) (.ref p) from rfl) (.cons ry .nil)) q) fun r s' z => flowS tk I2 z
/-- x[k] = v -/
def gSetS (C : Addr) (sp : Sp) (E : L2.St → XK) (to ti : TE) : TG := fun v τ G Q => to τ G fun x G1 => ti τ G1 fun y G2 => ∃ a dx fs, x = .ref a ∧ G2 a = some (.ins C dx fs) ∧ sp [.ref a, y, v] G2 (fun _ G3 => Q τ G3) (E τ)
theorem pg_setS {o i : Expr} {to ti : TE} {pos : Pos} (tk : Takes X W) (M : Ob.GetCal X.prog X.w X.K X.mg X.base (L2.CX X.prog X.w) C k "__setitem__" sp) (gd : X.A.guards = some []) (hr : Room j X.A) (hk : k ≤ j) (ho : PE X o to) (hi : PE X i ti)
    (ha : ∀ v, assign (.Subscript o i pos) X.env v = (do
      let b ← holding [v] (eval o X.env)
      let c ← holding [v, b] (eval i X.env)
      standAt pos
      holding [v, b, c] (setItem b c v)
      release [v, b, c] []) := by intro _; rfl) : PG X (.Subscript o i pos) (gSetS C sp (WE W) to ti) := by
  obtain ⟨f, fd, ps, F, S, hb⟩ := M
  refine ⟨fun pins s τ G v u Q I r h => ?_⟩
  rw [ha]
  refine wpAny_bind (wpAny_holding (thn (ho.run pins s τ G _ I h) fun b s1 ⟨x, G1, I1, r1, q1⟩ => ?_))
  refine wpAny_bind (wpAny_holding (thn (hi.run pins s1 τ G1 _ I1 q1) fun c s2 ⟨y, G2, I2, r2, p, dx, fs, ep, hp, q2⟩ => ?_))
  subst ep
  obtain rfl : b = Value.ref p := r1
  obtain ⟨_, _, _, hob, _⟩ := I2.hok p _ hp
  refine wpAny_bind (wpAny_standAt (wpAny_bind (wpAny_holding (Ow.set_own I2.kIn hob rfl S.dq S.sp (wpAny_call ?_)))))
  refine codeAny_mono (Ob.goG F gd (hr.mono hk) I2.env0 I2.kIn hb (.cons (show RelV (.ref p) (.ref p) from rfl) (.cons r2 (.cons r .nil))) q2) fun z s' zz => ?_
  have := flowS tk I2 zz
  match z, this with
  | .error _, t => exact t
  | .ok (.ret w), t =>
    obtain ⟨_, G3, I3, _, q3⟩ := t
    exact wpAny_release ⟨τ, G3, I3, q3⟩
  | .ok .next, t => exact t.elim
  | .ok .brk, t => exact t.elim
  | .ok .cont, t => exact t.elim
end
end Et
namespace Ab
open PySem.Spec PyProof.Rows
def isStr : V → Bool
  | .str _ => true
  | _ => false
def isBl : V → Bool
  | .bl _ => true
  | _ => false
/-- a value's own kind, as isinstance tells it -/
structure Kd (K : PySem.W.Frag) (H : Hp) (v : V) (tn : String) : Prop where
  ty : TyX K H v (.type tn)
  s : kitB tn "str" = some (isStr v)
  b : kitB tn "bool" = some (isBl v)
def isIn (v : V) (ws : List Str) : Bool := match v with
  | .str s => decide (s ∈ ws)
  | _ => false
theorem isIn_str {v : V} {ws : List Str} (h : isIn v ws = true) : ∃ s, v = .str s ∧ s ∈ ws := by
  cases v <;> first | (rename_i s; exact ⟨s, rfl, of_decide_eq_true h⟩) | cases h
theorem isi {K : PySem.W.Frag} {H : Hp} {v : V} {tn c : String} {b : Bool} {Q : VK} (h : TyX K H v (.type tn)) (k : kitB tn c = some b) (q : Q (.bl b) H) : rIsi K [v, .ty c] H Q :=
  ⟨v, .ty c, .type tn, .type c, b, rfl, .ty c, h, kit_ty k, q⟩
theorem inT {K : PySem.W.Frag} {H : Hp} {x : V} {p : Addr} {xs : List V} {Q : VK} {neg : Bool} (h : SqT K H p xs) (hx : flatV x = true) (ha : xs.all flatV = true) (k : Q (.bl (if neg then !inV x xs else inV x xs)) H) : rIn K neg x (.ref p) H Q := ⟨p, xs, rfl, .inr h, hx, ha, k⟩
theorem inV_str (w : Str) (l : List Str) : inV (.str w) (l.map V.str) = decide (w ∈ l) := by
  induction l with
  | nil => rfl
  | cons a l ih =>
    show (eqV (.str a) (.str w) || inV (.str w) (l.map V.str)) = _
    rw [ih]
    show ((a == w) || _) = _
    by_cases e : a = w
    · subst e; simp
    · have e' : ¬ w = a := fun z => e z.symm
      simp [e, e']
theorem flat_strs (l : List Str) : (l.map V.str).all flatV = true := by
  rw [List.all_eq_true]
  intro x hx
  obtain ⟨s, _, rfl⟩ := List.mem_map.mp hx
  rfl
theorem tyX_mono {K : PySem.W.Frag} {H H' : Hp} {v : V} {t : Value} (s : Same H H') (h : TyX K H v t) : TyX K H' v t := by
  cases h with
  | base b =>
    refine .base ?_
    cases b with
    | non => exact .non
    | bl x => exact .bl x
    | int x => exact .int x
    | str x => exact .str x
    | flt x => exact .flt x
    | lst e => exact .lst (s _ _ e)
    | frz e => exact .frz (s _ _ e)
    | tup e => exact .tup (s _ _ e)
    | dK e => exact .dK (s _ _ e)
    | dT e => exact .dT (s _ _ e)
    | ins e a b c d f => exact .ins (s _ _ e) a b c d f
  | byt b => exact .byt b
  | set e => exact .set (s _ _ e)
  | kList e c => exact .kList e c
  | kTuple e c => exact .kTuple e c
  | kDict e c => exact .kDict e c
  | fTuple e => exact .fTuple (s _ _ e)
  | fDict e => exact .fDict (s _ _ e)
theorem Kd.mono {K : PySem.W.Frag} {H H' : Hp} {v : V} {tn : String} (s : Same H H') (k : Kd K H v tn) : Kd K H' v tn := ⟨tyX_mono s k.ty, k.s, k.b⟩
section
variable {K : PySem.W.Frag} {H : Hp}
theorem kd_str (z : Str) : Kd K H (.str z) "str" := ⟨.base (.str z), (by show kitB "str" "str" = some true; decide +kernel), (by show kitB "str" "bool" = some false; decide +kernel)⟩
theorem kd_int (i : Int) : Kd K H (.int i) "int" := ⟨.base (.int i), rfl, rfl⟩
theorem kd_bl (b : Bool) : Kd K H (.bl b) "bool" := ⟨.base (.bl b), rfl, rfl⟩
theorem kd_non : Kd K H .non "NoneType" := ⟨.base .non, rfl, rfl⟩
theorem kd_lst {p : Addr} {xs : List V} (h : H p = some (.lst xs)) : Kd K H (.ref p) "list" := ⟨.base (.lst h), rfl, rfl⟩
theorem kd_tup {p : Addr} {xs : List V} (h : SqT K H p xs) : Kd K H (.ref p) "tuple" := ⟨tup_ty h, rfl, rfl⟩
end
section
variable {P : Program} {w : World} {K : PySem.W.Frag} {mg : Str → Option Value} {base : Heap}
abbrev sIs_one_of : Stmt := top 7
abbrev nIs_one_of : List Str := ["value", "words"]
theorem scIs_one_of : FnScope nIs_one_of ["value", "words"] (defScope sIs_one_of) := ⟨rfl, rfl, rfl, by decide +kernel, rfl, by decide +kernel, by decide +kernel⟩
def spOneOf (K : PySem.W.Frag) : Sp := fun vs H Q _ => ∃ (v : V) (p : Addr) (tn : String) (ws : List Str), vs = [v, .ref p] ∧ Kd K H v tn ∧ SqT K H p (ws.map V.str) ∧ Q (.bl (isIn v ws)) H
theorem ok_one_of (T : Txt K mg) (D : DefAt K mg "is_one_of" sIs_one_of ["value", "words"]) : CalG P w K mg base 1 "is_one_of" (spOneOf K) := by
  refine D.by scIs_one_of (fun vs H Q E h => ?_) (fun f cd A hg outer s H vs Q E hr h => ?_)
  · obtain ⟨v, p, tn, ws, rfl, _⟩ := h
    rfl
  · obtain ⟨v, p, tn, ws, rfl, k, hp, q⟩ := h
    refine ⟨_, (pss_one (ps_ret (pe_and (pe_callB (r := rIsi K) call_isi (by rfl) T.isinstance (by decide +kernel) (pa_cons (pv 0) (pa_cons (pe_bltn (v := .ty "str") (by rfl) T.str (by decide +kernel) rfl) pa_nil))) (pe_one (pe_cmpR (r := rIn K false) op_in_seq (pv 0) (pv 1) (by rfl)))))), ?_⟩
    repeat walk_at "rd"
    refine isi k.ty k.s ?_
    repeat walk_at "rd"
    refine Rd.bool (fun c => ?_) (fun c => ?_)
    · obtain ⟨z, rfl⟩ : ∃ z, v = .str z := by cases v <;> first | exact ⟨_, rfl⟩ | cases c
      repeat walk_at "rd"
      refine inT hp rfl (flat_strs _) ?_
      have e : (if (false : Bool) = true then !inV (.str z) (ws.map V.str) else inV (.str z) (ws.map V.str)) = decide (z ∈ ws) := by rw [inV_str]; rfl
      rw [e]
      exact q
    · have e : isIn v ws = false := by cases v <;> first | rfl | cases c
      rw [e] at q
      exact q
/-- the error of the class at C with the field f = v goes out -/
def Out (C : Addr) (f : Str) (v : V) (H : Hp) (E : XK) : Prop := ∀ H1, Same H H1 → ∀ d, H1 d = none → E (.ref C) (some d) (upd H1 d (.xd [(f, v)]))
theorem Out.at {C : Addr} {f : Str} {v : V} {H H1 : Hp} {E : XK} (o : Out C f v H E) (s : Same H H1) : Out C f v H1 E := fun H2 s2 => o H2 (s.trans s2)
abbrev sCheck_flag : Stmt := top 8
abbrev nCheck_flag : List Str := ["value"]
theorem scCheck_flag : FnScope nCheck_flag ["value"] (defScope sCheck_flag) := ⟨rfl, rfl, rfl, by decide +kernel, rfl, by decide +kernel, by decide +kernel⟩
def spFlag (K : PySem.W.Frag) (C : Addr) : Sp := fun vs H Q E => ∃ (v : V) (tn : String), vs = [v] ∧ Kd K H v tn ∧ (isBl v = true → Q .non H) ∧ (isBl v = false → Out C "value" v H E)
theorem ok_check_flag (T : Txt K mg) {C : Addr} (T_NoFlag : Ex.ErrC K mg "NoFlag" "value" C) (M_NoFlag : Ex.InitOk P w K mg base "value" C) (D : DefAt K mg "check_flag" sCheck_flag ["value"]) : Ex.CalX P w K mg base 3 "check_flag" (spFlag K C) := by
  refine Ex.byX D scCheck_flag (fun vs H Q E h => ?_) (fun f cd A hg outer s H vs Q E hr h => ?_)
  · obtain ⟨v, tn, rfl, _⟩ := h
    rfl
  · obtain ⟨v, tn, rfl, k, q1, q2⟩ := h
    refine ⟨_, (pss_one (ps_if (pt_not (pt_val (pe_callB (r := rIsi K) call_isi (by rfl) T.isinstance (by decide +kernel) (pa_cons (pv 0) (pa_cons (pe_bltn (v := .ty "bool") (by rfl) T.bool (by decide +kernel) rfl) pa_nil)))))
  (pss_one (ps_raise rfl (takes_of rfl rfl rfl rfl) (Ex.pmkE T_NoFlag M_NoFlag hr (by decide) (pa_cons (pv 0) pa_nil))))
  pss_nil)), ?_⟩
    repeat walk_at "rd"
    refine isi k.ty k.b ?_
    repeat walk_at "rd"
    refine Rd.bool (fun c => ?_) (fun c => ?_)
    · have c' : isBl v = false := by simpa using c
      refine Ex.mk ?_
      repeat walk_at "rd"
      exact Ex.made (q2 c' H (Same.refl _))
    · have c' : isBl v = true := by simpa using c
      repeat walk_at "rd"
      exact q1 c'
abbrev sCheck_operation : Stmt := top 11
abbrev nCheck_operation : List Str := ["operation"]
theorem scCheck_operation : FnScope nCheck_operation ["operation"] (defScope sCheck_operation) := ⟨rfl, rfl, rfl, by decide +kernel, rfl, by decide +kernel, by decide +kernel⟩
def spCheck (K : PySem.W.Frag) (C : Addr) (ws : List Str) : Sp := fun vs H Q E => ∃ (v : V) (tn : String), vs = [v] ∧ Kd K H v tn ∧ (isIn v ws = true → Q .non H) ∧ (isIn v ws = false → Out C "value" v H E)
theorem ok_check_operation (T : Txt K mg) {C p_OPERATIONS : Addr} {ws : List Str} (g_OPERATIONS : mg "OPERATIONS" = some (.ref p_OPERATIONS)) (tM : ∀ H, SqT K H p_OPERATIONS (ws.map V.str)) (T_NoName : Ex.ErrC K mg "NoName" "value" C) (M_NoName : Ex.InitOk P w K mg base "value" C)
    (D : DefAt K mg "check_operation" sCheck_operation ["operation"]) (CIs_one_of : CalG P w K mg base 1 "is_one_of" (spOneOf K)) : Ex.CalX P w K mg base 3 "check_operation" (spCheck K C ws) := by
  refine Ex.byX D scCheck_operation (fun vs H Q E h => ?_) (fun f cd A hg outer s H vs Q E hr h => ?_)
  · obtain ⟨v, tn, rfl, _⟩ := h
    rfl
  · obtain ⟨v, tn, rfl, k, q1, q2⟩ := h
    refine ⟨_, (pss_one (ps_if (pt_not (pt_val (pe_cG CIs_one_of hg hr (by decide) (pa_cons (pv 0) (pa_cons (pe_glob (v := .ref p_OPERATIONS) (by rfl) g_OPERATIONS rfl) pa_nil)))))
  (pss_one (ps_raise rfl (takes_of rfl rfl rfl rfl) (Ex.pmkE T_NoName M_NoName hr (by decide) (pa_cons (pv 0) pa_nil))))
  pss_nil)), ?_⟩
    repeat walk_at "rd"
    refine ⟨v, p_OPERATIONS, tn, ws, rfl, k, tM H, ?_⟩
    repeat walk_at "rd"
    refine Rd.bool (fun c => ?_) (fun c => ?_)
    · have c' : isIn v ws = false := by simpa using c
      refine Ex.mk ?_
      repeat walk_at "rd"
      exact Ex.made (q2 c' H (Same.refl _))
    · have c' : isIn v ws = true := by simpa using c
      repeat walk_at "rd"
      exact q1 c'
/-! ### ways -/
/-- the texts among values -/
def strsOf : List V → List Str
  | [] => []
  | .str s :: l => s :: strsOf l
  | _ :: l => strsOf l
theorem strs_of_in {ws : List Str} : ∀ {xs : List V}, (xs.all fun x => isIn x ws) = true → xs = (strsOf xs).map V.str
  | [], _ => rfl
  | x :: l, h => by
    rw [List.all_cons, Bool.and_eq_true] at h
    obtain ⟨s, rfl, _⟩ := isIn_str h.1
    show _ = V.str s :: (strsOf l).map V.str
    rw [← strs_of_in h.2]
def waysOk (op : Str) (xs : List V) : Bool := (xs.all fun x => isIn x (menu op)) && decide ((strsOf xs).Nodup)
abbrev sAre_ways : Stmt := top 15
abbrev nAre_ways : List Str := ["operation", "value", "way"]
theorem scAre_ways : FnScope nAre_ways ["operation", "value"] (defScope sAre_ways) := ⟨rfl, rfl, rfl, by decide +kernel, rfl, by decide +kernel, by decide +kernel⟩
def MenusAt (K : PySem.W.Frag) (w : World) (p : Addr) (gM : Str → Addr) : Prop := ∀ o ∈ ops, KDct K w p o (.ref (gM o)) ∧ ∀ H, SqT K H (gM o) ((menu o).map V.str)
def spWays (K : PySem.W.Frag) : Sp := fun vs H Q _ => ∃ (op : Str) (v : V), vs = [.str op, v] ∧ op ∈ ops ∧
  ((∃ tn, TyX K H v (.type tn) ∧ kitB tn "tuple" = some false ∧ Q (.bl false) H) ∨ ∃ (p : Addr) (xs : List V), v = .ref p ∧ SqT K H p xs ∧ xs.length ≤ 1000 ∧ (∀ x ∈ xs, ∀ H', Same H H' → ∃ tn, Kd K H' x tn) ∧ ∀ H', Same H H' → Q (.bl (waysOk op xs)) H')
theorem ok_are_ways (T : Txt K mg) {p_MENUS : Addr} {gM : Str → Addr} (g_MENUS : mg "MENUS" = some (.ref p_MENUS)) (tM : MenusAt K w p_MENUS gM) (D : DefAt K mg "are_ways" sAre_ways ["operation", "value"])
    (CIs_one_of : CalG P w K mg base 1 "is_one_of" (spOneOf K)) : CalG P w K mg base 2 "are_ways" (spWays K) := by
  refine D.by scAre_ways (fun vs H Q E h => ?_) (fun f cd A hg outer s H vs Q E hr h => ?_)
  · obtain ⟨op, v, rfl, _⟩ := h
    rfl
  · obtain ⟨op, v, rfl, ho, h⟩ := h
    refine ⟨_, (pss_cons (ps_if (pt_not (pt_val (pe_callB (r := rIsi K) call_isi (by rfl) T.isinstance (by decide +kernel) (pa_cons (pv 1) (pa_cons (pe_bltn (v := .ty "tuple") (by rfl) T.tuple (by decide +kernel) rfl) pa_nil)))))
  (pss_one (ps_ret pe_bl))
  pss_nil)
  (pss_cons (ps_if (pt_not (pt_val (pe_callB (r := rAll K) (cr_all rfl) (by rfl) T.all (by decide +kernel) (pa_cons (pe_lc (wi := iTup K _) (own := [("way", 2)]) (g := gName 2) (by rfl) scAre_ways.nd (pi_tup (pv 1)) (blkOk_by (N := nAre_ways) (sc := defScope sAre_ways) (by decide +kernel)) (fun _ _ _ _ _ => pg_name (i := 2) scAre_ways.nd rfl (Or.inl rfl)) (fun _ _ _ _ _ => pts_nil) (fun _ _ _ _ _ => (pe_cG CIs_one_of hg hr (by decide) (pa_cons (pv 2) (pa_cons (pe_ix (r := rIxD K w) ix_kdict (pe_glob (v := .ref p_MENUS) (by rfl) g_MENUS rfl) (pv 0) (fun _ _ => rfl)) pa_nil))))) pa_nil))))
  (pss_one (ps_ret pe_bl))
  pss_nil)
  (pss_one (ps_ret (pe_cmpR op_eq (Ss.pe_lenSetT rfl T.len T.set (pv 1)) (pe_callB (r := Rd.rLenK K) Rd.callLen (by rfl) T.len PySem.boot_len (pa_cons (pv 1) pa_nil)) (nomark _)))))), ?_⟩
    repeat walk_at "rd"
    rcases h with ⟨tn, ty, kt, q⟩ | ⟨p, xs, rfl, hp, hl, hk, q⟩
    · refine isi ty kt ?_
      repeat walk_at "rd"
      exact Rd.tt_ (by repeat walk_at "rd"; exact q)
    · refine isi (tup_ty hp) (by show kitB "tuple" "tuple" = some true; decide +kernel) ?_
      repeat walk_at "rd"
      refine Rd.ff_ ?_
      repeat walk_at "rd"
      refine Rd.lcT (tl := tVar 1) (a := p) (H := H) (xs := xs) (bs := xs) (fun b x _ => x = b) (fun (b : Bool) y _ => y = .bl b) (fun _ => true) (fun x => isIn x (menu op)) (fun R k => Rd.var rfl k) hp (fun _ _ _ _ _ h => h) (fun _ _ _ _ _ h => h) ?_ (by omega) (fun _ => rfl) ?_ ?_ ?_
      · clear hl hk q hp
        induction xs with
        | nil => exact .nil
        | cons a l ih => exact .cons rfl ih
      · intro b x H1 R _ _ _ _ k
        repeat walk_at "rd"
        exact k _ (Same.refl _)
      · rintro b x H1 R hm _ _ rfl s1 k
        repeat walk_at "rd"
        refine ⟨p_MENUS, op, _, rfl, rfl, (tM op ho).1, ?_⟩
        obtain ⟨tn, kd⟩ := hk x hm H1 s1
        refine ⟨x, gM op, tn, menu op, rfl, kd, (tM op ho).2 H1, ?_⟩
        exact k _ H1 (Same.refl _) (Rd.off_any rfl)
      · intro Dd ys H1 hD s1 hd pr
        have e : ys = (xs.map fun x => isIn x (menu op)).map V.bl := by
          rw [List.filter_eq_self.mpr (fun _ _ => rfl)] at pr
          exact Rd.pair_map pr
        rw [e] at hd
        repeat walk_at "rd"
        refine Rd.all_ (SqL.of hd) ?_
        repeat walk_at "rd"
        have ea : (xs.map fun x => isIn x (menu op)).all id = xs.all fun x => isIn x (menu op) := by rw [List.all_map]; rfl
        rw [ea]
        refine Rd.bool (fun c => ?_) (fun c => ?_)
        · have c' : (xs.all fun x => isIn x (menu op)) = false := by simpa using c
          repeat walk_at "rd"
          have := q _ s1
          rw [waysOk, c', Bool.false_and] at this
          exact this
        · have c' : (xs.all fun x => isIn x (menu op)) = true := by simpa using c
          repeat walk_at "rd"
          have ex := strs_of_in c'
          have hp1 := sqT_same s1 hp
          have hp2 : SqT K H1 p ((strsOf xs).map V.str) := by rw [← ex]; exact hp1
          have hz : (strsOf xs).length = xs.length := by
            have := congrArg List.length ex
            rw [List.length_map] at this
            exact this.symm
          refine Rd.var (n := 1) rfl ⟨p, strsOf xs, rfl, hp2, by omega, ?_⟩
          repeat walk_at "rd"
          refine Rd.lenT hp1 ?_
          repeat walk_at "rd"
          have := q _ s1
          rw [waysOk, c', Bool.true_and] at this
          have e2 : decide (V.int ((Ss.dcN (strsOf xs) (strsOf xs).length : Nat) : Int) = V.int ((xs.length : Nat) : Int)) = decide ((strsOf xs).Nodup) := by
            rw [Bool.eq_iff_iff, decide_eq_true_iff, decide_eq_true_iff, ← Ss.dc_iff, hz]
            constructor
            · intro z
              have := V.int.inj z
              omega
            · intro z
              rw [z]
          rw [e2]
          exact this
end
end Ab
namespace Rd
open PySem.Spec PyProof.Rows
section
variable {K : PySem.W.Frag} {σ : L2.St} {H : Hp} {Q : VK} {D : Ends} {n : Nat} {a C dx : Addr} {fs : List (Str × V)} {f : Str} {v : V} {ta tb tv td ty : TE} {t : TA} {sp : Sp} {E : XK}
theorem fldV (h : σ[n]? = some (some (.ref a))) (e : H a = some (.ins C dx fs)) (c : L2.Cls K C) (na : NoAttr K C f) (l : fs.lookup f = some v) (k : Q v H) : tFld K (tVar n) f σ H Q := ⟨.ref a, h, a, C, dx, fs, v, rfl, e, c, na, l, k⟩
theorem sfld (k : tv σ H fun y H1 => ta σ H1 fun x H2 => ∃ a C dx fs, x = .ref a ∧ H2 a = some (.ins C dx fs) ∧ L2.Cls K C ∧ NoAttr K C f ∧ fs.length < 1000 ∧ D.nx σ (upd H2 a (.ins C dx (putF f y fs)))) : sFld K ta tv f D σ H := k
theorem dget (k : td σ H fun x H1 => ty σ H1 fun y H2 => ∃ a v, x = .ref a ∧ DGet H2 a y (some v) ∧ Q v H2) : tDGet td ty σ H Q := k
theorem methR {m : Str} (k : ta σ H fun x H1 => ∃ a dx fs, x = .ref a ∧ H1 a = some (.ins C dx fs) ∧ fs.lookup m = none ∧ t σ H1 fun vs H2 => sp (x :: (vs ++ [])) H2 Q E) : tMeth C m sp [] E ta t σ H Q := k
theorem propR (k : ta σ H fun x H1 => ∃ a dx fs, x = .ref a ∧ H1 a = some (.ins C dx fs) ∧ sp [.ref a] H1 Q E) : tProp C sp [] E ta σ H Q := k
theorem statR (k : ta σ H fun x H1 => x = .ref C ∧ sp [] H1 Q E) : Ob.tStat C sp E ta σ H Q := k
theorem getR (k : ta σ H fun x H1 => tb σ H1 fun y H2 => ∃ a dx fs, x = .ref a ∧ H2 a = some (.ins C dx fs) ∧ sp [.ref a, y] H2 Q E) : Ow.tGetO C sp E ta tb σ H Q := k
theorem makeR (k : t σ H fun vs H1 => ∀ x dx, H1 x = none → H1 dx = none → dx ≠ x → sp (.ref x :: (vs ++ [])) (upd (upd H1 dx (.own x)) x (.ins C dx [])) (fun v H2 => v = .non ∧ Q (.ref x) H2) E) : tMake C sp [] E t σ H Q := k
end
end Rd
namespace Ab
open PySem.Spec PyProof.Rows
local macro_rules | `(tactic| walk_at "rd") => `(tactic| (with_reducible first | refine Rd.sfld ?_ | refine Rd.dget ?_ | refine Rd.methR ?_ | refine Rd.propR ?_ | refine Rd.statR ?_ | refine Rd.getR ?_))
theorem get_tab {H : Hp} {a : Addr} {l : List Str} {f : Str → V} (h : H a = some (.dK (tab l f))) {o : Str} (m : o ∈ l) : DGet H a (.str o) (some (f o)) := by
  have := DGet.k (k := .inr o) h
  rw [val_tab l f m] at this
  exact this
/-- a dict comprehension over a tuple of texts that are its keys, the values read off -/
theorem dcP {K : PySem.W.Frag} {σ : L2.St} {H : Hp} {Q : VK} {tl tk tv : TE} {vs : List Nat} {j : Nat} {a : Addr} {l : List Str} {F : Str → V} (nd : l.Nodup) (z : l.length ≤ 1000) (htl : ∀ R : V → Hp → Prop, R (.ref a) H → tl σ H R) (ht : ∀ H, SqT K H a (l.map V.str))
    (hw : ∀ x, wipe ((wipe σ vs).set j (some x)) vs = wipe σ vs) (key : ∀ o H1 (R : VK), R (.str o) H1 → tk ((wipe σ vs).set j (some (.str o))) H1 R)
    (val : ∀ o, o ∈ l → ∀ H1 (R : VK), R (F o) H1 → tv ((wipe σ vs).set j (some (.str o))) H1 R) (fin : ∀ D, H D = none → Q (.ref D) (upd H D (.dK (tab l F)))) : tDc (iTup K tl) (gName j) tYes tk tv vs σ H Q := by
  refine htl _ ⟨a, rfl, ⟨_, ht H⟩, fun D hD => ?_⟩
  refine dc_tup (K := K) (a := a) (xs := l.map V.str) (fun i H1 => H1 = upd H D (.dK (tab (l.take i) F))) (by rw [List.take_zero]; rfl) (fun i H1 _ _ => ht H1) ?_ ?_
  · rintro i x H1 hx rfl
    obtain ⟨hi, e⟩ := List.getElem?_eq_some_iff.mp hx
    rw [List.length_map] at hi
    rw [List.getElem_map] at e
    subst e
    refine ⟨hw _, ?_⟩
    refine Rd.yes (Rd.tt_ ?_)
    refine key _ _ _ (val _ (List.getElem_mem hi) _ _ ⟨tab (l.take i) F, .inr l[i], rfl, upd_same, ?_, ?_⟩)
    · rw [tab_len, List.length_take]
      exact Rd.szl (by omega)
    · have nm : l[i] ∉ l.take i := fun m => by
        obtain ⟨k, hk, e⟩ := List.mem_iff_getElem.mp m
        rw [List.getElem_take] at e
        rw [List.length_take] at hk
        have := (List.getElem_inj nd).mp e
        omega
      show upd (upd H D _) D _ = _
      rw [upd_upd, putK_new _ _ _ nm, tab_snoc, List.take_add_one, List.getElem?_eq_getElem hi]
      rfl
  · rintro H1 rfl
    have := fin D hD
    rw [List.length_map, List.take_length]
    exact this
theorem ops_nd : ops.Nodup := by decide +kernel
theorem flags_nd : flagsW.Nodup := by decide +kernel
/-! ### a book in the heap -/
structure BF (K : PySem.W.Frag) (mg : Str → Option Value) (C : Addr) : Prop extends Ob.CF K mg "Book" C where
  n1 : NoAttr K C "_ways"
  n2 : NoAttr K C "_flags"
structure Bk (K : PySem.W.Frag) (C : Addr) (H : Hp) (b w f : Addr) (g : Str → Addr) (m : Str → List Str) (fl : Str → Bool) : Prop where
  ins : ∃ dx, H b = some (.ins C dx [("_ways", .ref w), ("_flags", .ref f)])
  wd : H w = some (.dK (tab ops fun o => .ref (g o)))
  fd : H f = some (.dK (tab flagsW fun x => .bl (fl x)))
  tp : ∀ o ∈ ops, SqT K H (g o) ((m o).map V.str)
  ne : w ≠ f
theorem Bk.mono {K : PySem.W.Frag} {C : Addr} {H H' : Hp} {b w f : Addr} {g : Str → Addr} {m : Str → List Str} {fl : Str → Bool} (k : Bk K C H b w f g m fl) (s : Same H H') : Bk K C H' b w f g m fl :=
  ⟨let ⟨dx, h⟩ := k.ins; ⟨dx, s _ _ h⟩, s _ _ k.wd, s _ _ k.fd, fun o ho => sqT_same s (k.tp o ho), k.ne⟩
def NewBk (K : PySem.W.Frag) (C : Addr) (g : Str → Addr) (m : Str → List Str) (fl : Str → Bool) (Q : VK) (H : Hp) : Prop := ∀ b w f H', Same H H' → H b = none → H w = none → H f = none → Bk K C H' b w f g m fl → Q (.ref b) H'
/-- the tables that the top has written -/
structure Tb (K : PySem.W.Frag) (w : World) (mg : Str → Option Value) (pO pM pF : Addr) (gM : Str → Addr) : Prop where
  o : mg "OPERATIONS" = some (.ref pO)
  m : mg "MENUS" = some (.ref pM)
  f : mg "FLAGS" = some (.ref pF)
  to : ∀ H, SqT K H pO (ops.map V.str)
  tf : ∀ H, SqT K H pF (flagsW.map V.str)
  tm : MenusAt K w pM gM
section
variable {P : Program} {w : World} {K : PySem.W.Frag} {mg : Str → Option Value} {base : Heap}
abbrev sBook___init__ : Stmt := meth 16 0
abbrev nBook___init__ : List Str := ["self", "operation", "word"]
theorem scBook___init__ : FnScope nBook___init__ ["self"] (defScope sBook___init__) := ⟨rfl, rfl, rfl, by decide +kernel, rfl, by decide +kernel, by decide +kernel⟩
def spInit (C : Addr) (gM : Str → Addr) : Sp := fun vs H Q _ => ∃ (b dx : Addr), vs = [.ref b] ∧ H b = some (.ins C dx []) ∧ ∀ w f, H w = none → upd (upd H w (.dK (tab ops fun o => .ref (gM o)))) b (.ins C dx [("_ways", .ref w)]) f = none →
  Q .non (upd (upd (upd (upd H w (.dK (tab ops fun o => .ref (gM o)))) b (.ins C dx [("_ways", .ref w)])) f (.dK (tab flagsW fun _ => .bl true))) b (.ins C dx [("_ways", .ref w), ("_flags", .ref f)]))
theorem ok_binit (T : Txt K mg) {C p_OPERATIONS p_MENUS p_FLAGS : Addr} {gM : Str → Addr} (B : BF K mg C) (t : Tb K w mg p_OPERATIONS p_MENUS p_FLAGS gM) {f : Addr} {fd : FuncData} (D : Ob.MethAt K "__init__" "Book.__init__" sBook___init__ ["self"] f fd) :
    FnG P w K mg base CX0 1 f fd ["self"] (spInit C gM) := by
  have g_OPERATIONS := t.o
  have g_MENUS := t.m
  have g_FLAGS := t.f
  refine Ob.byG D scBook___init__ (fun vs H Q E h => ?_) (fun cd A hg outer s H vs Q E hr h => ?_)
  · obtain ⟨b, dx, rfl, _⟩ := h
    rfl
  · obtain ⟨b, dx, rfl, hb, q⟩ := h
    refine ⟨_, (pss_cons (ps_fld (pv 0) (pe_dc (wi := iTup K _) (own := [("operation", 1)]) (g := gName 1) (by rfl) scBook___init__.nd (pi_tup (pe_glob (v := .ref p_OPERATIONS) (by rfl) g_OPERATIONS rfl)) (blkOk_by (N := nBook___init__) (sc := defScope sBook___init__) (by decide +kernel)) (fun _ _ _ _ _ => pg_name (i := 1) scBook___init__.nd rfl (Or.inl rfl)) (fun _ _ _ _ _ => pts_nil) (fun _ _ _ _ _ => (pv 1)) (fun _ _ _ _ _ => (pe_ix (r := rIxD K w) ix_kdict (pe_glob (v := .ref p_MENUS) (by rfl) g_MENUS rfl) (pv 1) (fun _ _ => rfl)))) (by rfl))
  (pss_one (ps_fld (pv 0) (pe_dc (wi := iTup K _) (own := [("word", 2)]) (g := gName 2) (by rfl) scBook___init__.nd (pi_tup (pe_glob (v := .ref p_FLAGS) (by rfl) g_FLAGS rfl)) (blkOk_by (N := nBook___init__) (sc := defScope sBook___init__) (by decide +kernel)) (fun _ _ _ _ _ => pg_name (i := 2) scBook___init__.nd rfl (Or.inl rfl)) (fun _ _ _ _ _ => pts_nil) (fun _ _ _ _ _ => (pv 2)) (fun _ _ _ _ _ => pe_bl)) (by rfl)))), ?_⟩
    repeat walk_at "rd"
    refine dcP (a := p_OPERATIONS) (l := ops) (F := fun o => .ref (gM o)) ops_nd (by decide) (fun R k => k) t.to (fun _ => rfl) (fun o H1 R k => Rd.var rfl k) (fun o ho H1 R k => ?_) (fun w0 hw => ?_)
    · repeat walk_at "rd"
      exact ⟨p_MENUS, o, _, rfl, rfl, (t.tm o ho).1, k⟩
    have b0 : b ≠ w0 := fun e => by rw [e, hw] at hb; cases hb
    repeat walk_at "rd"
    refine ⟨b, C, dx, [], rfl, by rw [upd_ne b0]; exact hb, B.cl, B.n1, by decide, ?_⟩
    repeat walk_at "rd"
    refine dcP (a := p_FLAGS) (l := flagsW) (F := fun _ => .bl true) flags_nd (by decide) (fun R k => k) t.tf (fun _ => rfl) (fun o H1 R k => Rd.var rfl k) (fun o ho H1 R k => k) (fun f0 hf => ?_)
    have e1 : putF "_ways" (.ref w0) [] = [(("_ways" : Str), V.ref w0)] := rfl
    rw [e1] at hf
    have b1 : b ≠ f0 := fun e => by rw [← e, upd_same] at hf; cases hf
    repeat walk_at "rd"
    refine ⟨b, C, dx, [("_ways", .ref w0)], rfl, by rw [upd_ne b1, e1, upd_same], B.cl, B.n2, by simp, ?_⟩
    exact q w0 f0 hw hf
/-- Book() -/
theorem mkBk {C : Addr} {gM : Str → Addr} {σ : L2.St} {H : Hp} {Q : VK} (t : ∀ o ∈ ops, ∀ H, SqT K H (gM o) ((menu o).map V.str)) (h : NewBk K C gM menu (fun _ => true) Q H) : tMake C (spInit C gM) [] E0 tNil σ H Q := by
  refine Rd.makeR (Rd.nil fun b dx hb hdx nb => ⟨b, dx, rfl, upd_same, fun w0 f0 hw hf => ⟨rfl, ?_⟩⟩)
  have wb : w0 ≠ b := fun e => by subst e; rw [upd_same] at hw; cases hw
  rw [upd_ne wb] at hw
  have wd : w0 ≠ dx := fun e => by subst e; rw [upd_same] at hw; cases hw
  rw [upd_ne wd] at hw
  have fb : f0 ≠ b := fun e => by subst e; rw [upd_same] at hf; cases hf
  rw [upd_ne fb] at hf
  have fw : f0 ≠ w0 := fun e => by subst e; rw [upd_same] at hf; cases hf
  rw [upd_ne fw, upd_ne fb] at hf
  have fdx : f0 ≠ dx := fun e => by subst e; rw [upd_same] at hf; cases hf
  rw [upd_ne fdx] at hf
  refine h b w0 f0 _ (fun a u e => ?_) hb hw hf ⟨⟨dx, upd_same⟩, ?_, ?_, fun o ho => t o ho _, fun e => fw e.symm⟩
  · rw [upd_ne (ne_of_none e hb), upd_ne (ne_of_none e hf), upd_ne (ne_of_none e hb), upd_ne (ne_of_none e hw), upd_ne (ne_of_none e hb), upd_ne (ne_of_none e hdx)]
    exact e
  · rw [upd_ne wb, upd_ne (fun e => fw e.symm), upd_ne wb, upd_same]
  · rw [upd_ne fb, upd_same]
end
end Ab
namespace Ab
open PySem.Spec PyProof.Rows
local macro_rules | `(tactic| walk_at "rd") => `(tactic| (with_reducible first | refine Rd.sfld ?_ | refine Rd.dget ?_ | refine Rd.methR ?_ | refine Rd.propR ?_ | refine Rd.statR ?_ | refine Rd.getR ?_))
/-- the words that ways are made of -/
def wayW : List Str := ["truth", "length", "walk", "item", "back", "count", "hash", "call", "has", "own", "turned", "like", "turned_like", "grow", "plus"]
theorem menu_in : ∀ o ∈ ops, ∀ x ∈ menu o, x ∈ wayW := by decide +kernel
theorem wayW_W : ∀ x ∈ wayW, W6.W 100 x := by
  have h : ∀ x ∈ wayW, x.length ≤ 100 ∧ (TL.tl x).all (fun c => decide (c < 1000)) = true := by decide +kernel
  intro x hx
  exact ⟨(h x hx).1, fun c hc => of_decide_eq_true (List.all_eq_true.mp (h x hx).2 c hc)⟩
def dT (r : List Str) : PyData := .tuple (r.map PyData.str)
theorem shaped_dT {r : List Str} (h : ∀ w ∈ r, w ∈ wayW) : SeqAt.shaped (dT r) = true := by
  have := Dt.dep_strs r
  simp [SeqAt.shaped, dT, PyData.canLay0, Dt.lay_strs (fun w hw => wayW_W w (h w hw)), PyData.depth]
  omega
theorem eqv_dT (a b : List Str) : PyData.eqv (dT a) (dT b) = decide (a = b) := by
  show PyData.eqv (.tuple _) (.tuple _) = _
  rw [PyData.eqv, Dt.eqv_strs]
theorem hit_tab {F : V → V → Bool → Prop} {l0 : List Str} {f f' : Str → V} {e : Str → Bool} : ∀ {l : List Str}, (∀ o ∈ l, o ∈ l0 ∧ F (f o) (f' o) (e o)) → Ob.HitF F (tab l0 f') (tab l f) (l.all e)
  | [], _ => .nil
  | o :: l, h => by
    obtain ⟨h1, h2⟩ := h o List.mem_cons_self
    exact .hit (val_tab l0 f' h1) h2 (hit_tab fun x hx => h x (List.mem_cons_of_mem _ hx))
/-- ways out of the menus -/
def OkM (m : Str → List Str) : Prop := ∀ o ∈ ops, ∀ x ∈ m o, x ∈ wayW
def eqWays (m m' : Str → List Str) : Bool := ops.all fun o => decide (m o = m' o)
def eqFlags (fl fl' : Str → Bool) : Bool := flagsW.all fun x => decide (fl x = fl' x)
theorem eq_ways {K : PySem.W.Frag} {H : Hp} {w w' : Addr} {g g' : Str → Addr} {m m' : Str → List Str} (hw : H w = some (.dK (tab ops fun o => .ref (g o)))) (hw' : H w' = some (.dK (tab ops fun o => .ref (g' o)))) (t : ∀ o ∈ ops, SqT K H (g o) ((m o).map V.str)) (t' : ∀ o ∈ ops, SqT K H (g' o) ((m' o).map V.str))
    (k : OkM m) (k' : OkM m') : ∃ ks ls r, H w = some (.dK ks) ∧ H w' = some (.dK ls) ∧ Ob.HitF (Ob.EqB K H 2) ls ks r ∧ (ks.length == ls.length && r) = eqWays m m' := by
  refine ⟨_, _, eqWays m m', hw, hw', hit_tab fun o ho => ⟨ho, .inl ⟨dT (m o), dT (m' o), .tup (t o ho) (Dt.dp_strs _), .tup (t' o ho) (Dt.dp_strs _), shaped_dT (k o ho), shaped_dT (k' o ho), (eqv_dT _ _).symm⟩⟩, ?_⟩
  rw [tab_len, tab_len, beq_self_eq_true, Bool.true_and]
theorem eq_flags {K : PySem.W.Frag} {H : Hp} {f f' : Addr} {fl fl' : Str → Bool} (hw : H f = some (.dK (tab flagsW fun x => .bl (fl x)))) (hw' : H f' = some (.dK (tab flagsW fun x => .bl (fl' x)))) :
    ∃ ks ls r, H f = some (.dK ks) ∧ H f' = some (.dK ls) ∧ Ob.HitF (Ob.EqB K H 2) ls ks r ∧ (ks.length == ls.length && r) = eqFlags fl fl' := by
  refine ⟨_, _, eqFlags fl fl', hw, hw', hit_tab fun o ho => ⟨ho, .inl ⟨.bool (fl o), .bool (fl' o), .bl _, .bl _, rfl, rfl, ?_⟩⟩, ?_⟩
  · show decide (fl o = fl' o) = PyData.eqv (.bool (fl o)) (.bool (fl' o))
    cases fl o <;> cases fl' o <;> rfl
  · rw [tab_len, tab_len, beq_self_eq_true, Bool.true_and]
def gput (g : Str → Addr) (o : Str) (p : Addr) : Str → Addr := fun x => if x = o then p else g x
theorem gput_tab (g : Str → Addr) (o : Str) (p : Addr) : put (fun o => V.ref (g o)) o (.ref p) = fun x => V.ref (gput g o p x) := by
  funext x
  unfold put gput
  split <;> rfl
def fput (fl : Str → Bool) (o : Str) (c : Bool) : Str → Bool := fun x => if x = o then c else fl x
theorem fput_tab (fl : Str → Bool) (o : Str) (c : Bool) : put (fun x => V.bl (fl x)) o (.bl c) = fun x => V.bl (fput fl o c x) := by
  funext x
  unfold put fput
  split <;> rfl
section
variable {P : Program} {w : World} {K : PySem.W.Frag} {mg : Str → Option Value} {base : Heap}
abbrev sBook___getitem__ : Stmt := meth 16 3
abbrev nBook___getitem__ : List Str := ["self", "operation"]
theorem scBook___getitem__ : FnScope nBook___getitem__ ["self", "operation"] (defScope sBook___getitem__) := ⟨rfl, rfl, rfl, by decide +kernel, rfl, by decide +kernel, by decide +kernel⟩
def spGet (K : PySem.W.Frag) (C CN : Addr) : Sp := fun vs H Q E => ∃ (b w f : Addr) (g : Str → Addr) (m : Str → List Str) (fl : Str → Bool) (v : V) (tn : String), vs = [.ref b, v] ∧ Bk K C H b w f g m fl ∧ Kd K H v tn ∧ (∀ o, v = .str o → o ∈ ops → Q (.ref (g o)) H) ∧ (isIn v ops = false → Out CN "value" v H E)
theorem ok_get {C CN : Addr} (B : BF K mg C) (CCheck_operation : Ex.CalX P w K mg base 3 "check_operation" (spCheck K CN ops)) {f : Addr} {fd : FuncData} (D : Ob.MethAt K "__getitem__" "Book.__getitem__" sBook___getitem__ ["self", "operation"] f fd) :
    FnG P w K mg base (L2.CX P w) 4 f fd ["self", "operation"] (spGet K C CN) := by
  refine Ob.byGX D scBook___getitem__ (fun vs H Q E h => ?_) (fun cd A hg outer s H vs Q E hr h => ?_)
  · obtain ⟨_, _, _, _, _, _, _, _, rfl, _⟩ := h
    rfl
  · obtain ⟨b, w0, f0, g, m, fl, v, tn, rfl, bk, kd, q1, q2⟩ := h
    obtain ⟨dx, hb⟩ := bk.ins
    refine ⟨_, (pss_cons (ps_expr (Ex.pe_x CCheck_operation hg hr (by decide) (takes_of rfl rfl rfl rfl) (pa_cons (pv 1) pa_nil)))
  (pss_one (ps_ret (pe_dget (one_ hr.units) (pe_fld (pv 0) (by rfl)) (pv 1) (fun _ _ => rfl))))), ?_⟩
    repeat walk_at "rd"
    refine ⟨v, tn, rfl, kd, fun c => ?_, q2⟩
    obtain ⟨o, rfl, ho⟩ := isIn_str c
    repeat walk_at "rd"
    refine Rd.fldV rfl hb B.cl B.n1 rfl ?_
    repeat walk_at "rd"
    exact ⟨w0, _, rfl, get_tab bk.wd ho, q1 o rfl ho⟩
abbrev sBook___setitem__ : Stmt := meth 16 4
abbrev nBook___setitem__ : List Str := ["self", "operation", "ways"]
theorem scBook___setitem__ : FnScope nBook___setitem__ ["self", "operation", "ways"] (defScope sBook___setitem__) := ⟨rfl, rfl, rfl, by decide +kernel, rfl, by decide +kernel, by decide +kernel⟩
def spSet (K : PySem.W.Frag) (C CN CW : Addr) : Sp := fun vs H Q E => ∃ (b w f : Addr) (g : Str → Addr) (m : Str → List Str) (fl : Str → Bool) (v x : V) (tn : String), vs = [.ref b, v, x] ∧ Bk K C H b w f g m fl ∧ Kd K H v tn ∧ (isIn v ops = false → Out CN "value" v H E) ∧
  ∀ o, v = .str o → o ∈ ops → (∃ tx, TyX K H x (.type tx) ∧ kitB tx "tuple" = some false ∧ Out CW "operation" v H E) ∨
    ∃ (p : Addr) (xs : List V), x = .ref p ∧ SqT K H p xs ∧ xs.length ≤ 1000 ∧ (∀ y ∈ xs, ∀ H', Same H H' → ∃ tn, Kd K H' y tn) ∧ (waysOk o xs = false → Out CW "operation" v H E) ∧ (waysOk o xs = true → ∀ H', Same H H' → Q .non (upd H' w (.dK (tab ops fun y => .ref (gput g o p y)))))
theorem ok_set (T : Txt K mg) {C CN CW : Addr} (B : BF K mg C) (T_NoWays : Ex.ErrC K mg "NoWays" "operation" CW) (M_NoWays : Ex.InitOk P w K mg base "operation" CW) (CCheck_operation : Ex.CalX P w K mg base 3 "check_operation" (spCheck K CN ops)) (CAre_ways : CalG P w K mg base 2 "are_ways" (spWays K)) {f : Addr} {fd : FuncData}
    (D : Ob.MethAt K "__setitem__" "Book.__setitem__" sBook___setitem__ ["self", "operation", "ways"] f fd) : FnG P w K mg base (L2.CX P w) 4 f fd ["self", "operation", "ways"] (spSet K C CN CW) := by
  refine Ob.byGX D scBook___setitem__ (fun vs H Q E h => ?_) (fun cd A hg outer s H vs Q E hr h => ?_)
  · obtain ⟨_, _, _, _, _, _, _, _, _, rfl, _⟩ := h
    rfl
  · obtain ⟨b, w0, f0, g, m, fl, v, x, tn, rfl, bk, kd, q1, q2⟩ := h
    obtain ⟨dx, hb⟩ := bk.ins
    refine ⟨_, (pss_cons (ps_expr (Ex.pe_x CCheck_operation hg hr (by decide) (takes_of rfl rfl rfl rfl) (pa_cons (pv 1) pa_nil)))
  (pss_cons (ps_if (pt_not (pt_val (pe_cG CAre_ways hg hr (by decide) (pa_cons (pv 1) (pa_cons (pv 2) pa_nil)))))
  (pss_one (ps_raise rfl (takes_of rfl rfl rfl rfl) (Ex.pmkE T_NoWays M_NoWays hr (by decide) (pa_cons (pv 1) pa_nil))))
  pss_nil)
  (pss_one (ps_asg (pe_callTy call_tuple_of (by rfl) T.tuple (by decide +kernel) (pa_cons (pv 2) pa_nil)) (pg_sub (pe_fld (pv 0) (by rfl)) (pv 1) (set_dict (one_ hr.units))))))), ?_⟩
    repeat walk_at "rd"
    refine ⟨v, tn, rfl, kd, fun c => ?_, q1⟩
    obtain ⟨o, rfl, ho⟩ := isIn_str c
    repeat walk_at "rd"
    have bad : ∀ H1, Same H H1 → Out CW "operation" (.str o) H E → _ := fun H1 s1 q => Ex.made (Q := fun cls d H => E cls d H) (q.at s1 H1 (Same.refl _))
    rcases q2 o rfl ho with ⟨tx, ty, kt, q⟩ | ⟨p, xs, rfl, hp, hl, hk, qb, qg⟩
    · refine ⟨o, x, rfl, ho, .inl ⟨tx, ty, kt, ?_⟩⟩
      repeat walk_at "rd"
      refine Rd.tt_ (Ex.mk ?_)
      repeat walk_at "rd"
      exact bad H (Same.refl _) q
    · refine ⟨o, .ref p, rfl, ho, .inr ⟨p, xs, rfl, hp, hl, hk, fun H1 s1 => ?_⟩⟩
      repeat walk_at "rd"
      refine Rd.bool (fun c => ?_) (fun c => ?_)
      · have c' : waysOk o xs = false := by simpa using c
        refine Ex.mk ?_
        repeat walk_at "rd"
        exact bad H1 s1 (qb c')
      · have c' : waysOk o xs = true := by simpa using c
        repeat walk_at "rd"
        refine ⟨p, xs, rfl, .inr ⟨sqT_same s1 hp, ?_⟩⟩
        repeat walk_at "rd"
        refine Rd.fldV rfl (s1 _ _ hb) B.cl B.n1 rfl ?_
        repeat walk_at "rd"
        refine ⟨w0, _, rfl, .inl ⟨_, .inr o, s1 _ _ bk.wd, rfl, ?_, rfl⟩, ?_⟩
        · rw [tab_len]; exact Rd.szl (by decide)
        · rw [put_tab _ _ _ ho, gput_tab]
          exact qg c' H1 s1
def spFl (K : PySem.W.Frag) (C : Addr) (x : Str) : Sp := fun vs H Q _ => ∃ (b w f : Addr) (g : Str → Addr) (m : Str → List Str) (fl : Str → Bool), vs = [.ref b] ∧ Bk K C H b w f g m fl ∧ Q (.bl (fl x)) H
abbrev sBook_bars_hash : Stmt := meth 16 5
abbrev nBook_bars_hash : List Str := ["self"]
theorem scBook_bars_hash : FnScope nBook_bars_hash ["self"] (defScope sBook_bars_hash) := ⟨rfl, rfl, rfl, by decide +kernel, rfl, by decide +kernel, by decide +kernel⟩
theorem ok_bars {C : Addr} (B : BF K mg C) {f : Addr} {fd : FuncData} (D : Ob.MethAt K "bars_hash" "Book.bars_hash" sBook_bars_hash ["self"] f fd) : FnG P w K mg base CX0 1 f fd ["self"] (spFl K C "bars_hash") := by
  refine Ob.byG D scBook_bars_hash (fun vs H Q E h => ?_) (fun cd A hg outer s H vs Q E hr h => ?_)
  · obtain ⟨_, _, _, _, _, _, rfl, _⟩ := h
    rfl
  · obtain ⟨b, w0, f0, g, m, fl, rfl, bk, q⟩ := h
    obtain ⟨dx, hb⟩ := bk.ins
    refine ⟨_, (pss_one (ps_ret (pe_dget (one_ hr.units) (pe_fld (pv 0) (by rfl)) pe_str (fun _ _ => rfl)))), ?_⟩
    repeat walk_at "rd"
    refine Rd.fldV rfl hb B.cl B.n2 rfl ?_
    repeat walk_at "rd"
    exact ⟨f0, _, rfl, get_tab bk.fd (by decide), q⟩
abbrev sBook_ends_same : Stmt := meth 16 7
abbrev nBook_ends_same : List Str := ["self"]
theorem scBook_ends_same : FnScope nBook_ends_same ["self"] (defScope sBook_ends_same) := ⟨rfl, rfl, rfl, by decide +kernel, rfl, by decide +kernel, by decide +kernel⟩
theorem ok_same {C : Addr} (B : BF K mg C) {f : Addr} {fd : FuncData} (D : Ob.MethAt K "ends_same" "Book.ends_same" sBook_ends_same ["self"] f fd) : FnG P w K mg base CX0 1 f fd ["self"] (spFl K C "ends_same") := by
  refine Ob.byG D scBook_ends_same (fun vs H Q E h => ?_) (fun cd A hg outer s H vs Q E hr h => ?_)
  · obtain ⟨_, _, _, _, _, _, rfl, _⟩ := h
    rfl
  · obtain ⟨b, w0, f0, g, m, fl, rfl, bk, q⟩ := h
    obtain ⟨dx, hb⟩ := bk.ins
    refine ⟨_, (pss_one (ps_ret (pe_dget (one_ hr.units) (pe_fld (pv 0) (by rfl)) pe_str (fun _ _ => rfl)))), ?_⟩
    repeat walk_at "rd"
    refine Rd.fldV rfl hb B.cl B.n2 rfl ?_
    repeat walk_at "rd"
    exact ⟨f0, _, rfl, get_tab bk.fd (by decide), q⟩
abbrev sBook_ends_true : Stmt := meth 16 9
abbrev nBook_ends_true : List Str := ["self"]
theorem scBook_ends_true : FnScope nBook_ends_true ["self"] (defScope sBook_ends_true) := ⟨rfl, rfl, rfl, by decide +kernel, rfl, by decide +kernel, by decide +kernel⟩
theorem ok_true {C : Addr} (B : BF K mg C) {f : Addr} {fd : FuncData} (D : Ob.MethAt K "ends_true" "Book.ends_true" sBook_ends_true ["self"] f fd) : FnG P w K mg base CX0 1 f fd ["self"] (spFl K C "ends_true") := by
  refine Ob.byG D scBook_ends_true (fun vs H Q E h => ?_) (fun cd A hg outer s H vs Q E hr h => ?_)
  · obtain ⟨_, _, _, _, _, _, rfl, _⟩ := h
    rfl
  · obtain ⟨b, w0, f0, g, m, fl, rfl, bk, q⟩ := h
    obtain ⟨dx, hb⟩ := bk.ins
    refine ⟨_, (pss_one (ps_ret (pe_dget (one_ hr.units) (pe_fld (pv 0) (by rfl)) pe_str (fun _ _ => rfl)))), ?_⟩
    repeat walk_at "rd"
    refine Rd.fldV rfl hb B.cl B.n2 rfl ?_
    repeat walk_at "rd"
    exact ⟨f0, _, rfl, get_tab bk.fd (by decide), q⟩
abbrev sBook_set_flag : Stmt := meth 16 11
abbrev nBook_set_flag : List Str := ["self", "word", "value"]
theorem scBook_set_flag : FnScope nBook_set_flag ["self", "word", "value"] (defScope sBook_set_flag) := ⟨rfl, rfl, rfl, by decide +kernel, rfl, by decide +kernel, by decide +kernel⟩
def spSetFlag (K : PySem.W.Frag) (C CN CF : Addr) : Sp := fun vs H Q E => ∃ (b w f : Addr) (g : Str → Addr) (m : Str → List Str) (fl : Str → Bool) (v x : V) (tn tx : String), vs = [.ref b, v, x] ∧ Bk K C H b w f g m fl ∧ Kd K H v tn ∧ Kd K H x tx ∧ (isIn v flagsW = false → Out CN "value" v H E) ∧
  ∀ o, v = .str o → o ∈ flagsW → (isBl x = false → Out CF "value" x H E) ∧ ∀ c, x = .bl c → Q .non (upd H f (.dK (tab flagsW fun y => .bl (fput fl o c y))))
theorem ok_set_flag {C CN CF pO pM p_FLAGS : Addr} {gM : Str → Addr} (B : BF K mg C) (t : Tb K w mg pO pM p_FLAGS gM) (T_NoName : Ex.ErrC K mg "NoName" "value" CN) (M_NoName : Ex.InitOk P w K mg base "value" CN) (CIs_one_of : CalG P w K mg base 1 "is_one_of" (spOneOf K)) (CCheck_flag : Ex.CalX P w K mg base 3 "check_flag" (spFlag K CF))
    {f : Addr} {fd : FuncData} (D : Ob.MethAt K "set_flag" "Book.set_flag" sBook_set_flag ["self", "word", "value"] f fd) : FnG P w K mg base (L2.CX P w) 4 f fd ["self", "word", "value"] (spSetFlag K C CN CF) := by
  have g_FLAGS := t.f
  refine Ob.byGX D scBook_set_flag (fun vs H Q E h => ?_) (fun cd A hg outer s H vs Q E hr h => ?_)
  · obtain ⟨_, _, _, _, _, _, _, _, _, _, rfl, _⟩ := h
    rfl
  · obtain ⟨b, w0, f0, g, m, fl, v, x, tn, tx, rfl, bk, kd, kx, q1, q2⟩ := h
    obtain ⟨dx, hb⟩ := bk.ins
    refine ⟨_, (pss_cons (ps_if (pt_not (pt_val (pe_cG CIs_one_of hg hr (by decide) (pa_cons (pv 1) (pa_cons (pe_glob (v := .ref p_FLAGS) (by rfl) g_FLAGS rfl) pa_nil)))))
  (pss_one (ps_raise rfl (takes_of rfl rfl rfl rfl) (Ex.pmkE T_NoName M_NoName hr (by decide) (pa_cons (pv 1) pa_nil))))
  pss_nil)
  (pss_cons (ps_expr (Ex.pe_x CCheck_flag hg hr (by decide) (takes_of rfl rfl rfl rfl) (pa_cons (pv 2) pa_nil)))
  (pss_one (ps_asg (pv 2) (pg_sub (pe_fld (pv 0) (by rfl)) (pv 1) (set_dict (one_ hr.units))))))), ?_⟩
    repeat walk_at "rd"
    refine ⟨v, p_FLAGS, tn, flagsW, rfl, kd, t.tf H, ?_⟩
    repeat walk_at "rd"
    refine Rd.bool (fun c => ?_) (fun c => ?_)
    · have c' : isIn v flagsW = false := by simpa using c
      refine Ex.mk ?_
      repeat walk_at "rd"
      exact Ex.made (q1 c' H (Same.refl _))
    · have c' : isIn v flagsW = true := by simpa using c
      obtain ⟨o, rfl, ho⟩ := isIn_str c'
      obtain ⟨qb, qg⟩ := q2 o rfl ho
      repeat walk_at "rd"
      refine ⟨x, tx, rfl, kx, fun c => ?_, qb⟩
      obtain ⟨z, rfl⟩ : ∃ z, x = .bl z := by cases x <;> first | exact ⟨_, rfl⟩ | cases c
      repeat walk_at "rd"
      refine Rd.fldV rfl hb B.cl B.n2 rfl ?_
      repeat walk_at "rd"
      refine ⟨f0, _, rfl, .inl ⟨_, .inr o, bk.fd, rfl, ?_, rfl⟩, ?_⟩
      · rw [tab_len]; exact Rd.szl (by decide)
      · rw [put_tab _ _ _ ho, fput_tab]
        exact qg z rfl
abbrev sBook_twin : Stmt := meth 16 12
abbrev nBook_twin : List Str := ["self", "book"]
theorem scBook_twin : FnScope nBook_twin ["self"] (defScope sBook_twin) := ⟨rfl, rfl, rfl, by decide +kernel, rfl, by decide +kernel, by decide +kernel⟩
def spTwin (K : PySem.W.Frag) (C : Addr) : Sp := fun vs H Q _ => ∃ (b w f : Addr) (g : Str → Addr) (m : Str → List Str) (fl : Str → Bool), vs = [.ref b] ∧ Bk K C H b w f g m fl ∧ NewBk K C g m fl Q H
theorem ok_twin (T : Txt K mg) {C pO pM pF : Addr} {gM : Str → Addr} (B : BF K mg C) (t : Tb K w mg pO pM pF gM) (I_Book : Ob.MkCal P w K mg base CX0 C 1 "Book" (spInit C gM)) {f : Addr} {fd : FuncData} (D : Ob.MethAt K "twin" "Book.twin" sBook_twin ["self"] f fd) :
    FnG P w K mg base CX0 3 f fd ["self"] (spTwin K C) := by
  refine Ob.byG D scBook_twin (fun vs H Q E h => ?_) (fun cd A hg outer s H vs Q E hr h => ?_)
  · obtain ⟨_, _, _, _, _, _, rfl, _⟩ := h
    rfl
  · obtain ⟨b, w0, f0, g, m, fl, rfl, bk, q⟩ := h
    obtain ⟨dx, hb⟩ := bk.ins
    refine ⟨_, (pss_cons (ps_set (i := 1) scBook_twin.nd rfl (Or.inl rfl) (Ob.make0 I_Book hg hr (by decide) pass0))
  (pss_cons (ps_fld (pv 1) (pe_callTy (r := Od2.rDictD) Od2.call_dict (by rfl) T.dict (by decide +kernel) (pa_cons (pe_fld (pv 0) (by rfl)) pa_nil)) (by rfl))
  (pss_cons (ps_fld (pv 1) (pe_callTy (r := Od2.rDictD) Od2.call_dict (by rfl) T.dict (by decide +kernel) (pa_cons (pe_fld (pv 0) (by rfl)) pa_nil)) (by rfl))
  (pss_one (ps_ret (pv 1)))))), ?_⟩
    repeat walk_at "rd"
    refine mkBk (fun o ho => (t.tm o ho).2) fun b1 w1 f1 H1 s1 nb nw nf bk1 => ?_
    obtain ⟨dx1, hb1⟩ := bk1.ins
    have bb : b ≠ b1 := fun e => by rw [e, nb] at hb; cases hb
    have keep : ∀ {H2 : Hp} {a : Addr}, Same H1 H2 → H2 a = none → H a = none := fun s2 e => by
      cases z : H _ with
      | none => rfl
      | some u => rw [s2 _ _ (s1 _ _ z)] at e; cases e
    repeat walk_at "rd"
    refine Rd.fldV rfl (s1 _ _ hb) B.cl B.n1 rfl ?_
    repeat walk_at "rd"
    refine ⟨w0, _, rfl, .inl (s1 _ _ bk.wd), fun d hd => ?_⟩
    have s2 := Rd.sNew (o := .dK (tab ops fun o => .ref (g o))) hd
    repeat walk_at "rd"
    refine ⟨b1, C, dx1, _, rfl, s2 _ _ hb1, B.cl, B.n1, by simp, ?_⟩
    have e1 : putF "_ways" (.ref d) [(("_ways" : Str), V.ref w1), (("_flags" : Str), V.ref f1)] = [(("_ways" : Str), V.ref d), (("_flags" : Str), V.ref f1)] := rfl
    rw [e1]
    have d1 : d ≠ b1 := fun e => by rw [e, hb1] at hd; cases hd
    repeat walk_at "rd"
    refine Rd.fldV rfl (by rw [upd_ne bb]; exact s2 _ _ (s1 _ _ hb)) B.cl B.n2 rfl ?_
    repeat walk_at "rd"
    have ff : f0 ≠ b1 := fun e => by have := bk.fd; rw [e, nb] at this; cases this
    refine ⟨f0, _, rfl, .inl (by rw [upd_ne ff]; exact s2 _ _ (s1 _ _ bk.fd)), fun e he => ?_⟩
    have eb : e ≠ b1 := fun z => by rw [z, upd_same] at he; cases he
    rw [upd_ne eb] at he
    have ed : e ≠ d := fun z => by rw [z, upd_same] at he; cases he
    rw [upd_ne ed] at he
    repeat walk_at "rd"
    refine ⟨b1, C, dx1, _, rfl, by rw [upd_ne (fun z => eb z.symm), upd_same], B.cl, B.n2, by simp, ?_⟩
    have e2 : putF "_flags" (.ref e) [(("_ways" : Str), V.ref d), (("_flags" : Str), V.ref f1)] = [(("_ways" : Str), V.ref d), (("_flags" : Str), V.ref e)] := rfl
    rw [e2]
    repeat walk_at "rd"
    have fin : Same H (upd (upd (upd (upd H1 d (.dK (tab ops fun o => .ref (g o)))) b1 (.ins C dx1 [("_ways", .ref d), ("_flags", .ref f1)])) e (.dK (tab flagsW fun x => .bl (fl x)))) b1 (.ins C dx1 [("_ways", .ref d), ("_flags", .ref e)])) := fun a u z => by
      have z1 := s1 _ _ z
      rw [upd_ne (ne_of_none z nb), upd_ne (ne_of_none z1 he), upd_ne (ne_of_none z nb), upd_ne (ne_of_none z1 hd)]
      exact z1
    refine q b1 d e _ fin nb (keep (Same.refl _) hd) (keep (Same.refl _) he) ⟨⟨dx1, upd_same⟩, ?_, ?_, fun o ho => sqT_same fin (bk.tp o ho), fun z => ed z.symm⟩
    · rw [upd_ne d1, upd_ne (fun z => ed z.symm), upd_ne d1, upd_same]
    · rw [upd_ne eb, upd_same]
abbrev sBook___len__ : Stmt := meth 16 16
abbrev nBook___len__ : List Str := ["self"]
theorem scBook___len__ : FnScope nBook___len__ ["self"] (defScope sBook___len__) := ⟨rfl, rfl, rfl, by decide +kernel, rfl, by decide +kernel, by decide +kernel⟩
def spLen (K : PySem.W.Frag) (C : Addr) : Sp := fun vs H Q _ => ∃ (b w f : Addr) (g : Str → Addr) (m : Str → List Str) (fl : Str → Bool), vs = [.ref b] ∧ Bk K C H b w f g m fl ∧ Q (.int 12) H
theorem ok_len (T : Txt K mg) {C : Addr} (B : BF K mg C) {f : Addr} {fd : FuncData} (D : Ob.MethAt K "__len__" "Book.__len__" sBook___len__ ["self"] f fd) : FnG P w K mg base CX0 1 f fd ["self"] (spLen K C) := by
  refine Ob.byG D scBook___len__ (fun vs H Q E h => ?_) (fun cd A hg outer s H vs Q E hr h => ?_)
  · obtain ⟨_, _, _, _, _, _, rfl, _⟩ := h
    rfl
  · obtain ⟨b, w0, f0, g, m, fl, rfl, bk, q⟩ := h
    obtain ⟨dx, hb⟩ := bk.ins
    refine ⟨_, (pss_one (ps_ret (pe_callB call_lenD (by rfl) T.len PySem.boot_len (pa_cons (pe_fld (pv 0) (by rfl)) pa_nil)))), ?_⟩
    repeat walk_at "rd"
    refine Rd.fldV rfl hb B.cl B.n1 rfl ?_
    repeat walk_at "rd"
    refine ⟨w0, _, rfl, bk.wd, ?_⟩
    rw [tab_len]
    exact q
/-- what isinstance asks of the class -/
structure IC (K : PySem.W.Frag) (C : Addr) : Prop where
  hc : PySem.W.findIn K (.ref C) "__class__" = some (some (.builtin "object.__class__"))
  hs : PySem.W.specialIn K (.builtin "object.__class__") "__get__" = some (some (.builtin "getset_descriptor.__get__"))
  ht : PySem.W.takesIn K (.builtin "object.__class__") = some true
theorem bk_ty {C : Addr} (B : BF K mg C) (c : IC K C) {H : Hp} {b w f : Addr} {g : Str → Addr} {m : Str → List Str} {fl : Str → Bool} (bk : Bk K C H b w f g m fl) : TyX K H (.ref b) (.ref C) := by
  obtain ⟨dx, hb⟩ := bk.ins
  exact .base (.ins hb B.cl c.hc c.hs c.ht B.ob)
theorem kit_self {C : Addr} : PySem.W.kitOne K (.ref C) (.ref C) = some true := by
  show (if (Value.ref C == Value.ref C) = true then some true else _) = _
  rw [if_pos (beq_self_eq_true _)]
def bookEq (m m' : Str → List Str) (fl fl' : Str → Bool) : Bool := eqWays m m' && eqFlags fl fl'
abbrev sBook___eq__ : Stmt := meth 16 14
abbrev nBook___eq__ : List Str := ["self", "other"]
theorem scBook___eq__ : FnScope nBook___eq__ ["self", "other"] (defScope sBook___eq__) := ⟨rfl, rfl, rfl, by decide +kernel, rfl, by decide +kernel, by decide +kernel⟩
def spBEq (K : PySem.W.Frag) (C : Addr) : Sp := fun vs H Q _ => ∃ (b w f : Addr) (g : Str → Addr) (m : Str → List Str) (fl : Str → Bool) (y : V), vs = [.ref b, y] ∧ Bk K C H b w f g m fl ∧ OkM m ∧
  ((∃ t, TyX K H y t ∧ PySem.W.kitOne K t (.ref C) = some false ∧ Q (.bl false) H) ∨ ∃ (c w' f' : Addr) (g' : Str → Addr) (m' : Str → List Str) (fl' : Str → Bool), y = .ref c ∧ Bk K C H c w' f' g' m' fl' ∧ OkM m' ∧ Q (.bl (bookEq m m' fl fl')) H)
theorem ok_beq (T : Txt K mg) {C_Book : Addr} (K_Book : BF K mg C_Book) (ic : IC K C_Book) {f : Addr} {fd : FuncData} (D : Ob.MethAt K "__eq__" "Book.__eq__" sBook___eq__ ["self", "other"] f fd) : FnG P w K mg base CX0 1 f fd ["self", "other"] (spBEq K C_Book) := by
  refine Ob.byG D scBook___eq__ (fun vs H Q E h => ?_) (fun cd A hg outer s H vs Q E hr h => ?_)
  · obtain ⟨_, _, _, _, _, _, _, rfl, _⟩ := h
    rfl
  · obtain ⟨b, w0, f0, g, m, fl, y, rfl, bk, om, h⟩ := h
    obtain ⟨dx, hb⟩ := bk.ins
    refine ⟨_, (pss_one (ps_ret (pe_and (pe_callB (r := rIsi K) call_isi (by rfl) T.isinstance (by decide +kernel) (pa_cons (pv 1) (pa_cons (pe_glob (v := .ref C_Book) (by rfl) K_Book.g rfl) pa_nil))) (pe_and (pe_cmpR (r := Ob.rEqX K false) (Ob.op_eqX (un80 hr)) (pe_fld (pv 0) (by rfl)) (pe_fld (pv 1) (by rfl)) (nomark _)) (pe_one (pe_cmpR (r := Ob.rEqX K false) (Ob.op_eqX (un80 hr)) (pe_fld (pv 0) (by rfl)) (pe_fld (pv 1) (by rfl)) (nomark _))))))), ?_⟩
    repeat walk_at "rd"
    rcases h with ⟨t, ty, kt, q⟩ | ⟨c, w', f', g', m', fl', rfl, bk', om', q⟩
    · refine ⟨y, .ref C_Book, t, .ref C_Book, false, rfl, .own _, ty, kt, ?_⟩
      repeat walk_at "rd"
      exact Rd.ff_ q
    · obtain ⟨dy, hc⟩ := bk'.ins
      refine ⟨.ref c, .ref C_Book, .ref C_Book, .ref C_Book, true, rfl, .own _, bk_ty K_Book ic bk', kit_self, ?_⟩
      repeat walk_at "rd"
      refine Rd.tt_ ?_
      repeat walk_at "rd"
      refine Rd.fldV rfl hb K_Book.cl K_Book.n1 rfl ?_
      refine Rd.fldV rfl hc K_Book.cl K_Book.n1 rfl ?_
      obtain ⟨ks, ls, r, h1, h2, h3, h4⟩ := eq_ways bk.wd bk'.wd bk.tp bk'.tp om om'
      refine ⟨w0, w', ks, ls, r, rfl, rfl, h1, h2, h3, ?_⟩
      rw [if_neg Bool.false_ne_true, h4]
      refine ⟨_, rfl, ?_⟩
      refine Rd.bool (fun c => ?_) (fun c => ?_)
      · repeat walk_at "rd"
        refine Rd.fldV rfl hb K_Book.cl K_Book.n2 rfl ?_
        refine Rd.fldV rfl hc K_Book.cl K_Book.n2 rfl ?_
        obtain ⟨ks, ls, r, h1, h2, h3, h4⟩ := eq_flags (K := K) bk.fd bk'.fd
        refine ⟨f0, f', ks, ls, r, rfl, rfl, h1, h2, h3, ?_⟩
        rw [if_neg Bool.false_ne_true, h4]
        rw [bookEq, c, Bool.true_and] at q
        exact q
      · rw [bookEq, c, Bool.false_and] at q
        exact q
end
end Ab
namespace Ab
open PySem.Spec PyProof.Rows
local macro_rules | `(tactic| walk_at "rd") => `(tactic| (with_reducible first | refine Rd.sfld ?_ | refine Rd.dget ?_ | refine Rd.methR ?_ | refine Rd.propR ?_ | refine Rd.statR ?_ | refine Rd.getR ?_))
def mput (m : Str → List Str) (o : Str) (ws : List Str) : Str → List Str := fun x => if x = o then ws else m x
section
variable {K : PySem.W.Frag} {C : Addr} {H H1 : Hp} {b w f p : Addr} {g : Str → Addr} {m m' : Str → List Str} {fl fl' : Str → Bool} {o : Str} {ws : List Str} {c : Bool}
theorem Bk.setW (k : Bk K C H b w f g m fl) (s : Same H H1) (hp : SqT K H1 p (ws.map V.str)) : Bk K C (upd H1 w (.dK (tab ops fun y => .ref (gput g o p y)))) b w f (gput g o p) (mput m o ws) fl := by
  have k1 := k.mono s
  have nt := nt_dK k1.wd
  obtain ⟨dx, hb⟩ := k1.ins
  refine ⟨⟨dx, ?_⟩, upd_same, ?_, fun y hy => ?_, k.ne⟩
  · rw [upd_ne (fun e => by rw [e, k1.wd] at hb; cases hb)]; exact hb
  · rw [upd_ne (fun e => k.ne e.symm)]; exact k1.fd
  · unfold gput mput
    by_cases e : y = o
    · rw [if_pos e, if_pos e]; exact sqT_upd nt hp
    · rw [if_neg e, if_neg e]; exact sqT_upd nt (k1.tp y hy)
theorem Bk.setF (k : Bk K C H b w f g m fl) : Bk K C (upd H f (.dK (tab flagsW fun y => .bl (fput fl o c y)))) b w f g m (fput fl o c) := by
  have nt := nt_dK k.fd
  obtain ⟨dx, hb⟩ := k.ins
  refine ⟨⟨dx, ?_⟩, ?_, upd_same, fun y hy => sqT_upd nt (k.tp y hy), k.ne⟩
  · rw [upd_ne (fun e => by rw [e, k.fd] at hb; cases hb)]; exact hb
  · rw [upd_ne k.ne]; exact k.wd
theorem Bk.congr (k : Bk K C H b w f g m fl) (h : ∀ o ∈ ops, m o = m' o) (h' : ∀ x ∈ flagsW, fl x = fl' x) : Bk K C H b w f g m' fl' :=
  ⟨k.ins, k.wd, by rw [k.fd, tab_congr (fun x hx => by rw [h' x hx])], fun o ho => by rw [← h o ho]; exact k.tp o ho, k.ne⟩
end
def bareM (o : Str) : List Str := (menu o).take 1
theorem bare_ok : ∀ o ∈ ops, waysOk o ((bareM o).map V.str) = true := by decide +kernel
theorem bare_len : ∀ o ∈ ops, (menu o).length ≤ 4 ∧ 1 ≤ (menu o).length := by decide +kernel
theorem sixN (n : Nat) : HT.sIx n 0 none = 0 := by rfl
theorem cut1 (l : List Str) : cutV (l.map V.str) none (some 1) = (l.take 1).map V.str := by
  cases l with
  | nil => rfl
  | cons a l => simp [cutV, HT.sIx]
section
variable {P : Program} {w : World} {K : PySem.W.Frag} {mg : Str → Option Value} {base : Heap}
theorem forT {tl : TE} {g : TG} {tb : TS} {D : Ends} {σ : L2.St} {H : Hp} (k : tl σ H fun x H1 => tFor (iTup K (tC x)) g tb D σ H1) : tFor (iTup K tl) g tb D σ H := k
/-- a for over a tuple of texts of the top -/
theorem forS {j : Nat} {tb : TS} {D : Ends} {σ : L2.St} {H : Hp} {a : Addr} {l : List Str} (t : ∀ H, SqT K H a (l.map V.str)) (Pv : Nat → L2.St → Hp → Prop) (h0 : Pv 0 σ H)
    (hs : ∀ i (hi : i < l.length) σ1 H1, Pv i σ1 H1 → tb { D with nx := Pv (i + 1), ct := Pv (i + 1), bk := D.nx } (σ1.set j (some (.str l[i]))) H1) (hd : ∀ σ1 H1, Pv l.length σ1 H1 → D.nx σ1 H1) : tFor (iTup K (tC (.ref a))) (gName j) tb D σ H := by
  refine ⟨a, rfl, ⟨_, t H⟩, ?_⟩
  refine for_tup (K := K) (a := a) (xs := l.map V.str) Pv h0 (fun i σ1 H1 _ _ => t H1) (fun i x σ1 H1 hx p => ?_) (fun σ1 H1 p => hd σ1 H1 (by rw [List.length_map] at p; exact p))
  obtain ⟨hi, e⟩ := List.getElem?_eq_some_iff.mp hx
  rw [List.length_map] at hi
  rw [List.getElem_map] at e
  subst e
  exact hs i hi σ1 H1 p
end
structure PoolOk (x y : Int) : Prop where
  x0 : 0 ≤ x
  y0 : 0 ≤ y
  y1 : y < 2147483647
def spTake : Sp := fun vs H Q _ => ∃ (p : Addr) (x y m : Int), vs = [.ref p, .int m] ∧ H p = some (.lst [.int x, .int y]) ∧ PoolOk x y ∧ 0 < m ∧ m < 1000 ∧
  ∀ r x' y' : Int, PoolOk x' y' → 0 ≤ r → r < m → Q (.int r) (upd H p (.lst [.int x', .int y']))
section
variable {P : Program} {w : World} {K : PySem.W.Frag} {mg : Str → Option Value} {base : Heap}
abbrev sL_take : Stmt := top 19
abbrev nL_take : List Str := ["_law_pool_here", "_law_many", "_law_found"]
theorem scL_take : FnScope nL_take ["_law_pool_here", "_law_many"] (defScope sL_take) := ⟨rfl, rfl, rfl, by decide +kernel, rfl, by decide +kernel, by decide +kernel⟩
theorem ok_take (T : Txt K mg) (D : DefAt K mg "_law_take" sL_take ["_law_pool_here", "_law_many"]) : CalG P w K mg base 1 "_law_take" spTake := by
  refine D.by scL_take (fun vs H Q E h => ?_) (fun f cd A hg outer s H vs Q E hr h => ?_)
  · obtain ⟨p, x, y, m, rfl, _⟩ := h
    rfl
  · obtain ⟨p, x, y, m, rfl, hp, ok, m0, m1, k⟩ := h
    refine ⟨_, (pss_cons (ps_if (pt_cmpR op_gt (pe_ix (r := rIxL K) ix_list (pv 0) pe_int (fun _ _ => rfl)) pe_int (nomark _))
  (pss_cons (ps_set (i := 2) scL_take.nd rfl (Or.inl rfl) (pe_op op_modN (pe_callTy call_int1 (by rfl) T.int (by decide +kernel) (pa_cons (pe_ix (r := rIxL K) ix_list (pv 0) pe_int (fun _ _ => rfl)) pa_nil)) (pv 1)))
  (pss_cons (ps_asg (pe_op op_fdivN (pe_ix (r := rIxL K) ix_list (pv 0) pe_int (fun _ _ => rfl)) (pv 1)) (pg_sub (pv 0) pe_int set_list))
  (pss_one (ps_ret (pv 2)))))
  pss_nil)
  (pss_cons (ps_asg (pe_op op_modN (pe_callTy call_int1 (by rfl) T.int (by decide +kernel) (pa_cons (pe_op op_add (pe_op op_mul (pe_ix (r := rIxL K) ix_list (pv 0) pe_int (fun _ _ => rfl)) pe_int) pe_int) pa_nil)) pe_int) (pg_sub (pv 0) pe_int set_list))
  (pss_one (ps_ret (pe_op op_modN (pe_op op_fdivN (pe_op op_modN (pe_callTy call_int1 (by rfl) T.int (by decide +kernel) (pa_cons (pe_op op_mul (pe_ix (r := rIxL K) ix_list (pv 0) pe_int (fun _ _ => rfl)) (pe_ix (r := rIxL K) ix_list (pv 0) pe_int (fun _ _ => rfl))) pa_nil)) pe_int) pe_int) (pv 1)))))), ?_⟩
    repeat walk_at "rd"
    refine Rd.dec (fun c => ?_) (fun c => ?_)
    · repeat walk_at "rd"
      have e := Int.fdiv_eq_ediv_of_nonneg x (Int.le_of_lt m0)
      have e' := Int.fmod_eq_emod_of_nonneg x (Int.le_of_lt m0)
      have a := Int.emod_nonneg x (show m ≠ 0 by omega)
      have b := Int.emod_lt_of_pos x m0
      have d := Int.ediv_nonneg (a := x) (b := m) (by omega) (by omega)
      exact k _ _ _ ⟨by omega, ok.y0, ok.y1⟩ (by omega) (by omega)
    · have y0 := ok.y0
      have y1 := ok.y1
      obtain ⟨z0, z1⟩ := Rd.fm (i := y * 48271 + 11) (m := 2147483647) (by decide)
      repeat walk_at "rd"
      obtain ⟨r0, r1⟩ := Rd.fm (i := ((((y * 48271 + 11).fmod 2147483647) * ((y * 48271 + 11).fmod 2147483647)).fmod 2147483629).fdiv 64) m0
      exact k _ _ _ ⟨ok.x0, z0, z1⟩ r0 r1
def spPool (K : PySem.W.Frag) : Sp := fun vs H Q _ => ∃ (a : Addr) (ns : List Int) (k : Int), vs = [.ref a, .int k] ∧ SqL K H a (ns.map V.int) ∧ 0 ≤ k ∧ k < 1000 ∧
  ∀ (p : Addr) (x y : Int), H p = none → PoolOk x y → Q (.ref p) (upd H p (.lst [.int x, .int y]))
abbrev sL_pool : Stmt := top 18
abbrev nL_pool : List Str := ["_law_script", "_law_k", "_law_cell", "_law_size", "_law_seed"]
theorem scL_pool : FnScope nL_pool ["_law_script", "_law_k"] (defScope sL_pool) := ⟨rfl, rfl, rfl, by decide +kernel, rfl, by decide +kernel, by decide +kernel⟩
theorem ok_pool (T : Txt K mg) (D : DefAt K mg "_law_pool" sL_pool ["_law_script", "_law_k"]) : CalG P w K mg base 1 "_law_pool" (spPool K) := by
  refine D.by scL_pool (fun vs H Q E h => ?_) (fun f cd A hg outer s H vs Q E hr h => ?_)
  · obtain ⟨a, ns, k, rfl, _⟩ := h
    rfl
  · obtain ⟨a, ns, k, rfl, hS, k0, k1, q⟩ := h
    refine ⟨_, (pss_cons (ps_set (i := 2) scL_pool.nd rfl (Or.inl rfl) pe_int)
  (pss_cons (ps_if (pt_cmpR op_lt (pv 1) (pe_callB (r := Rd.rLenK K) Rd.callLen (by rfl) T.len PySem.boot_len (pa_cons (pv 0) pa_nil)) (nomark _))
  (pss_one (ps_set (i := 2) scL_pool.nd rfl (Or.inl rfl) (pe_ix (r := rIxL K) ix_list (pv 0) (pv 1) (fun _ _ => rfl))))
  pss_nil)
  (pss_cons (ps_set (i := 3) scL_pool.nd rfl (Or.inl rfl) (pe_callB (call_max2 rfl) (by rfl) T.max (by decide +kernel) (pa_cons (pv 2) (pa_cons (pe_op op_sub (pe_un un_neg pe_int) (pv 2)) pa_nil))))
  (pss_cons (ps_set (i := 4) scL_pool.nd rfl (Or.inl rfl) (pe_callTy call_int1 (by rfl) T.int (by decide +kernel) (pa_cons (pe_op op_add (pe_op op_add (pe_op op_modN (pe_callTy call_int1 (by rfl) T.int (by decide +kernel) (pa_cons (pv 3) pa_nil)) pe_int) (pe_op op_mul pe_int (pv 1))) pe_int) pa_nil)))
  (pss_one (ps_ret (pe_lst (pa_cons (pe_op op_mul (pv 3) (pe_callTy call_int1 (by rfl) T.int (by decide +kernel) (pa_cons (pe_cmpR op_ge (pv 3) (pe_op op_pow pe_int pe_int) (nomark _)) pa_nil))) (pa_cons (pe_op op_modN (pe_op op_mul (pv 4) pe_int) pe_int) pa_nil))))))))), ?_⟩
    repeat walk_at "rd"
    have fin : ∀ (sz : Int) (k1 : Int), 0 ≤ sz → 0 ≤ k1 → k1 < 1000 → PoolOk (sz * (if decide ((10 : Int) ^ (Int.toNat 18) ≤ sz) = true then 1 else 0)) (((sz.fmod 2147483629 + 7919 * k1 + 104729) * 48271).fmod 2147483647) := by
      intro sz k1 h0 h1 h2
      obtain ⟨y0, y1⟩ := Rd.fm (i := (sz.fmod 2147483629 + 7919 * k1 + 104729) * 48271) (m := 2147483647) (by decide)
      refine ⟨?_, y0, y1⟩
      split
      · omega
      · omega
    refine Rd.dec (fun c => ?_) (fun c => ?_)
    · repeat walk_at "rd"
      obtain ⟨cell, ix⟩ := Rd.at_int k0 c
      refine Rd.ixL hS ix ?_
      have sz0 : 0 ≤ (if (-1 : Int) - cell > cell then -1 - cell else cell) := by split <;> omega
      have fmz := Rd.fm (i := (if (-1 : Int) - cell > cell then -1 - cell else cell)) (m := 2147483629) (by decide)
      repeat walk_at "rd"
      refine ⟨Rd.sz (by simp), fun p hp => ?_⟩
      exact q p _ _ hp (fin _ _ sz0 k0 k1)
    · have sz0 : 0 ≤ (if (-1 : Int) - 0 > 0 then -1 - 0 else (0 : Int)) := by split <;> omega
      have fmz := Rd.fm (i := (if (-1 : Int) - 0 > 0 then -1 - 0 else (0 : Int))) (m := 2147483629) (by decide)
      repeat walk_at "rd"
      refine ⟨Rd.sz (by simp), fun p hp => ?_⟩
      exact q p _ _ hp (fin _ _ sz0 k0 k1)
/-- one of a list's items, by the pool -/
def spOne (K : PySem.W.Frag) : Sp := fun vs H Q _ => ∃ (p l : Addr) (x y : Int) (xs : List V), vs = [.ref p, .ref l] ∧ H p = some (.lst [.int x, .int y]) ∧ SqL K H l xs ∧ (∀ o, SqL K (upd H p o) l xs) ∧ PoolOk x y ∧ 0 < xs.length ∧ xs.length < 1000 ∧
  ∀ (v : V) (x' y' : Int), v ∈ xs → PoolOk x' y' → Q v (upd H p (.lst [.int x', .int y']))
abbrev sL_one : Stmt := top 20
abbrev nL_one : List Str := ["_law_pool_here", "_law_some"]
theorem scL_one : FnScope nL_one ["_law_pool_here", "_law_some"] (defScope sL_one) := ⟨rfl, rfl, rfl, by decide +kernel, rfl, by decide +kernel, by decide +kernel⟩
theorem ok_one (T : Txt K mg) (D : DefAt K mg "_law_one" sL_one ["_law_pool_here", "_law_some"]) (CL_take : CalG P w K mg base 1 "_law_take" spTake) : CalG P w K mg base 2 "_law_one" (spOne K) := by
  refine D.by scL_one (fun vs H Q E h => ?_) (fun f cd A hg outer s H vs Q E hr h => ?_)
  · obtain ⟨a, ns, k, _, _, rfl, _⟩ := h
    rfl
  · obtain ⟨p, l, x, y, xs, rfl, hp, hl, hl2, ok, l0, l1, q⟩ := h
    refine ⟨_, (pss_one (ps_ret (pe_ix (r := rIxL K) ix_list (pv 1) (pe_cG CL_take hg hr (by decide) (pa_cons (pv 0) (pa_cons (pe_callB (r := Rd.rLenK K) Rd.callLen (by rfl) T.len PySem.boot_len (pa_cons (pv 1) pa_nil)) pa_nil))) (fun _ _ => rfl)))), ?_⟩
    repeat walk_at "rd"
    refine ⟨p, x, y, _, rfl, hp, ok, by omega, by omega, fun r x' y' ok' r0 r1 => ?_⟩
    have hr : r.toNat < xs.length := by omega
    exact Rd.ixL (hl2 _) (Rd.atN r0 (List.getElem?_eq_getElem hr)) (q _ _ _ (List.getElem_mem hr) ok')
end
end Ab
namespace Ab
open PySem.Spec PyProof.Rows
local macro_rules | `(tactic| walk_at "rd") => `(tactic| (with_reducible first | refine Rd.sfld ?_ | refine Rd.dget ?_ | refine Rd.methR ?_ | refine Rd.propR ?_ | refine Rd.statR ?_ | refine Rd.getR ?_))
theorem disp {trs : List (TE × TE)} {σ : L2.St} {H : Hp} {Q : VK} (k : ∀ p, H p = none → tPairs trs σ (upd H p (.dK [])) fun ps H2 => H2 p = some (.dK []) ∧ ∃ kvs : List (Key × V), ps = kvs.map (fun kv => (kV kv.1, kv.2)) ∧ kvs.length ≤ 15 ∧ Q (.ref p) (upd H2 p (.dK (mergeK [] kvs)))) : tDisp trs σ H Q := k
theorem pcons {tk tv : TE} {r : List (TE × TE)} {σ : L2.St} {H : Hp} {Q : List (V × V) → Hp → Prop} (k : tk σ H fun x H1 => tv σ H1 fun y H2 => tPairs r σ H2 fun ps H3 => Q ((x, y) :: ps) H3) : tPairs ((tk, tv) :: r) σ H Q := k
theorem pnil {σ : L2.St} {H : Hp} {Q : List (V × V) → Hp → Prop} (k : Q [] H) : tPairs [] σ H Q := k
theorem gtup {K : PySem.W.Frag} {a : Addr} {xs : List V} {n : Nat} {t : TGs} {σ : L2.St} {H : Hp} {Q : L2.St → Hp → Prop} (h : SqT K H a xs) (l : xs.length = n) (k : t xs σ H Q) : gTup K n t (.ref a) σ H Q := ⟨a, xs, rfl, h, l, k⟩
theorem gc {t : TG} {u : TGs} {v : V} {r : List V} {σ : L2.St} {H : Hp} {Q : L2.St → Hp → Prop} (k : t v σ H fun σ' H' => u r σ' H' Q) : gCons t u (v :: r) σ H Q := ⟨v, r, rfl, k⟩
theorem gn {σ : L2.St} {H : Hp} {Q : L2.St → Hp → Prop} (k : Q σ H) : gNil [] σ H Q := ⟨rfl, k⟩
theorem Same.fr {H H' : Hp} {p : Addr} (s : Same H H') (h : H' p = none) : H p = none := by
  cases z : H p with
  | none => rfl
  | some u => rw [s _ _ z] at h; cases h
/-- a dict of ways in the making -/
structure Mg (K : PySem.W.Frag) (H Hc : Hp) (d : Addr) (l : List Str) (g : Str → Addr) : Prop where
  s : Same H Hc
  f : H d = none
  d : Hc d = some (.dK (tab l fun o => .ref (g o)))
  t : ∀ o ∈ l, SqT K Hc (g o) ((menu o).map V.str)
theorem setM {K : PySem.W.Frag} {H Hc H1 : Hp} {d p : Addr} {l : List Str} {g : Str → Addr} {x : Str} {Q : Hp → Prop} (m : Mg K H Hc d l g) (s : Same Hc H1) (hp : SqT K H1 p ((menu x).map V.str)) (nx : x ∉ l) (z : l.length ≤ 100)
    (k : ∀ H2 g2, Mg K H H2 d (l ++ [x]) g2 → (∀ q xs, SqT K H1 q xs → SqT K H2 q xs) → Q H2) : rSetD (.ref d) (.str x) (.ref p) H1 Q := by
  have hd := s _ _ m.d
  refine ⟨d, _, rfl, .inl ⟨_, .inr x, hd, rfl, by rw [tab_len]; exact Rd.szl (by omega), rfl⟩, ?_⟩
  have nt := nt_dK hd
  refine k _ (gput g x p) ⟨Rd.sMut (m.s.trans s) m.f, m.f, ?_, fun o ho => ?_⟩ (fun q xs h => sqT_upd nt h)
  · rw [upd_same, putK_new _ _ _ nx]
    have e : tab l (fun o => V.ref (g o)) = tab l fun o => V.ref (gput g x p o) := tab_congr fun o ho => by
      unfold gput
      rw [if_neg (fun e => nx (by rw [← e]; exact ho))]
    rw [e, show (Sum.inr x, V.ref p) = ((Sum.inr x : Key), V.ref (gput g x p x)) by unfold gput; rw [if_pos rfl], tab_snoc l (fun o => V.ref (gput g x p o))]
  · refine sqT_upd nt ?_
    unfold gput
    by_cases e : o = x
    · rw [if_pos e, e]; exact hp
    · rw [if_neg e]
      rcases List.mem_append.mp ho with h | h
      · exact sqT_same s (m.t o h)
      · exact absurd (by simpa using h) e
/-- all but what stands at p stays -/
def Keep (p : Addr) (H H' : Hp) : Prop := ∀ b o, b ≠ p → H b = some o → H' b = some o
theorem Keep.same {p : Addr} {H H1 : Hp} (s : Same H H1) : Keep p H H1 := fun b u _ e => s b u e
theorem Keep.put {p : Addr} {H H1 : Hp} {o : HO} (a : Keep p H H1) : Keep p H (upd H1 p o) := fun b u n e => by rw [upd_ne n]; exact a b u n e
theorem Keep.trans {p : Addr} {H H1 H2 : Hp} (a : Keep p H H1) (b : Keep p H1 H2) : Keep p H H2 := fun q u n e => b q u n (a q u n e)
theorem Keep.new {p q : Addr} {H H1 : Hp} {o : HO} (a : Keep p H H1) (h : H1 q = none) : Keep p H (upd H1 q o) := fun b u n e => by
  have := a b u n e
  rw [upd_ne (ne_of_none this h)]
  exact this
theorem Keep.mut {p q : Addr} {H H1 : Hp} {o : HO} (a : Keep p H H1) (h : H q = none) : Keep p H (upd H1 q o) := fun b u n e => by
  rw [upd_ne (ne_of_none e h)]
  exact a b u n e
theorem sqT_keep {K : PySem.W.Frag} {p a : Addr} {H H' : Hp} {xs : List V} (k : Keep p H H') (n : NoTup H p) (h : SqT K H a xs) : SqT K H' a xs := by
  rcases h with (h | ⟨o, h⟩) | h
  · exact .inl (.inl (k _ _ (fun e => by subst e; exact (n _ h).1 _ rfl) h))
  · exact .inl (.inr ⟨o, k _ _ (fun e => by subst e; exact (n _ h).2 _ _ rfl) h⟩)
  · exact .inr h
theorem eras_str (l : List Str) (k : Nat) : (l.map V.str).eraseIdx k = (l.eraseIdx k).map V.str := by
  induction l generalizing k with
  | nil => rfl
  | cons a l ih =>
    cases k with
    | zero => rfl
    | succ k => show _ :: _ = _ :: _; rw [ih]
theorem perm_eras {l : List Str} {k : Nat} (h : k < l.length) : (l[k] :: l.eraseIdx k).Perm l := by
  induction l generalizing k with
  | nil => simp at h
  | cons a l ih =>
    cases k with
    | zero => exact List.Perm.refl _
    | succ k =>
      have := ih (k := k) (by simpa using h)
      exact (List.Perm.swap _ _ _).trans (this.cons a)
section
variable {P : Program} {w : World} {K : PySem.W.Frag} {mg : Str → Option Value} {base : Heap}
abbrev sL_menus : Stmt := top 21
abbrev nL_menus : List Str := ["_law_two", "_law_found"]
theorem scL_menus : FnScope nL_menus [] (defScope sL_menus) := ⟨rfl, rfl, rfl, by decide +kernel, rfl, by decide +kernel, by decide +kernel⟩
def spMenus (K : PySem.W.Frag) : Sp := fun vs H Q _ => vs = [] ∧ ∀ d g H', Mg K H H' d ops g → Q (.ref d) H'
theorem ok_menus (D : DefAt K mg "_law_menus" sL_menus []) : CalG P w K mg base 1 "_law_menus" (spMenus K) := by
  refine D.by scL_menus (fun vs H Q E h => ?_) (fun f cd A hg outer s H vs Q E hr h => ?_)
  · rw [h.1]; rfl
  · obtain ⟨rfl, q⟩ := h
    refine ⟨_, (pss_cons (ps_set (i := 0) scL_menus.nd rfl (Or.inl rfl) (pe_tup (pa_cons pe_str (pa_cons pe_str pa_nil))))
  (pss_cons (ps_set (i := 1) scL_menus.nd rfl (Or.inl rfl) (pe_disp (pps_cons pe_str (pe_tup (pa_cons pe_str (pa_cons pe_str pa_nil))) (pps_cons pe_str (pe_tup (pa_cons pe_str pa_nil)) (pps_cons pe_str (pe_tup (pa_cons pe_str (pa_cons pe_str pa_nil))) pps_nil))) (by rfl) (by rfl) (by simp) (by decide)))
  (pss_cons (ps_asg (pe_tup (pa_cons pe_str (pa_cons pe_str pa_nil))) (pg_sub (pv 1) pe_str (set_dict (one_ hr.units))))
  (pss_cons (ps_asg (pe_tup (pa_cons (pe_tup (pa_cons pe_str pa_nil)) (pa_cons (pe_tup (pa_cons pe_str pa_nil)) pa_nil))) (pg_tup (by rfl) (pgs_cons (pg_sub (pv 1) pe_str (set_dict (one_ hr.units))) (pgs_cons (pg_sub (pv 1) pe_str (set_dict (one_ hr.units))) pgs_nil))))
  (pss_cons (ps_asg (pe_tup (pa_cons pe_str (pa_cons pe_str (pa_cons pe_str pa_nil)))) (pg_sub (pv 1) pe_str (set_dict (one_ hr.units))))
  (pss_cons (ps_asg (pv 0) (pg_sub (pv 1) pe_str (set_dict (one_ hr.units))))
  (pss_cons (ps_asg (pe_tup (pa_cons pe_str (pa_cons pe_str (pa_cons pe_str (pa_cons pe_str pa_nil))))) (pg_sub (pv 1) pe_str (set_dict (one_ hr.units))))
  (pss_cons (ps_asg (pe_tup (pa_cons (pv 0) (pa_cons (pv 0) pa_nil))) (pg_tup (by rfl) (pgs_cons (pg_sub (pv 1) pe_str (set_dict (one_ hr.units))) (pgs_cons (pg_sub (pv 1) pe_str (set_dict (one_ hr.units))) pgs_nil))))
  (pss_cons (ps_asg (pe_tup (pa_cons pe_str (pa_cons pe_str pa_nil))) (pg_sub (pv 1) pe_str (set_dict (one_ hr.units))))
  (pss_one (ps_ret (pv 1)))))))))))), ?_⟩
    repeat walk_at "rd"
    refine ⟨Rd.sz (by simp), fun two h0 => ?_⟩
    have s0 := Rd.sNew (o := .tup [.str "own", .str "turned"]) h0
    have t0 : SqT K (upd H two (.tup [.str "own", .str "turned"])) two ((menu "like").map V.str) := .inl (.inl upd_same)
    generalize upd H two (.tup [.str "own", .str "turned"]) = H0 at s0 t0 ⊢
    repeat walk_at "rd"
    refine disp fun d hd => ?_
    have fd := Same.fr s0 hd
    refine pcons ?_
    repeat walk_at "rd"
    refine ⟨Rd.sz (by simp), fun p1 h1 => ?_⟩
    refine pcons ?_
    repeat walk_at "rd"
    refine ⟨Rd.sz (by simp), fun p2 h2 => ?_⟩
    refine pcons ?_
    repeat walk_at "rd"
    refine ⟨Rd.sz (by simp), fun p3 h3 => pnil ⟨?_, [(.inr "truth", .ref p1), (.inr "size", .ref p2), (.inr "each", .ref p3)], rfl, by simp, ?_⟩⟩
    · exact Rd.sNew h3 _ _ (Rd.sNew h2 _ _ (Rd.sNew h1 _ _ upd_same))
    have d1 : p1 ≠ d := fun e => by rw [e, upd_same] at h1; cases h1
    have S1 := Rd.sNew (o := .tup [.str "truth", .str "length"]) h1
    have S2 := Rd.sNew (o := .tup [.str "length"]) h2
    have S3 := Rd.sNew (o := .tup [.str "walk", .str "item"]) h3
    have dd := S3 _ _ (S2 _ _ (S1 _ _ upd_same))
    have nt := nt_dK dd
    have M : ∃ g, Mg K H (upd (upd (upd (upd (upd H0 d (.dK [])) p1 (.tup [.str "truth", .str "length"])) p2 (.tup [.str "length"])) p3 (.tup [.str "walk", .str "item"])) d (.dK (mergeK [] [(.inr "truth", .ref p1), (.inr "size", .ref p2), (.inr "each", .ref p3)]))) d ["truth", "size", "each"] g := by
      refine ⟨fun o => if o = "truth" then p1 else if o = "size" then p2 else p3, ⟨?_, fd, by rw [upd_same]; rfl, fun o ho => sqT_upd nt ?_⟩⟩
      · exact Rd.sMut (((Rd.sMut s0 fd).trans S1).trans (S2.trans S3)) fd
      · simp only [List.mem_cons, List.not_mem_nil, or_false] at ho
        rcases ho with rfl | rfl | rfl
        · exact .inl (.inl (S3 _ _ (S2 _ _ upd_same)))
        · exact .inl (.inl (S3 _ _ upd_same))
        · exact .inl (.inl upd_same)
    have t1 := sqT_upd (z := .dK (mergeK [] [(.inr "truth", .ref p1), (.inr "size", .ref p2), (.inr "each", .ref p3)])) nt (sqT_same S3 (sqT_same S2 (sqT_same S1 (sqT_same (Rd.sNew hd) t0))))
    obtain ⟨g, M⟩ := M
    clear dd nt
    generalize upd (upd (upd (upd (upd H0 d (.dK [])) p1 (.tup [.str "truth", .str "length"])) p2 (.tup [.str "length"])) p3 (.tup [.str "walk", .str "item"])) d (.dK (mergeK [] [(.inr "truth", .ref p1), (.inr "size", .ref p2), (.inr "each", .ref p3)])) = H1 at M t1 ⊢
    clear S1 S2 S3 h1 h2 h3 hd d1
    repeat walk_at "rd"
    refine ⟨Rd.sz (by simp), fun p1 h1 => ?_⟩
    have S1 := Rd.sNew (o := .tup [.str "back", .str "count"]) h1
    repeat walk_at "rd"
    refine setM M S1 (.inl (.inl upd_same)) (by decide +kernel) (by decide) fun H2 g2 M2 k2 => ?_
    have t2 := k2 _ _ (sqT_same S1 t1)
    clear M t1 k2 S1 h1 H1 g p1
    repeat walk_at "rd"
    refine ⟨Rd.sz (by simp), fun p1 h1 => ?_⟩
    repeat walk_at "rd"
    refine ⟨Rd.sz (by simp), fun p2 h2 => ?_⟩
    repeat walk_at "rd"
    refine ⟨Rd.sz (by simp), fun p3 h3 => ?_⟩
    have S1 := Rd.sNew (o := .tup [.str "hash"]) h1
    have S2 := Rd.sNew (o := .tup [.str "call"]) h2
    have S3 := Rd.sNew (o := .tup [.ref p1, .ref p2]) h3
    refine gtup (.inl (.inl upd_same)) rfl (gc ?_)
    repeat walk_at "rd"
    refine setM M2 (S1.trans (S2.trans S3)) (.inl (.inl (S3 _ _ (S2 _ _ upd_same)))) (by decide +kernel) (by decide) fun H3 g3 M3 k3 => gc ?_
    repeat walk_at "rd"
    refine setM M3 (Same.refl _) (k3 _ _ (.inl (.inl (S3 _ _ upd_same)))) (by decide +kernel) (by decide) fun H4 g4 M4 k4 => gn ?_
    have t4 := k4 _ _ (k3 _ _ (sqT_same (S1.trans (S2.trans S3)) t2))
    clear M2 M3 k3 k4 S1 S2 S3 h1 h2 h3 t2
    repeat walk_at "rd"
    refine ⟨Rd.sz (by simp), fun p4 h4 => ?_⟩
    have S1 := Rd.sNew (o := .tup [.str "has", .str "walk", .str "item"]) h4
    repeat walk_at "rd"
    refine setM M4 S1 (.inl (.inl upd_same)) (by decide +kernel) (by decide) fun H5 g5 M5 k5 => ?_
    have t5 := k5 _ _ (sqT_same S1 t4)
    clear M4 k5 S1 h4 t4
    repeat walk_at "rd"
    refine setM M5 (Same.refl _) t5 (by decide +kernel) (by decide) fun H6 g6 M6 k6 => ?_
    have t6 := k6 _ _ t5
    clear M5 k6 t5
    repeat walk_at "rd"
    refine ⟨Rd.sz (by simp), fun p5 h5 => ?_⟩
    have S1 := Rd.sNew (o := .tup [.str "own", .str "like", .str "turned", .str "turned_like"]) h5
    repeat walk_at "rd"
    refine setM M6 S1 (.inl (.inl upd_same)) (by decide +kernel) (by decide) fun H7 g7 M7 k7 => ?_
    have t7 := k7 _ _ (sqT_same S1 t6)
    clear M6 k7 S1 h5 t6
    repeat walk_at "rd"
    refine ⟨Rd.sz (by simp), fun p6 h6 => ?_⟩
    have S1 := Rd.sNew (o := .tup [.ref two, .ref two]) h6
    refine gtup (.inl (.inl upd_same)) rfl (gc ?_)
    repeat walk_at "rd"
    refine setM M7 S1 (sqT_same S1 t7) (by decide +kernel) (by decide) fun H8 g8 M8 k8 => gc ?_
    repeat walk_at "rd"
    refine setM M8 (Same.refl _) (k8 _ _ (sqT_same S1 t7)) (by decide +kernel) (by decide) fun H9 g9 M9 k9 => gn ?_
    clear M7 M8 k8 k9 S1 h6 t7
    repeat walk_at "rd"
    refine ⟨Rd.sz (by simp), fun p7 h7 => ?_⟩
    have S1 := Rd.sNew (o := .tup [.str "grow", .str "plus"]) h7
    repeat walk_at "rd"
    refine setM M9 S1 (.inl (.inl upd_same)) (by decide +kernel) (by decide) fun H10 g10 M10 k10 => ?_
    repeat walk_at "rd"
    exact q d g10 H10 M10
end
end Ab
/-! t[::-1] of a tuple -/
namespace Tr
open PySem PyProof.Rows
open PySem.SeqAt
open PySem.MeetsSeq PySem.MeetsSeq2 PySem.MeetsSeq3
theorem range_back (n : Nat) : Builtin.Slice.sliceAdjust none none (-1) (n : Int) = ((n : Int) - 1, -1) ∧ Builtin.Slice.slicePlaces ((n : Int) - 1) (-1) (-1) = n := by
  refine ⟨rfl, ?_⟩
  unfold Builtin.Slice.slicePlaces
  rw [if_neg (by decide)]
  by_cases c : (n : Int) - 1 > -1
  · rw [if_pos c, show (-(-1) : Int) = 1 from rfl, Int.ediv_one]
    omega
  · rw [if_neg c]
    omega
theorem fm_congr {α β : Type} {f g : α → Option β} : ∀ {l : List α}, (∀ x ∈ l, f x = g x) → l.filterMap f = l.filterMap g
  | [], _ => rfl
  | a :: l, h => by
    rw [List.filterMap_cons, List.filterMap_cons, h a List.mem_cons_self, fm_congr fun x hx => h x (List.mem_cons_of_mem _ hx)]
theorem pick_back (us : Array Value) : ((List.range us.size).filterMap fun (k : Nat) => us[((us.size : Int) - 1 + (k : Int) * (-1)).toNat]?).toArray = us.toList.reverse.toArray := by
  have z : (us.toList.reverse.toArray).size = us.size := by rw [List.size_toArray, List.length_reverse, Array.length_toList]
  have all := PySem.W.krv_all us.toList.reverse.toArray
  rw [z] at all
  refine congrArg List.toArray (Eq.trans (fm_congr fun k hk => ?_) all)
  have lt := List.mem_range.mp hk
  have at_ : ((us.size : Int) - 1 + (k : Int) * (-1)).toNat = us.size - 1 - k := by omega
  have e : us.toList.reverse.toArray[k]? = us.toList.reverse[k]? := by simp
  rw [at_, e, List.getElem?_reverse (by rw [Array.length_toList]; exact lt), Array.length_toList, Array.getElem?_toList]
section
variable {prog : Program} {w : World} {A : Around} {E : Value → Shared → Prop} {s : Shared}
theorem get_back {a sl : Addr} {us : Array Value} {vs : Value} {Q : Value → Shared → Prop} (ha : IsTup s.heap a us) (hs : s.heap.IsSliceOf sl .none .none vs) (ps : IsPart vs (some (-1))) (hz : us.size ≤ sizeLine)
    (q : Q (.ref s.heap.objs.size) { s with heap := s.heap.push { cls := .type "tuple", data := .seq us.toList.reverse.toArray } }) : wpAny (model prog w) A (getItem (.ref a) (.ref sl)) Q E s := by
  obtain ⟨o, h1, h2, h3⟩ := id hs
  have fits : sizeOk (.seq us.toList.reverse.toArray) := by
    show us.toList.reverse.toArray.size ≤ sizeLine
    rw [List.size_toArray, List.length_reverse, Array.length_toList]
    exact hz
  have applied : ∀ {B : Around} {F : Value → Shared → Prop} {R : Int × Int × Nat → Shared → Prop}, R ((us.size : Int) - 1, -1, us.size) s → wpAny (model prog w) B (Builtin.Slice.sliceApplied (.ref sl) (pure (us.size : Int))) R F s := fun {B F R} r => by
    unfold Builtin.Slice.sliceApplied Builtin.Slice.sliceFields
    refine wpAny_bind (wpAny_bind (wpAny_field h1 h3 (x := .none) rfl (wpAny_bind (wpAny_field h1 h3 (x := .none) rfl (wpAny_bind (wpAny_field h1 h3 (x := vs) rfl (wpAny_pure ?_)))))))
    refine wpAny_bind (HT.slicePart_ ps ?_)
    show wpAny _ _ (if ((-1 : Int) == 0) = true then _ else _) _ _ s
    rw [if_neg (show ¬ ((-1 : Int) == 0) = true by decide)]
    refine wpAny_bind (HT.slicePart_ .none (wpAny_bind (HT.slicePart_ .none (wpAny_bind (wpAny_pure ?_)))))
    show wpAny _ _ (match Builtin.Slice.sliceAdjust none none (-1) (us.size : Int) with | (l, h) => pure (l, (-1 : Int), Builtin.Slice.slicePlaces l h (-1))) _ _ s
    obtain ⟨e1, e2⟩ := range_back us.size
    rw [e1]
    show wpAny _ _ (pure ((us.size : Int) - 1, (-1 : Int), Builtin.Slice.slicePlaces ((us.size : Int) - 1) (-1) (-1))) _ _ s
    rw [e2]
    exact wpAny_pure r
  unfold getItem
  try with_reducible refine wpAny_holding ?_
  first | refine wpAny_bind (wpAny_pure ?_) | skip
  refine wpAny_bind (wpAny_sequenceKey ha.typeIs (by decide) (wpAny_bind (wpAny_callSpecial?_slot (name := Str.ofString "__getitem__") ha.typeIs slot_tuple_getitem (wpAny_call_entry slot_tuple_getitem ha.typeIs PySem.F.entry_tuple_getitem ?_ (PySem.F.args_tuple_getitem_2 _ _)))))
  show wpAny _ _ (Builtin.Tuple.tupleItemsOf (.ref a) >>= _) _ _ s
  refine wpAny_bind (tupleItemsOf_ ha (wpAny_bind (wpAny_typeOf (T := "slice") ⟨o, h1, h2⟩ ?_)))
  rw [if_pos (show (Value.type "slice" == Value.type "slice") = true by decide)]
  refine wpAny_bind (applied ?_)
  show wpAny _ _ (if (((us.size : Int) - 1 == 0 && (-1 : Int) == 1 && us.size == us.size)) = true then _ else _) _ _ s
  rw [if_neg (show ¬ ((us.size : Int) - 1 == 0 && (-1 : Int) == 1 && us.size == us.size) = true by simp), pick_back]
  first
    | exact wpAny_bind (m := Builtin.Tuple.tupleExact _) (wpAny_newObj_type (wpAny_pure ⟨_, rfl, wpAny_pure q⟩) fits)
    | exact wpAny_bind (m := Builtin.Tuple.tupleExact _) (wpAny_newObj_type (wpAny_bind (wpAny_pure (wpAny_pure ⟨_, rfl, wpAny_pure q⟩))) fits)
    | exact wpAny_bind (wpAny_bind (m := Builtin.Tuple.tupleExact _) (wpAny_newObj_type (wpAny_pure (wpAny_pure ⟨_, rfl, wpAny_pure q⟩)) fits))
    | exact wpAny_bind (wpAny_bind (m := Builtin.Tuple.tupleExact _) (wpAny_newObj_type (wpAny_pure ⟨_, rfl, wpAny_pure q⟩) fits))
end
section
open PySem.Spec L2
variable {X : Cx}
def tRevT (K : PySem.W.Frag) (te : TE) : TE := fun τ G Q => te τ G fun x G1 => ∃ a xs, x = .ref a ∧ SqT K G1 a xs ∧ ∀ p, G1 p = none → Q (.ref p) (upd G1 p (.tup xs.reverse))
theorem pe_revT {e : Expr} {te : TE} {k : Nat} {p1 p2 p3 pos : Pos} (he : PE X e te) : PE X (.Subscript e (.Slice none none (some (.UnaryOp .USub (.Constant (.int 1) k p1) p2)) p3) pos) (tRevT X.K te) := by
  have step : PO X (some (.UnaryOp .USub (.Constant (.int 1) k p1) p2)) (tPart (tUn (rU fun i => .int (-i)) (tC (.int 1)))) := po_some (pe_un un_neg pe_int)
  refine ⟨fun pins s τ G Q I h => Subscript_ (thn (he.run pins s τ G _ I h) fun v s1 ⟨x, G1, I1, r1, a, xs, ex, hx, q⟩ => ?_)⟩
  subst ex
  cases r1
  refine wpAny_Slice (thn (po_none.run pins s1 τ G1 (fun o K => o = none ∧ K = G1) I1 ⟨rfl, rfl⟩) fun _ s2 ⟨_, G2, I2, pl, e2, f2⟩ => ?_)
  cases pl with
  | int => cases e2
  | none => ?_
  subst f2
  refine thn (po_none.run pins s2 τ G2 (fun o K => o = none ∧ K = G2) I2 ⟨rfl, rfl⟩) fun _ s3 ⟨_, G3, I3, pu, e3, f3⟩ => ?_
  cases pu with
  | int => cases e3
  | none => ?_
  subst f3
  refine thn (step.run pins s3 τ G3 (fun o K => o = some (-1) ∧ K = G3) I3 ⟨1, rfl, -1, rfl, rfl, rfl⟩) fun vs s4 ⟨_, G4, I4, ps, e4, f4⟩ => ?_
  subst e4 f4
  have I5 : Inv X pins τ G4 { s4 with heap := s4.heap.push { cls := .type "slice", data := .fields #[.none, .none, vs] } } := I4.kept (t' := s4.toks) fun _ _ z => Heap.get?_push_of_some _ z
  obtain ⟨us, r, ht, hz⟩ := I5.tuple hx
  have len := r.length
  refine tail_any (value := e) (slice := .Slice none none (some (.UnaryOp .USub (.Constant (.int 1) k p1) p2)) p3) (ops := [.ref a, .ref s4.heap.objs.size]) ht.typeIs slot_tuple_getitem.lookup ?_ (by with_unfolding_all rfl)
  refine get_back ht (Heap.IsSliceOf.new _ .none .none vs) ps (by rw [List.size_toArray]; omega) ?_
  refine ⟨.ref _, _, I5.laid (t' := s4.toks) (o := .tup xs.reverse) (fun _ _ z => Heap.get?_push_of_some _ z) (Nat.le_refl _) ?_, rfl, q _ (I5.hok.fresh (Nat.le_refl _))⟩
  exact ⟨by rw [List.length_reverse]; exact hz, _, r.reverse, IsTup.new _ _⟩
end
end Tr
namespace Fz
open PySem.Spec PyProof.Rows
/-- a container that e has just made, locked from here on -/
def tFrz (t : TE) : TE := fun τ G Q => t τ G fun x G1 => ∃ d u, x = .ref d ∧ G1 d = some u ∧ Mut (some u) ∧ ∀ od, Q x (upd G1 d (.frz od u))
theorem pe_frz {X : Cx} {e : Expr} {t : TE} (h : PE X e t) : PE X e (tFrz t) := by
  refine ⟨fun pins s τ G Q I q => thn (h.run pins s τ G _ I q) fun u s1 ⟨x, G1, I1, r, d, o, ex, hd, mu, k⟩ => ?_⟩
  obtain ⟨od, I2⟩ := I1.lock hd mu
  exact ⟨x, _, I2, r, k od⟩
theorem frz {t : TE} {τ : L2.St} {G : Hp} {Q : VK} (k : t τ G fun x G1 => ∃ d u, x = .ref d ∧ G1 d = some u ∧ Mut (some u) ∧ ∀ od, Q x (upd G1 d (.frz od u))) : tFrz t τ G Q := k
end Fz
namespace Ab
open PySem.Spec PyProof.Rows
/-- a for over the keys of a dict, which is locked meanwhile -/
theorem forK {j : Nat} {td : TE} {tb : TS} {D : Ends} {σ : L2.St} {H : Hp} {d : Addr} {l : List Str} {F : Str → V} (Pv : Obj → Nat → L2.St → Hp → Prop) (htd : ∀ (od : Obj) (R : V → Hp → Prop), R (.ref d) (upd H d (.frz od (.dK (tab l F)))) → td σ (upd H d (.frz od (.dK (tab l F)))) R) (hd : H d = some (.dK (tab l F)))
    (h0 : ∀ od, Pv od 0 σ (upd H d (.frz od (.dK (tab l F))))) (hG : ∀ od i σ1 H1, Pv od i σ1 H1 → H1 d = some (.frz od (.dK (tab l F))))
    (hs : ∀ od i (hi : i < l.length) σ1 H1 rt bk, Pv od i σ1 H1 → tb { nx := Pv od (i + 1), rt := rt, bk := bk, ct := Pv od (i + 1) } (σ1.set j (some (.str l[i]))) H1)
    (he : ∀ od σ1 H1, Pv od l.length σ1 H1 → D.nx σ1 (upd H1 d (.dK (tab l F)))) : tLock (tFor (iKeys td) (gName j) tb) D σ H := by
  refine ⟨d, _, hd, True.intro, fun od => htd od _ ⟨d, od, rfl, .inl ⟨_, upd_same, ?_⟩⟩⟩
  refine for_it (walk_keys (d := d) (o := od) (kvs := tab l F)) (Pv od) (h0 od) (fun i σ1 H1 _ p => hG od i σ1 H1 p) ?_ ?_
  · rintro i x σ1 H1 H1' hi p ⟨rfl, k, v, hk, rfl⟩
    rw [tab_len] at hi
    have ek : k = .inr l[i] := by
      have : (tab l F)[i]? = some (.inr l[i], F l[i]) := by simp [tab, hi]
      rw [this] at hk
      cases hk
      rfl
    subst ek
    exact hs od i hi σ1 _ _ _ p
  · intro σ1 H1 p
    rw [tab_len] at p
    exact ⟨hG od _ σ1 H1 p, he od σ1 H1 p⟩
/-! ### the law's own books -/
structure Own (K : PySem.W.Frag) (H : Hp) (o w f : Addr) (g : Str → Addr) (m : Str → List Str) (fl : Str → Bool) : Prop where
  od : H o = some (.dK [(.inr "ways", .ref w), (.inr "flags", .ref f)])
  wd : H w = some (.dK (tab ops fun y => .ref (g y)))
  fd : H f = some (.lst (flagsW.map fun x => .bl (fl x)))
  tp : ∀ y ∈ ops, SqT K H (g y) ((m y).map V.str)
  ne : o ≠ w
theorem Own.mono {K : PySem.W.Frag} {H H' : Hp} {o w f : Addr} {g : Str → Addr} {m : Str → List Str} {fl : Str → Bool} (k : Own K H o w f g m fl) (s : Same H H') : Own K H' o w f g m fl :=
  ⟨s _ _ k.od, s _ _ k.wd, s _ _ k.fd, fun y hy => sqT_same s (k.tp y hy), k.ne⟩
theorem Own.ways {K : PySem.W.Frag} {H : Hp} {o w f : Addr} {g : Str → Addr} {m : Str → List Str} {fl : Str → Bool} (k : Own K H o w f g m fl) : DGet H o (.str "ways") (some (.ref w)) := .inl ⟨_, .inr "ways", .inl k.od, rfl, rfl⟩
theorem Own.flags {K : PySem.W.Frag} {H : Hp} {o w f : Addr} {g : Str → Addr} {m : Str → List Str} {fl : Str → Bool} (k : Own K H o w f g m fl) : DGet H o (.str "flags") (some (.ref f)) := .inl ⟨_, .inr "flags", .inl k.od, rfl, rfl⟩
def NewOwn (K : PySem.W.Frag) (m : Str → List Str) (fl : Str → Bool) (Q : VK) (H : Hp) : Prop := ∀ o w f g H', Same H H' → H o = none → H w = none → H f = none → Own K H' o w f g m fl → Q (.ref o) H'
/-- all but what stands at A stays -/
def Chg (A : List Addr) (H H' : Hp) : Prop := ∀ a u, H a = some u → a ∉ A → H' a = some u
section
variable {A B : List Addr} {H H1 H2 : Hp} {a p : Addr} {o : HO}
theorem Chg.refl : Chg A H H := fun _ _ e _ => e
theorem Chg.same (c : Chg A H H1) (s : Same H1 H2) : Chg A H H2 := fun b u e n => s _ _ (c b u e n)
theorem Chg.upd (c : Chg A H H1) (m : a ∈ A) : Chg A H (L2.upd H1 a o) := fun b u e n => by
  rw [upd_ne (fun z => n (by rw [z]; exact m))]
  exact c b u e n
theorem Chg.keep (c : Chg A H H1) (k : Keep p H1 H2) (m : p ∈ A) : Chg A H H2 := fun b u e n => k b u (fun z => n (by rw [z]; exact m)) (c b u e n)
theorem Chg.sub (c : Chg A H H1) (h : ∀ x ∈ A, x ∈ B) : Chg B H H1 := fun b u e n => c b u e fun z => n (h b z)
theorem chg1 : Chg [a] H (L2.upd H a o) := Chg.refl.upd List.mem_cons_self
theorem Keep.chg (k : Keep p H H1) : Chg [p] H H1 := fun b u e n => k b u (by simpa using n) e
end
section
variable {K : PySem.W.Frag} {C : Addr} {A : List Addr} {H H' : Hp} {b w f o q : Addr} {g : Str → Addr} {m : Str → List Str} {fl : Str → Bool} {xs : List V}
theorem sqT_chg (c : Chg A H H') (nt : ∀ a ∈ A, NoTup H a) (h : SqT K H q xs) : SqT K H' q xs := by
  rcases h with (h | ⟨o, h⟩) | h
  · exact .inl (.inl (c _ _ h fun m => (nt _ m _ h).1 _ rfl))
  · exact .inl (.inr ⟨o, c _ _ h fun m => (nt _ m _ h).2 _ _ rfl⟩)
  · exact .inr h
theorem Bk.chg (k : Bk K C H b w f g m fl) (c : Chg A H H') (nt : ∀ a ∈ A, NoTup H a) (hb : b ∉ A) (hw : w ∉ A) (hf : f ∉ A) : Bk K C H' b w f g m fl :=
  ⟨let ⟨dx, h⟩ := k.ins; ⟨dx, c _ _ h hb⟩, c _ _ k.wd hw, c _ _ k.fd hf, fun y hy => sqT_chg c nt (k.tp y hy), k.ne⟩
theorem Own.chg (k : Own K H o w f g m fl) (c : Chg A H H') (nt : ∀ a ∈ A, NoTup H a) (ho : o ∉ A) (hw : w ∉ A) (hf : f ∉ A) : Own K H' o w f g m fl :=
  ⟨c _ _ k.od ho, c _ _ k.wd hw, c _ _ k.fd hf, fun y hy => sqT_chg c nt (k.tp y hy), k.ne⟩
theorem Own.setW {t y : Addr} {x : Str} {ws : List Str} (k : Own K H o w f g m fl) (s : SqT K H t (ws.map V.str)) : Own K (upd H w (.dK (tab ops fun y => .ref (gput g x t y)))) o w f (gput g x t) (mput m x ws) fl := by
  have nt := nt_dK k.wd
  refine ⟨by rw [upd_ne k.ne]; exact k.od, upd_same, ?_, fun y hy => ?_, k.ne⟩
  · rw [upd_ne (fun e => by have := k.fd; rw [e, k.wd] at this; cases this)]; exact k.fd
  · unfold gput mput
    by_cases e : y = x
    · rw [if_pos e, if_pos e]; exact sqT_upd nt s
    · rw [if_neg e, if_neg e]; exact sqT_upd nt (k.tp y hy)
theorem Own.setF {x : Str} {c : Bool} (k : Own K H o w f g m fl) : Own K (upd H f (.lst (flagsW.map fun y => .bl (fput fl x c y)))) o w f g m (fput fl x c) := by
  have nt := nt_lst k.fd
  refine ⟨?_, ?_, upd_same, fun y hy => sqT_upd nt (k.tp y hy), k.ne⟩
  · rw [upd_ne (fun e => by have := k.od; rw [e, k.fd] at this; cases this)]; exact k.od
  · rw [upd_ne (fun e => by have := k.wd; rw [e, k.fd] at this; cases this)]; exact k.wd
end
theorem flag_set (fl : Str → Bool) (c : Bool) : ∀ i (hi : i < flagsW.length), (flagsW.map fun x => V.bl (fl x)).set i (.bl c) = flagsW.map fun x => .bl (fput fl flagsW[i] c x) := by
  intro i hi
  have e : i = 0 ∨ i = 1 ∨ i = 2 := by have : flagsW.length = 3 := rfl; omega
  rcases e with rfl | rfl | rfl <;> rfl
theorem mem_menu_len : ∀ o ∈ ops, (menu o).Nodup ∧ (menu o).length ≤ 20 := by decide +kernel
theorem ways_ok {o : Str} {ws : List Str} (nd : ws.Nodup) (h : ∀ z ∈ ws, z ∈ menu o) : waysOk o (ws.map V.str) = true := by
  have e : ∀ l : List Str, strsOf (l.map V.str) = l := fun l => by
    induction l with
    | nil => rfl
    | cons a l ih => show a :: strsOf (l.map V.str) = _; rw [ih]
  rw [waysOk, e, decide_eq_true nd, Bool.and_true, List.all_eq_true]
  intro x hx
  obtain ⟨z, hz, rfl⟩ := List.mem_map.mp hx
  exact decide_eq_true (h z hz)
theorem len_sub {ws l : List Str} (nd : ws.Nodup) (h : ∀ z ∈ ws, z ∈ l) : ws.length ≤ l.length := by
  induction ws generalizing l with
  | nil => simp
  | cons a ws ih =>
    rw [List.nodup_cons] at nd
    have ha := h a List.mem_cons_self
    have := ih (l := l.erase a) nd.2 fun z hz => by
      refine (List.mem_erase_of_ne (fun e => nd.1 (by rw [← e]; exact hz))).mpr (h z (List.mem_cons_of_mem _ hz))
    rw [List.length_erase_of_mem ha] at this
    have : 0 < l.length := List.length_pos_of_mem ha
    rw [List.length_cons]
    omega

theorem Rd.setS {C : Addr} {sp : Sp} {E : L2.St → XK} {to ti : TE} {v : V} {σ : L2.St} {H : Hp} {Q : L2.St → Hp → Prop} (k : to σ H fun x H1 => ti σ H1 fun y H2 => ∃ a dx fs, x = .ref a ∧ H2 a = some (.ins C dx fs) ∧ sp [.ref a, y, v] H2 (fun _ H3 => Q σ H3) (E σ)) : Et.gSetS C sp E to ti v σ H Q := k
theorem Rd.getS {C : Addr} {sp : Sp} {E : L2.St → XK} {ta tb : TE} {σ : L2.St} {H : Hp} {Q : VK} (k : ta σ H fun x H1 => tb σ H1 fun y H2 => ∃ a dx fs, x = .ref a ∧ H2 a = some (.ins C dx fs) ∧ sp [.ref a, y] H2 Q (E σ)) : Et.tGetS C sp E ta tb σ H Q := k
theorem Rd.methS {m : Str} {C : Addr} {sp : Sp} {E : L2.St → XK} {ta : TE} {t : TA} {σ : L2.St} {H : Hp} {Q : VK} (k : ta σ H fun x H1 => ∃ a dx fs, x = .ref a ∧ H1 a = some (.ins C dx fs) ∧ fs.lookup m = none ∧ t σ H1 fun vs H2 => sp (x :: vs) H2 Q (E σ)) : Et.tMethS m C sp E ta t σ H Q := k
theorem Rd.xf {a C : Addr} {cls : Value} {d : Option Addr} {f : Str} {te : TE} {σ : L2.St} {H : Hp} {Q : VK} (k : te σ H fun x H1 => x = .ref a ∧ cls = .ref C ∧ ∃ (dd : Addr) (fs : List (Str × V)) (v : V), d = some dd ∧ H1 dd = some (.xd fs) ∧ fs.lookup f = some v ∧ Q v H1) : tXf a cls d C f te σ H Q := k
theorem Rd.revT {K : PySem.W.Frag} {te : TE} {σ : L2.St} {H : Hp} {Q : VK} (k : te σ H fun x H1 => ∃ a xs, x = .ref a ∧ SqT K H1 a xs ∧ ∀ p, H1 p = none → Q (.ref p) (upd H1 p (.tup xs.reverse))) : Tr.tRevT K te σ H Q := k
/-- how a value answers to isinstance and to repr -/
def Tells (K : PySem.W.Frag) (v : V) (t : Str) (tn : String) (H : Hp) : Prop := Kd K H v tn ∧ ∀ Q : VK, Q (.str t) H → rReprX K [v] H Q
/-- a plain value, or a container at q -/
def OddV (K : PySem.W.Frag) (H : Hp) (v : V) (t : Str) (tn : String) : Prop := (∀ H', Tells K v t tn H') ∨ ∃ q o, v = .ref q ∧ H q = some o ∧ ∀ H', H' q = some o → Tells K v t tn H'
section
variable {K : PySem.W.Frag} {H H' : Hp} {v : V} {t : Str} {tn : String} {A : List Addr}
theorem OddV.here (h : OddV K H v t tn) : Tells K v t tn H := by
  rcases h with h | ⟨q, o, rfl, e, h⟩
  · exact h H
  · exact h H e
theorem OddV.mono (s : Same H H') (h : OddV K H v t tn) : OddV K H' v t tn := by
  rcases h with h | ⟨q, o, rfl, e, h⟩
  · exact .inl h
  · exact .inr ⟨q, o, rfl, s _ _ e, h⟩
theorem OddV.chg (c : Chg A H H') (n : ∀ a ∈ A, v ≠ .ref a) (h : OddV K H v t tn) : OddV K H' v t tn := by
  rcases h with h | ⟨q, o, rfl, e, h⟩
  · exact .inl h
  · exact .inr ⟨q, o, rfl, c _ _ e fun m => n _ m rfl, h⟩
end
/-- x is no set of ways of o -/
def Bad (K : PySem.W.Frag) (H : Hp) (o : Str) (x : V) : Prop := (∃ tx, TyX K H x (.type tx) ∧ kitB tx "tuple" = some false) ∨
  ∃ (p : Addr) (xs : List V), x = .ref p ∧ SqT K H p xs ∧ xs.length ≤ 1000 ∧ (∀ y ∈ xs, ∀ H', Same H H' → ∃ tn, Kd K H' y tn) ∧ waysOk o xs = false
structure Errs (K : PySem.W.Frag) (CA CN CW CF : Addr) : Prop where
  aN : PySem.W.kitOne K (.ref CN) (.ref CA) = some true
  vN : PySem.W.kitOne K (.ref CN) (.type "ValueError") = some true
  aW : PySem.W.kitOne K (.ref CW) (.ref CA) = some true
  vW : PySem.W.kitOne K (.ref CW) (.type "ValueError") = some true
  aF : PySem.W.kitOne K (.ref CF) (.ref CA) = some true
  vF : PySem.W.kitOne K (.ref CF) (.type "ValueError") = some true
  nW : PySem.W.exmOne K (.ref CW) (.ref CN) = some false
end Ab
namespace Ab
open PySem.Spec PyProof.Rows
local macro_rules | `(tactic| walk_at "rd") => `(tactic| (with_reducible first | refine Rd.setS ?_ | refine Rd.methS ?_ | refine Rd.getS ?_ | refine Rd.xf ?_ | refine Rd.dget ?_))
theorem new4 {H H2 : Hp} {l : Addr} {o : HO} (s : Same H H2) (hl : H2 l = none) : Same H (upd H2 l o) ∧ H l = none ∧ upd H2 l o l = some o := ⟨s.trans (Rd.sNew hl), Same.fr s hl, upd_same⟩
section
variable {P : Program} {w : World} {K : PySem.W.Frag} {mg : Str → Option Value} {base : Heap}
abbrev sL_set : Stmt := top 24
abbrev nL_set : List Str := ["_law_book_here", "_law_operation", "_law_ways", "e"]
theorem scL_set : FnScope nL_set ["_law_book_here", "_law_operation", "_law_ways"] (defScope sL_set) := ⟨rfl, rfl, rfl, by decide +kernel, rfl, by decide +kernel, by decide +kernel⟩
def spLSet (K : PySem.W.Frag) (C : Addr) : Sp := fun vs H Q _ => ∃ (b w f : Addr) (g : Str → Addr) (m : Str → List Str) (fl : Str → Bool) (v x : V), vs = [.ref b, v, x] ∧ Bk K C H b w f g m fl ∧
  ((∃ t tn, OddV K H v t tn ∧ isIn v ops = false ∧ ∀ l H', Same H H' → H l = none → H' l = some (.lst [.str "name", .str t, .bl true, .bl true]) → Q (.ref l) H') ∨
    ∃ o, v = .str o ∧ o ∈ ops ∧ ((∃ t, (∀ H' (Q' : VK), Q' (.str t) H' → rReprX K [.str o] H' Q') ∧ Bad K H o x ∧ ∀ l H', Same H H' → H l = none → H' l = some (.lst [.str "ways", .str t, .bl true, .bl true]) → Q (.ref l) H') ∨
      ∃ (p : Addr) (ws : List Str), x = .ref p ∧ SqT K H p (ws.map V.str) ∧ ws.length ≤ 1000 ∧ waysOk o (ws.map V.str) = true ∧ ∀ H', Same H H' → Q (.str "set") (upd H' w (.dK (tab ops fun y => .ref (gput g o p y))))))
theorem ok_lset (T : Txt K mg) {C_Book C_AnswerError C_NoName C_NoWays C_NoFlag : Addr} (R : Errs K C_AnswerError C_NoName C_NoWays C_NoFlag) (T_NoName : Ex.ErrC K mg "NoName" "value" C_NoName) (T_NoWays : Ex.ErrC K mg "NoWays" "operation" C_NoWays) (G_AnswerError : mg "AnswerError" = some (.ref C_AnswerError))
    (U_Book : Ob.GetCal P w K mg base (L2.CX P w) C_Book 4 "__setitem__" (spSet K C_Book C_NoName C_NoWays)) (D : DefAt K mg "_law_set" sL_set ["_law_book_here", "_law_operation", "_law_ways"]) : CalG P w K mg base 5 "_law_set" (spLSet K C_Book) := by
  refine D.by scL_set (fun vs H Q E h => ?_) (fun f cd A hg outer s H vs Q E hr h => ?_)
  · obtain ⟨_, _, _, _, _, _, _, _, rfl, _⟩ := h
    rfl
  · obtain ⟨b, w0, f0, g, m, fl, v, x, rfl, bk, h⟩ := h
    obtain ⟨dx, hb⟩ := bk.ins
    refine ⟨_, (pss_cons (Et.ps_tryN (i := 3) (out := fun _ _ _ _ => False) rfl rfl scL_set.nd rfl rfl takes0
  (fun W pn xe tk _ => (pss_one (ps_asg (pv 2) (Et.pg_setS tk U_Book hg hr (by decide) (pv 0) (pv 1)))))
  (Et.Clauses.cons ⟨rfl, by decide, Or.inl T_NoName.g⟩ (fun a oe cls d pn hz hf => (pss_one (ps_ret (pe_lst (pa_cons pe_str (pa_cons (pe_callB (r := rReprX K) (call_reprX hg hr.units) (by rfl) T.repr (by decide +kernel) (pa_cons (pe_xf T_NoName.xf T_NoName.no hz hf (pv 3)) pa_nil)) (pa_cons (pe_callB (r := Ex.rIsD K C_NoName a cls d) (Ex.call_isD T_NoName.ic hz hf) (by rfl) T.isinstance (by decide +kernel) (pa_cons (pv 3) (pa_cons (pe_glob (v := .ref C_AnswerError) (by rfl) G_AnswerError rfl) pa_nil))) (pa_cons (pe_callB (r := Ex.rIsD K C_NoName a cls d) (Ex.call_isD T_NoName.ic hz hf) (by rfl) T.isinstance (by decide +kernel) (pa_cons (pv 3) (pa_cons (pe_bltn (v := .ty "ValueError") (by rfl) T.ValueError (by decide +kernel) rfl) pa_nil))) pa_nil))))))))
  (Et.Clauses.cons ⟨rfl, by decide, Or.inl T_NoWays.g⟩ (fun a oe cls d pn hz hf => (pss_one (ps_ret (pe_lst (pa_cons pe_str (pa_cons (pe_callB (r := rReprX K) (call_reprX hg hr.units) (by rfl) T.repr (by decide +kernel) (pa_cons (pe_xf T_NoWays.xf T_NoWays.no hz hf (pv 3)) pa_nil)) (pa_cons (pe_callB (r := Ex.rIsD K C_NoWays a cls d) (Ex.call_isD T_NoWays.ic hz hf) (by rfl) T.isinstance (by decide +kernel) (pa_cons (pv 3) (pa_cons (pe_glob (v := .ref C_AnswerError) (by rfl) G_AnswerError rfl) pa_nil))) (pa_cons (pe_callB (r := Ex.rIsD K C_NoWays a cls d) (Ex.call_isD T_NoWays.ic hz hf) (by rfl) T.isinstance (by decide +kernel) (pa_cons (pv 3) (pa_cons (pe_bltn (v := .ty "ValueError") (by rfl) T.ValueError (by decide +kernel) rfl) pa_nil))) pa_nil))))))))
  Et.Clauses.nil)))
  (pss_one (ps_ret pe_str))), ?_⟩
    repeat walk_at "rd"
    rcases h with ⟨t, tn, od, no, q⟩ | ⟨o, rfl, ho, h⟩
    · refine ⟨b, dx, _, rfl, hb, b, w0, f0, g, m, fl, v, x, tn, rfl, bk, od.here.1, fun _ H1 s1 dd hdd => ⟨true, T_NoName.te, fun _ a0 ha0 => ?_, fun z => nomatch z⟩, fun o ev ho => ?_⟩
      · have s2 := s1.trans (Rd.sNew (o := .xd [(("value" : Str), v)]) hdd)
        repeat walk_at "rd"
        refine ⟨rfl, dd, _, v, rfl, upd_same, by simp [List.lookup], ?_⟩
        repeat walk_at "rd"
        refine (od.mono s2).here.2 _ ?_
        repeat walk_at "rd"
        refine ⟨_, _, true, dd, _, rfl, .own _, rfl, rfl, upd_same, R.aN, ?_⟩
        repeat walk_at "rd"
        refine ⟨_, _, true, dd, _, rfl, .ty _, rfl, rfl, upd_same, R.vN, ?_⟩
        repeat walk_at "rd"
        refine ⟨Rd.sz (by simp), fun l hl => ?_⟩
        obtain ⟨n1, n2, n3⟩ := new4 (o := .lst [.str "name", .str t, .bl true, .bl true]) s2 hl
        exact q l _ n1 n2 n3
      · subst ev
        rw [show isIn (.str o) ops = true from decide_eq_true ho] at no
        cases no
    · refine ⟨b, dx, _, rfl, hb, b, w0, f0, g, m, fl, .str o, x, "str", rfl, bk, kd_str _, fun c => ?_, fun o' eo _ => ?_⟩
      · rw [show isIn (.str o) ops = true from decide_eq_true ho] at c; cases c
      · obtain rfl := V.str.inj eo
        rcases h with ⟨t, rp, bad, q⟩ | ⟨p, ws, rfl, hp, hl, wo, q⟩
        · rcases bad with ⟨tx, ty, kt⟩ | ⟨p, xs, rfl, hp, hl, hk, wb⟩
          · refine .inl ⟨tx, ty, kt, fun H1 s1 dd hdd => ?_⟩
            refine ⟨false, R.nW, (fun z => nomatch z), fun _ => ⟨true, T_NoWays.te, fun _ a0 ha0 => ?_, fun z => nomatch z⟩⟩
            have s2 := s1.trans (Rd.sNew (o := .xd [(("operation" : Str), .str o)]) hdd)
            repeat walk_at "rd"
            refine ⟨rfl, dd, _, .str o, rfl, upd_same, by simp [List.lookup], ?_⟩
            repeat walk_at "rd"
            refine rp _ _ ?_
            repeat walk_at "rd"
            refine ⟨_, _, true, dd, _, rfl, .own _, rfl, rfl, upd_same, R.aW, ?_⟩
            repeat walk_at "rd"
            refine ⟨_, _, true, dd, _, rfl, .ty _, rfl, rfl, upd_same, R.vW, ?_⟩
            repeat walk_at "rd"
            refine ⟨Rd.sz (by simp), fun l hl => ?_⟩
            obtain ⟨n1, n2, n3⟩ := new4 (o := .lst [.str "ways", .str t, .bl true, .bl true]) s2 hl
            exact q l _ n1 n2 n3
          · refine .inr ⟨p, xs, rfl, hp, hl, hk, fun _ H1 s1 dd hdd => ?_, fun c => (by rw [wb] at c; cases c)⟩
            refine ⟨false, R.nW, (fun z => nomatch z), fun _ => ⟨true, T_NoWays.te, fun _ a0 ha0 => ?_, fun z => nomatch z⟩⟩
            have s2 := s1.trans (Rd.sNew (o := .xd [(("operation" : Str), .str o)]) hdd)
            repeat walk_at "rd"
            refine ⟨rfl, dd, _, .str o, rfl, upd_same, by simp [List.lookup], ?_⟩
            repeat walk_at "rd"
            refine rp _ _ ?_
            repeat walk_at "rd"
            refine ⟨_, _, true, dd, _, rfl, .own _, rfl, rfl, upd_same, R.aW, ?_⟩
            repeat walk_at "rd"
            refine ⟨_, _, true, dd, _, rfl, .ty _, rfl, rfl, upd_same, R.vW, ?_⟩
            repeat walk_at "rd"
            refine ⟨Rd.sz (by simp), fun l hl => ?_⟩
            obtain ⟨n1, n2, n3⟩ := new4 (o := .lst [.str "ways", .str t, .bl true, .bl true]) s2 hl
            exact q l _ n1 n2 n3
        · refine .inr ⟨p, ws.map V.str, rfl, hp, by rw [List.length_map]; exact hl, fun y hy H' _ => ?_, fun c => (by rw [wo] at c; cases c), fun _ H' s' => ?_⟩
          · obtain ⟨z, _, rfl⟩ := List.mem_map.mp hy
            exact ⟨_, kd_str z⟩
          · repeat walk_at "rd"
            exact q H' s'
abbrev sL_got : Stmt := top 25
abbrev nL_got : List Str := ["_law_book_here", "_law_operation", "e"]
theorem scL_got : FnScope nL_got ["_law_book_here", "_law_operation"] (defScope sL_got) := ⟨rfl, rfl, rfl, by decide +kernel, rfl, by decide +kernel, by decide +kernel⟩
def spLGot (K : PySem.W.Frag) (C : Addr) : Sp := fun vs H Q _ => ∃ (b w f : Addr) (g : Str → Addr) (m : Str → List Str) (fl : Str → Bool) (v : V), vs = [.ref b, v] ∧ Bk K C H b w f g m fl ∧
  ((∃ t tn, OddV K H v t tn ∧ isIn v ops = false ∧ ∀ l H', Same H H' → H l = none → H' l = some (.lst [.str "name", .str t]) → Q (.ref l) H') ∨
    ∃ o, v = .str o ∧ o ∈ ops ∧ ∀ l H', Same H H' → H l = none → H' l = some (.lst [.str "got", .ref (g o)]) → Q (.ref l) H')
theorem ok_lgot (T : Txt K mg) {C_Book C_NoName : Addr} (T_NoName : Ex.ErrC K mg "NoName" "value" C_NoName) (G_Book : Ob.GetCal P w K mg base (L2.CX P w) C_Book 4 "__getitem__" (spGet K C_Book C_NoName))
    (D : DefAt K mg "_law_got" sL_got ["_law_book_here", "_law_operation"]) : CalG P w K mg base 6 "_law_got" (spLGot K C_Book) := by
  refine D.by scL_got (fun vs H Q E h => ?_) (fun f cd A hg outer s H vs Q E hr h => ?_)
  · obtain ⟨_, _, _, _, _, _, _, rfl, _⟩ := h
    rfl
  · obtain ⟨b, w0, f0, g, m, fl, v, rfl, bk, h⟩ := h
    obtain ⟨dx, hb⟩ := bk.ins
    refine ⟨_, (pss_one (ps_try_as (i := 2) (Wout := fun _ _ _ _ => False) rfl rfl scL_got.nd rfl rfl ⟨rfl, by decide, Or.inl T_NoName.g⟩ takes0
  (fun W pn xe tk _ => (pss_one (ps_ret (pe_lst (pa_cons pe_str (pa_cons (Et.getS tk G_Book hg hr (by decide) (pv 0) (pv 1) (fun _ _ => rfl)) pa_nil))))))
  (fun a oe cls d pn hz hf => (pss_one (ps_ret (pe_lst (pa_cons pe_str (pa_cons (pe_callB (r := rReprX K) (call_reprX hg hr.units) (by rfl) T.repr (by decide +kernel) (pa_cons (pe_xf T_NoName.xf T_NoName.no hz hf (pv 2)) pa_nil)) pa_nil)))))))), ?_⟩
    repeat walk_at "rd"
    rcases h with ⟨t, tn, od, no, q⟩ | ⟨o, rfl, ho, q⟩
    · refine ⟨b, dx, _, rfl, hb, b, w0, f0, g, m, fl, v, tn, rfl, bk, od.here.1, fun o ev ho => ?_, fun _ H1 s1 dd hdd => ⟨true, T_NoName.te, fun _ a0 ha0 => ?_, fun z => nomatch z⟩⟩
      · subst ev
        rw [show isIn (.str o) ops = true from decide_eq_true ho] at no
        cases no
      · have s2 := s1.trans (Rd.sNew (o := .xd [(("value" : Str), v)]) hdd)
        repeat walk_at "rd"
        refine ⟨rfl, dd, _, v, rfl, upd_same, by simp [List.lookup], ?_⟩
        repeat walk_at "rd"
        refine (od.mono s2).here.2 _ ?_
        repeat walk_at "rd"
        refine ⟨Rd.sz (by simp), fun l hl => ?_⟩
        obtain ⟨n1, n2, n3⟩ := new4 (o := .lst [.str "name", .str t]) s2 hl
        exact q l _ n1 n2 n3
    · refine ⟨b, dx, _, rfl, hb, b, w0, f0, g, m, fl, .str o, "str", rfl, bk, kd_str _, fun o' eo _ => ?_, fun c => ?_⟩
      · obtain rfl := V.str.inj eo
        repeat walk_at "rd"
        refine ⟨Rd.sz (by simp), fun l hl => ?_⟩
        obtain ⟨n1, n2, n3⟩ := new4 (o := .lst [.str "got", .ref (g o)]) (Same.refl _) hl
        exact q l _ n1 n2 n3
      · rw [show isIn (.str o) ops = true from decide_eq_true ho] at c; cases c
abbrev sL_flagged : Stmt := top 26
abbrev nL_flagged : List Str := ["_law_book_here", "_law_at", "_law_value", "e"]
theorem scL_flagged : FnScope nL_flagged ["_law_book_here", "_law_at", "_law_value"] (defScope sL_flagged) := ⟨rfl, rfl, rfl, by decide +kernel, rfl, by decide +kernel, by decide +kernel⟩
def spLFl (K : PySem.W.Frag) (C : Addr) : Sp := fun vs H Q _ => ∃ (b w f : Addr) (g : Str → Addr) (m : Str → List Str) (fl : Str → Bool) (i : Nat) (v : V) (t : Str) (tn : String), vs = [.ref b, .int (i : Int), v] ∧ i < 3 ∧ Bk K C H b w f g m fl ∧ OddV K H v t tn ∧ isBl v = false ∧
  ∀ l H', Same H H' → H l = none → H' l = some (.lst [.str "flag", .str t, .bl true, .bl true]) → Q (.ref l) H'
theorem ok_lflag (T : Txt K mg) {C_Book C_AnswerError C_NoName C_NoWays C_NoFlag : Addr} (K_Book : BF K mg C_Book) (R : Errs K C_AnswerError C_NoName C_NoWays C_NoFlag) (T_NoFlag : Ex.ErrC K mg "NoFlag" "value" C_NoFlag) (G_AnswerError : mg "AnswerError" = some (.ref C_AnswerError))
    (M_Book_set_flag : Ob.MCal P w K mg base (L2.CX P w) C_Book 4 "set_flag" (spSetFlag K C_Book C_NoName C_NoFlag)) (D : DefAt K mg "_law_flagged" sL_flagged ["_law_book_here", "_law_at", "_law_value"]) : CalG P w K mg base 5 "_law_flagged" (spLFl K C_Book) := by
  refine D.by scL_flagged (fun vs H Q E h => ?_) (fun f cd A hg outer s H vs Q E hr h => ?_)
  · obtain ⟨_, _, _, _, _, _, _, _, _, _, rfl, _⟩ := h
    rfl
  · obtain ⟨b, w0, f0, g, m, fl, i, v, t, tn, rfl, hi, bk, od, nb, q⟩ := h
    obtain ⟨dx, hb⟩ := bk.ins
    refine ⟨_, (pss_cons (ps_try_as (i := 3) (Wout := fun _ _ _ _ => False) rfl rfl scL_flagged.nd rfl rfl ⟨rfl, by decide, Or.inl T_NoFlag.g⟩ takes0
  (fun W pn xe tk _ => (pss_one (ps_expr (Et.methS tk (pv 0) K_Book.cl M_Book_set_flag hg hr (by decide) (pa_cons (pe_ix (r := rIxL K) ix_list (pe_lst (pa_cons pe_str (pa_cons pe_str (pa_cons pe_str pa_nil)))) (pv 1) (fun _ _ => rfl)) (pa_cons (pv 2) pa_nil))))))
  (fun a oe cls d pn hz hf => (pss_one (ps_ret (pe_lst (pa_cons pe_str (pa_cons (pe_callB (r := rReprX K) (call_reprX hg hr.units) (by rfl) T.repr (by decide +kernel) (pa_cons (pe_xf T_NoFlag.xf T_NoFlag.no hz hf (pv 3)) pa_nil)) (pa_cons (pe_callB (r := Ex.rIsD K C_NoFlag a cls d) (Ex.call_isD T_NoFlag.ic hz hf) (by rfl) T.isinstance (by decide +kernel) (pa_cons (pv 3) (pa_cons (pe_glob (v := .ref C_AnswerError) (by rfl) G_AnswerError rfl) pa_nil))) (pa_cons (pe_callB (r := Ex.rIsD K C_NoFlag a cls d) (Ex.call_isD T_NoFlag.ic hz hf) (by rfl) T.isinstance (by decide +kernel) (pa_cons (pv 3) (pa_cons (pe_bltn (v := .ty "ValueError") (by rfl) T.ValueError (by decide +kernel) rfl) pa_nil))) pa_nil)))))))))
  (pss_one (ps_ret pe_str))), ?_⟩
    repeat walk_at "rd"
    refine ⟨b, dx, _, rfl, hb, rfl, ?_⟩
    repeat walk_at "rd"
    refine ⟨Rd.sz (by simp), fun l0 hl0 => ?_⟩
    have s0 := Rd.sNew (o := .lst [.str "bars_hash", .str "ends_same", .str "ends_true"]) hl0
    have hf : (flagsW.map V.str)[i]? = some (.str (flagsW[i]'hi)) := by rw [List.getElem?_map, List.getElem?_eq_getElem hi]; rfl
    repeat walk_at "rd"
    refine Rd.ixL (xs := flagsW.map V.str) (SqL.of upd_same) (Rd.atN (by omega) (by rw [Int.toNat_natCast]; exact hf)) ?_
    have hw : flagsW[i]'hi ∈ flagsW := List.getElem_mem hi
    repeat walk_at "rd"
    refine ⟨b, w0, f0, g, m, fl, .str (flagsW[i]'hi), v, "str", tn, rfl, bk.mono s0, kd_str _, (od.mono s0).here.1, fun c => ?_, fun o eo _ => ⟨fun _ H1 s1 dd hdd => ⟨true, T_NoFlag.te, fun _ a0 ha0 => ?_, fun z => nomatch z⟩, fun c ec => ?_⟩⟩
    · rw [show isIn (.str (flagsW[i]'hi)) flagsW = true from decide_eq_true hw] at c; cases c
    · have s2 := (s0.trans s1).trans (Rd.sNew (o := .xd [(("value" : Str), v)]) hdd)
      repeat walk_at "rd"
      refine ⟨rfl, dd, _, v, rfl, upd_same, by simp [List.lookup], ?_⟩
      repeat walk_at "rd"
      refine (od.mono s2).here.2 _ ?_
      repeat walk_at "rd"
      refine ⟨_, _, true, dd, _, rfl, .own _, rfl, rfl, upd_same, R.aF, ?_⟩
      repeat walk_at "rd"
      refine ⟨_, _, true, dd, _, rfl, .ty _, rfl, rfl, upd_same, R.vF, ?_⟩
      repeat walk_at "rd"
      refine ⟨Rd.sz (by simp), fun l hl => ?_⟩
      obtain ⟨n1, n2, n3⟩ := new4 (o := .lst [.str "flag", .str t, .bl true, .bl true]) s2 hl
      exact q l _ n1 n2 n3
    · subst ec
      cases nb
abbrev sL_named : Stmt := top 27
abbrev nL_named : List Str := ["_law_book_here", "_law_word", "_law_value", "e"]
theorem scL_named : FnScope nL_named ["_law_book_here", "_law_word", "_law_value"] (defScope sL_named) := ⟨rfl, rfl, rfl, by decide +kernel, rfl, by decide +kernel, by decide +kernel⟩
def spLNm (K : PySem.W.Frag) (C : Addr) : Sp := fun vs H Q _ => ∃ (b w f : Addr) (g : Str → Addr) (m : Str → List Str) (fl : Str → Bool) (v x : V) (t tx : Str) (tn tm : String), vs = [.ref b, v, x] ∧ Bk K C H b w f g m fl ∧ OddV K H v t tn ∧ isIn v flagsW = false ∧ OddV K H x tx tm ∧
  ∀ l H', Same H H' → H l = none → H' l = some (.lst [.str "name", .str t]) → Q (.ref l) H'
theorem ok_lnamed (T : Txt K mg) {C_Book C_NoName C_NoFlag : Addr} (K_Book : BF K mg C_Book) (T_NoName : Ex.ErrC K mg "NoName" "value" C_NoName) (M_Book_set_flag : Ob.MCal P w K mg base (L2.CX P w) C_Book 4 "set_flag" (spSetFlag K C_Book C_NoName C_NoFlag))
    (D : DefAt K mg "_law_named" sL_named ["_law_book_here", "_law_word", "_law_value"]) : CalG P w K mg base 5 "_law_named" (spLNm K C_Book) := by
  refine D.by scL_named (fun vs H Q E h => ?_) (fun f cd A hg outer s H vs Q E hr h => ?_)
  · obtain ⟨_, _, _, _, _, _, _, _, _, _, _, _, rfl, _⟩ := h
    rfl
  · obtain ⟨b, w0, f0, g, m, fl, v, x, t, tx, tn, tm, rfl, bk, od, no, ox, q⟩ := h
    obtain ⟨dx, hb⟩ := bk.ins
    refine ⟨_, (pss_cons (ps_try_as (i := 3) (Wout := fun _ _ _ _ => False) rfl rfl scL_named.nd rfl rfl ⟨rfl, by decide, Or.inl T_NoName.g⟩ takes0
  (fun W pn xe tk _ => (pss_one (ps_expr (Et.methS tk (pv 0) K_Book.cl M_Book_set_flag hg hr (by decide) (pa_cons (pv 1) (pa_cons (pv 2) pa_nil))))))
  (fun a oe cls d pn hz hf => (pss_one (ps_ret (pe_lst (pa_cons pe_str (pa_cons (pe_callB (r := rReprX K) (call_reprX hg hr.units) (by rfl) T.repr (by decide +kernel) (pa_cons (pe_xf T_NoName.xf T_NoName.no hz hf (pv 3)) pa_nil)) pa_nil)))))))
  (pss_one (ps_ret pe_str))), ?_⟩
    repeat walk_at "rd"
    refine ⟨b, dx, _, rfl, hb, rfl, ?_⟩
    repeat walk_at "rd"
    refine ⟨b, w0, f0, g, m, fl, v, x, tn, tm, rfl, bk, od.here.1, ox.here.1, fun _ H1 s1 dd hdd => ⟨true, T_NoName.te, fun _ a0 ha0 => ?_, fun z => nomatch z⟩, fun o eo ho => ?_⟩
    · have s2 := s1.trans (Rd.sNew (o := .xd [(("value" : Str), v)]) hdd)
      repeat walk_at "rd"
      refine ⟨rfl, dd, _, v, rfl, upd_same, by simp [List.lookup], ?_⟩
      repeat walk_at "rd"
      refine (od.mono s2).here.2 _ ?_
      repeat walk_at "rd"
      refine ⟨Rd.sz (by simp), fun l hl => ?_⟩
      obtain ⟨n1, n2, n3⟩ := new4 (o := .lst [.str "name", .str t]) s2 hl
      exact q l _ n1 n2 n3
    · subst eo
      rw [show isIn (.str o) flagsW = true from decide_eq_true ho] at no
      cases no
end
end Ab
namespace Ab
open PySem.Spec PyProof.Rows
local macro_rules | `(tactic| walk_at "rd") => `(tactic| (with_reducible first | refine Rd.sfld ?_ | refine Rd.dget ?_ | refine Rd.methR ?_ | refine Rd.propR ?_ | refine Rd.getR ?_ | refine Rd.revT ?_))
/-- ways of a menu, none of them twice -/
def PM (m : Str → List Str) : Prop := ∀ o ∈ ops, (m o).Nodup ∧ ∀ z ∈ m o, z ∈ menu o
theorem Keep.fr {p a : Addr} {H H1 : Hp} {u : HO} (k : Keep p H H1) (hp : H1 p = some u) (h : H1 a = none) : H a = none := by
  cases z : H a with
  | none => rfl
  | some v =>
    have n : a ≠ p := fun e => by rw [e, hp] at h; cases h
    rw [k _ _ n z] at h
    cases h
theorem nt_frz {H : Hp} {a : Addr} {od : Obj} {kvs : List (Key × V)} (h : H a = some (.frz od (.dK kvs))) : NoTup H a := fun u e => by
  rw [h] at e; cases e; exact ⟨fun _ => by simp, fun _ _ => by simp⟩
theorem cutG {K : PySem.W.Frag} {a : Addr} {xs : List V} {lo hi : Option Int} {H : Hp} {Q : VK} (h : SqT K H a xs) (k : ∀ t H', Same H H' → SqT K H' t (cutV xs lo hi) → Q (.ref t) H') : rSlA K (.ref a) lo hi H Q := by
  refine ⟨a, xs, rfl, h, fun c => k a H (Same.refl _) ?_, fun _ p hp => k p _ (Rd.sNew hp) (.inl (.inl upd_same))⟩
  have e : cutV xs lo hi = xs := by
    unfold cutV
    rw [c.1, c.2]
    simp
  rw [e]
  exact h
theorem cut_from1 (l : List Str) : cutV (l.map V.str) (some 1) none = (l.drop 1).map V.str := by
  cases l with
  | nil => rfl
  | cons a l =>
    unfold cutV
    have e1 : HT.sIx ((a :: l).map V.str).length 0 (some 1) = 1 := by simp [HT.sIx]
    have e2 : HT.sIx ((a :: l).map V.str).length ((a :: l).map V.str).length none = l.length + 1 := by simp [HT.sIx]
    rw [e1, e2]
    simp
    rw [List.take_of_length_le (by simp)]
structure BO (K : PySem.W.Frag) (H H1 : Hp) (p fd md : Addr) (od : Obj) (gm : Str → Addr) (l : List Str) (g : Str → Addr) (m : Str → List Str) (x y : Int) : Prop where
  kp : Keep p H H1
  hp : H1 p = some (.lst [.int x, .int y])
  ok : PoolOk x y
  md : H1 md = some (.frz od (.dK (tab ops fun o => .ref (gm o))))
  mt : ∀ o ∈ ops, SqT K H1 (gm o) ((menu o).map V.str)
  df : H1 fd = some (.dK (tab l fun o => .ref (g o)))
  ft : ∀ o ∈ l, SqT K H1 (g o) ((m o).map V.str)
  pm : ∀ o ∈ l, (m o).Nodup ∧ ∀ z ∈ m o, z ∈ menu o
  ff : H fd = none
section
variable {K : PySem.W.Frag} {H H1 H2 : Hp} {p fd md q : Addr} {od : Obj} {gm g : Str → Addr} {l : List Str} {m : Str → List Str} {x y x' y' : Int} {o : Str} {ws : List Str} {Q : Hp → Prop}
theorem BO.same (k : BO K H H1 p fd md od gm l g m x y) (s : Same H1 H2) : BO K H H2 p fd md od gm l g m x y :=
  ⟨k.kp.trans (Keep.same s), s _ _ k.hp, k.ok, s _ _ k.md, fun o ho => sqT_same s (k.mt o ho), s _ _ k.df, fun o ho => sqT_same s (k.ft o ho), k.pm, k.ff⟩
theorem BO.pool (k : BO K H H1 p fd md od gm l g m x y) (ok : PoolOk x' y') : BO K H (upd H1 p (.lst [.int x', .int y'])) p fd md od gm l g m x' y' :=
  ⟨k.kp.put, upd_same, ok, by rw [upd_ne (fun e => by have := k.md; rw [e, k.hp] at this; cases this)]; exact k.md, fun o ho => sqT_upd (nt_lst k.hp) (k.mt o ho),
    by rw [upd_ne (fun e => by have := k.df; rw [e, k.hp] at this; cases this)]; exact k.df, fun o ho => sqT_upd (nt_lst k.hp) (k.ft o ho), k.pm, k.ff⟩
theorem BO.put {l2 : List Str} (k : BO K H H1 p fd md od gm l g m x y) (hq : SqT K H1 q (ws.map V.str)) (hw : ws.Nodup ∧ ∀ z ∈ ws, z ∈ menu o) (hl : ∀ z ∈ l2, z = o ∨ z ∈ l) : BO K H (upd H1 fd (.dK (tab l2 fun z => .ref (gput g o q z)))) p fd md od gm l2 (gput g o q) (mput m o ws) x y := by
  have nt := nt_dK k.df
  refine ⟨k.kp.mut k.ff, ?_, k.ok, ?_, fun o ho => sqT_upd nt (k.mt o ho), upd_same, fun z hz => sqT_upd nt ?_, fun z hz => ?_, k.ff⟩
  · rw [upd_ne (fun e => by have := k.hp; rw [e, k.df] at this; cases this)]; exact k.hp
  · rw [upd_ne (fun e => by have := k.md; rw [e, k.df] at this; cases this)]; exact k.md
  · unfold gput mput
    by_cases e : z = o
    · rw [if_pos e, if_pos e]; exact hq
    · rw [if_neg e, if_neg e]; exact k.ft z ((hl z hz).resolve_left e)
  · unfold mput
    by_cases e : z = o
    · rw [if_pos e, e]; exact hw
    · rw [if_neg e]; exact k.pm z ((hl z hz).resolve_left e)
theorem BO.setN (k : BO K H H1 p fd md od gm l g m x y) (hq : SqT K H1 q (ws.map V.str)) (hw : ws.Nodup ∧ ∀ z ∈ ws, z ∈ menu o) (nx : o ∉ l) (z : l.length ≤ 100)
    (r : ∀ H2 g2 m2, BO K H H2 p fd md od gm (l ++ [o]) g2 m2 x y → (∀ b xs, SqT K H1 b xs → SqT K H2 b xs) → Q H2) : rSetD (.ref fd) (.str o) (.ref q) H1 Q := by
  refine ⟨fd, _, rfl, .inl ⟨_, .inr o, k.df, rfl, by rw [tab_len]; exact Rd.szl (by omega), rfl⟩, ?_⟩
  have e : putK (tab l fun o => V.ref (g o)) (.inr o) (.ref q) = tab (l ++ [o]) fun z => .ref (gput g o q z) := by
    rw [putK_new _ _ _ nx]
    have e : tab l (fun o => V.ref (g o)) = tab l fun z => V.ref (gput g o q z) := tab_congr fun z hz => by
      unfold gput
      rw [if_neg (fun e => nx (by rw [← e]; exact hz))]
    rw [e, show (Sum.inr o, V.ref q) = ((Sum.inr o : Key), V.ref (gput g o q o)) by unfold gput; rw [if_pos rfl], tab_snoc l (fun z => V.ref (gput g o q z))]
  rw [e]
  exact r _ _ _ (k.put hq hw fun z hz => (List.mem_append.mp hz).elim .inr fun h => .inl (by simpa using h)) fun b xs h => sqT_upd (nt_dK k.df) h
theorem BO.setO (k : BO K H H1 p fd md od gm l g m x y) (hq : SqT K H1 q (ws.map V.str)) (hw : ws.Nodup ∧ ∀ z ∈ ws, z ∈ menu o) (nx : o ∈ l) (z : l.length ≤ 100)
    (r : ∀ H2 g2 m2, BO K H H2 p fd md od gm l g2 m2 x y → Q H2) : rSetD (.ref fd) (.str o) (.ref q) H1 Q := by
  refine ⟨fd, _, rfl, .inl ⟨_, .inr o, k.df, rfl, by rw [tab_len]; exact Rd.szl (by omega), rfl⟩, ?_⟩
  rw [put_tab _ _ _ nx, gput_tab]
  exact r _ _ _ (k.put hq hw fun z hz => .inr hz)
end
theorem ops_len : ops.length = 12 := rfl
theorem take_new {i : Nat} (hi : i < ops.length) : ops[i] ∉ ops.take i := fun m => by
  obtain ⟨k, hk, e⟩ := List.mem_iff_getElem.mp m
  rw [List.getElem_take] at e
  rw [List.length_take] at hk
  have := (List.getElem_inj ops_nd).mp e
  omega
theorem take_snoc {i : Nat} (hi : i < ops.length) : ops.take i ++ [ops[i]] = ops.take (i + 1) := by
  rw [List.take_add_one, List.getElem?_eq_getElem hi]
  rfl
section
variable {P : Program} {w : World} {K : PySem.W.Frag} {mg : Str → Option Value} {base : Heap}
abbrev sL_book_of : Stmt := top 22
abbrev nL_book_of : List Str := ["_law_pool_here", "_law_found", "_law_menus_here", "_law_operation", "_law_menu", "_law_way", "_law_turn"]
theorem scL_book_of : FnScope nL_book_of ["_law_pool_here"] (defScope sL_book_of) := ⟨rfl, rfl, rfl, by decide +kernel, rfl, by decide +kernel, by decide +kernel⟩
def spBookOf (K : PySem.W.Frag) : Sp := fun vs H Q _ => ∃ (p : Addr) (x y : Int), vs = [.ref p] ∧ H p = some (.lst [.int x, .int y]) ∧ PoolOk x y ∧
  ∀ o w f g m fl H' x' y', Keep p H H' → H' p = some (.lst [.int x', .int y']) → PoolOk x' y' → H o = none → H w = none → H f = none → Own K H' o w f g m fl → PM m → Q (.ref o) H'
theorem ok_book_of (T : Txt K mg) (D : DefAt K mg "_law_book_of" sL_book_of ["_law_pool_here"]) (CL_menus : CalG P w K mg base 1 "_law_menus" (spMenus K)) (CL_take : CalG P w K mg base 1 "_law_take" spTake) : CalG P w K mg base 2 "_law_book_of" (spBookOf K) := by
  refine D.by scL_book_of (fun vs H Q E h => ?_) (fun f cd A hg outer s H vs Q E hr h => ?_)
  · obtain ⟨_, _, _, rfl, _⟩ := h
    rfl
  · obtain ⟨p, x, y, rfl, hp, ok, q⟩ := h
    refine ⟨_, (pss_cons (ps_set (i := 1) scL_book_of.nd rfl (Or.inl rfl) pe_dnewK)
  (pss_cons (ps_set (i := 2) scL_book_of.nd rfl (Or.inl rfl) (pe_cG0 CL_menus hg hr (by decide)))
  (pss_cons (ps_lock (ps_for (wi := iKeys _) PassesOwn.never rfl (pi_keys (pv 2)) (pg_name (i := 3) scL_book_of.nd rfl (Or.inl rfl))
  (pss_cons (ps_set (i := 4) scL_book_of.nd rfl (Or.inl rfl) (pe_dget (one_ hr.units) (pv 2) (pv 3) (fun _ _ => rfl)))
  (pss_cons (ps_set (i := 5) scL_book_of.nd rfl (Or.inl rfl) (pe_cG CL_take hg hr (by decide) (pa_cons (pv 0) (pa_cons pe_int pa_nil))))
  (pss_cons (ps_asg (pv 4) (pg_sub (pv 1) (pv 3) (set_dict (one_ hr.units))))
  (pss_one (ps_if (pt_cmpR op_eq (pv 5) pe_int (nomark _))
  (pss_one (ps_asg (Tr.pe_revT (pv 4)) (pg_sub (pv 1) (pv 3) (set_dict (one_ hr.units)))))
  (pss_one (ps_if (pt_cmpR op_eq (pv 5) pe_int (nomark _))
  (pss_one (ps_asg (pe_slice (r := rSlA K) sl_tupA (pv 4) po_none (po_some pe_int)) (pg_sub (pv 1) (pv 3) (set_dict (one_ hr.units)))))
  (pss_one (ps_if (pt_cmpR op_eq (pv 5) pe_int (nomark _))
  (pss_one (ps_asg (pe_slice (r := rSlA K) sl_tupA (pv 4) (po_some pe_int) po_none) (pg_sub (pv 1) (pv 3) (set_dict (one_ hr.units)))))
  pss_nil)))))))))))
  (pss_one (ps_ret (pe_disp (pps_cons pe_str (pv 1) (pps_cons pe_str (pe_lc (own := [("_law_turn", 6)]) (g := gName 6) (by rfl) scL_book_of.nd (pi_range1 (by rfl) T.range (pa_cons pe_int pa_nil)) (blkOk_by (N := nL_book_of) (sc := defScope sL_book_of) (by decide +kernel)) (fun _ _ _ _ _ => pg_name (i := 6) scL_book_of.nd rfl (Or.inl rfl)) (fun _ _ _ _ _ => pts_nil) (fun _ _ _ _ _ => (pe_cmpR op_gt (pe_cG CL_take hg hr (by decide) (pa_cons (pv 0) (pa_cons pe_int pa_nil))) pe_int (nomark _)))) pps_nil)) (by rfl) (by rfl) (by simp) (by decide))))))), ?_⟩
    repeat walk_at "rd"
    intro fd hfd
    have s0 := Rd.sNew (o := .dK []) hfd
    have f0 : upd H fd (.dK []) fd = some (.dK (tab [] fun o => .ref fd)) := upd_same
    generalize upd H fd (.dK []) = H0 at s0 f0 ⊢
    repeat walk_at "rd"
    refine ⟨rfl, fun md gm H1 mg1 => ?_⟩
    have s1 := s0.trans mg1.s
    have hmd : H md = none := Same.fr s0 mg1.f
    repeat walk_at "rd"
    refine forK (d := md) (l := ops) (F := fun o => .ref (gm o)) (fun od i σ1 H2 => ∃ z3 z4 z5 g m x y, σ1 = [some (.ref p), some (.ref fd), some (.ref md), z3, z4, z5, none] ∧ BO K H H2 p fd md od gm (ops.take i) g m x y) (fun od R k => Rd.var rfl k) mg1.d
      (fun od => ?_) (fun od i σ1 H2 h => ?_) (fun od i hi σ1 H2 rt bk h => ?_) (fun od σ1 H2 h => ?_)
    · have nt := nt_dK mg1.d
      have ne : fd ≠ md := fun e => by have := mg1.f; rw [← e, f0] at this; cases this
      refine ⟨none, none, none, fun _ => fd, fun _ => [], x, y, rfl, ⟨(Keep.same s1).mut hmd, ?_, ok, upd_same, fun o ho => sqT_upd nt (mg1.t o ho), ?_, fun o ho => by simp at ho, fun o ho => by simp at ho, hfd⟩⟩
      · rw [upd_ne (fun e => by rw [e, hmd] at hp; cases hp)]; exact s1 _ _ hp
      · rw [upd_ne ne]; exact mg1.s _ _ f0
    · obtain ⟨_, _, _, _, _, _, _, _, k⟩ := h
      exact k.md
    · obtain ⟨z3, z4, z5, g, m, x1, y1, rfl, k⟩ := h
      have ho : ops[i] ∈ ops := List.getElem_mem hi
      have nx := take_new hi
      have zl : (ops.take i).length ≤ 100 := by rw [List.length_take, ops_len]; omega
      have zl2 : (ops.take i ++ [ops[i]]).length ≤ 100 := by rw [List.length_append, List.length_take, ops_len]; simp; omega
      obtain ⟨nd, _⟩ := mem_menu_len _ ho
      have hn := take_snoc hi
      generalize ops[i] = o at ho nx nd hn zl2 ⊢
      repeat walk_at "rd"
      refine ⟨md, _, rfl, .inl ⟨_, .inr o, .inr ⟨od, k.md⟩, rfl, by rw [val_tab _ _ ho]⟩, ?_⟩
      repeat walk_at "rd"
      refine ⟨p, x1, y1, 8, rfl, k.hp, k.ok, by decide, by decide, fun r x2 y2 ok2 r0 r1 => ?_⟩
      have k2 := k.pool ok2
      generalize upd H2 p (.lst [.int x2, .int y2]) = H3 at k2 ⊢
      repeat walk_at "rd"
      refine k2.setN (k2.mt o ho) ⟨nd, fun z h => h⟩ nx zl fun H4 g4 m4 k4 t4 => ?_
      have mt4 := k4.mt o ho
      have mem : o ∈ ops.take i ++ [o] := List.mem_append_right _ List.mem_cons_self
      have done : ∀ H5 g5 m5, BO K H H5 p fd md od gm (ops.take i ++ [o]) g5 m5 x2 y2 → ∃ z3 z4 z5 g m x y, [some (V.ref p), some (.ref fd), some (.ref md), some (.str o), some (.ref (gm o)), some (.int r), none] = [some (.ref p), some (.ref fd), some (.ref md), z3, z4, z5, none] ∧ BO K H H5 p fd md od gm (ops.take (i + 1)) g m x y :=
        fun H5 g5 m5 k5 => ⟨_, _, _, g5, m5, x2, y2, rfl, by rw [← hn]; exact k5⟩
      repeat walk_at "rd"
      refine Rd.dec (fun c => ?_) (fun c => ?_)
      · repeat walk_at "rd"
        refine ⟨gm o, _, rfl, mt4, fun t ht => ?_⟩
        have k5 := k4.same (Rd.sNew (o := .tup ((menu o).map V.str).reverse) ht)
        repeat walk_at "rd"
        refine k5.setO (ws := (menu o).reverse) (.inl (.inl (by rw [upd_same, List.map_reverse]))) ⟨(List.reverse_perm _).nodup_iff.mpr nd, fun z h => List.mem_reverse.mp h⟩ mem zl2 fun H6 g6 m6 k6 => ?_
        repeat walk_at "rd"
        exact done _ _ _ k6
      · repeat walk_at "rd"
        refine Rd.dec (fun c => ?_) (fun c => ?_)
        · repeat walk_at "rd"
          refine cutG mt4 fun t H5 s5 ht => ?_
          rw [cut1] at ht
          repeat walk_at "rd"
          refine (k4.same s5).setO ht ⟨nd.sublist (List.take_sublist _ _), fun z h => List.mem_of_mem_take h⟩ mem zl2 fun H6 g6 m6 k6 => ?_
          repeat walk_at "rd"
          exact done _ _ _ k6
        · repeat walk_at "rd"
          refine Rd.dec (fun c => ?_) (fun c => ?_)
          · repeat walk_at "rd"
            refine cutG mt4 fun t H5 s5 ht => ?_
            rw [cut_from1] at ht
            repeat walk_at "rd"
            refine (k4.same s5).setO ht ⟨nd.sublist (List.drop_sublist _ _), fun z h => List.mem_of_mem_drop h⟩ mem zl2 fun H6 g6 m6 k6 => ?_
            repeat walk_at "rd"
            exact done _ _ _ k6
          · repeat walk_at "rd"
            exact done _ _ _ k4
    · obtain ⟨z3, z4, z5, g, m, x1, y1, rfl, k⟩ := h
      rw [List.take_length] at k
      have nt := nt_frz k.md
      have kp := k.kp.mut (o := .dK (tab ops fun o => .ref (gm o))) hmd
      have hp2 : upd H2 md (.dK (tab ops fun o => .ref (gm o))) p = some (.lst [.int x1, .int y1]) := by
        rw [upd_ne (fun e => by rw [e, hmd] at hp; cases hp)]; exact k.hp
      have fd2 : upd H2 md (.dK (tab ops fun o => .ref (gm o))) fd = some (.dK (tab ops fun o => .ref (g o))) := by
        rw [upd_ne (fun e => by have := k.df; rw [e, k.md] at this; cases this)]; exact k.df
      have ft2 : ∀ o ∈ ops, SqT K (upd H2 md (.dK (tab ops fun o => .ref (gm o)))) (g o) ((m o).map V.str) := fun o ho => sqT_upd nt (k.ft o ho)
      have pm := k.pm
      have ok1 := k.ok
      clear k nt mg1
      generalize upd H2 md (.dK (tab ops fun o => .ref (gm o))) = H3 at kp hp2 fd2 ft2 ⊢
      repeat walk_at "rd"
      refine disp fun o0 ho0 => pcons ?_
      have no : H o0 = none := kp.fr hp2 ho0
      have s3 := Rd.sNew (o := .dK []) ho0
      have op : o0 ≠ p := fun e => by rw [e, hp2] at ho0; cases ho0
      have of_ : fd ≠ o0 := fun e => by rw [← e, fd2] at ho0; cases ho0
      repeat walk_at "rd"
      refine pcons ?_
      repeat walk_at "rd"
      refine Rd.rng (by decide) (by decide) ?_
      refine Rd.goR (fun D i acc H4 => ∃ (cs : List Bool) (x y : Int), acc = cs.map V.bl ∧ PoolOk x y ∧ H4 p = some (.lst [.int x, .int y]) ∧ Keep p (upd H3 o0 (.dK [])) H4 ∧ p ≠ D) (fun D hD => ?_) (fun _ => rfl) (by decide) (fun D i acc H4 hD hi ha hd pv R k => ?_) (fun D acc H4 hD ha hd pv => ?_)
      · exact ⟨[], x1, y1, rfl, ok1, by rw [upd_ne (fun e => by rw [← e, s3 _ _ hp2] at hD; cases hD)]; exact s3 _ _ hp2, Keep.same (Rd.sNew hD), fun e => by rw [← e, s3 _ _ hp2] at hD; cases hD⟩
      · obtain ⟨cs, x2, y2, rfl, ok2, hp4, k4, nD⟩ := pv
        repeat walk_at "rd"
        refine ⟨p, x2, y2, 3, rfl, hp4, ok2, by decide, by decide, fun r x3 y3 ok3 r0 r1 => ?_⟩
        repeat walk_at "rd"
        refine k _ _ (by rw [upd_ne (fun e => nD e.symm)]; exact hd) ⟨cs ++ [_], x3, y3, by rw [List.map_append]; rfl, ok3, by rw [upd_ne nD, upd_same], ?_, nD⟩
        exact k4.put.mut hD
      · obtain ⟨cs, x2, y2, rfl, ok2, hp4, k4, nD⟩ := pv
        rw [List.length_map] at ha
        obtain ⟨c0, c1, c2, rfl⟩ : ∃ c0 c1 c2, cs = [c0, c1, c2] := by
          match cs, ha with
          | [a, b, c], _ => exact ⟨a, b, c, rfl⟩
        have hD3 : H3 D = none := Same.fr s3 hD
        have oD : D ≠ o0 := fun e => by rw [e, upd_same] at hD; cases hD
        have o4 : H4 o0 = some (.dK []) := k4 _ _ op upd_same
        have fd4 := k4 _ _ (fun e => by rw [e, hp2] at fd2; cases fd2) (s3 _ _ fd2)
        refine pnil ⟨o4, [(.inr "ways", .ref fd), (.inr "flags", .ref D)], rfl, by simp, ?_⟩
        repeat walk_at "rd"
        have hm : mergeK [] [((.inr "ways" : Key), V.ref fd), (.inr "flags", .ref D)] = [(.inr "ways", .ref fd), (.inr "flags", .ref D)] := by rfl
        rw [hm]
        refine q o0 fd D g m (fun z => if z = "bars_hash" then c0 else if z = "ends_same" then c1 else c2) _ x2 y2 ?_ (by rw [upd_ne (fun e => op e.symm)]; exact hp4) ok2 no ?_ (kp.fr hp2 hD3) ⟨upd_same, ?_, ?_, fun z hz => ?_, fun e => of_ e.symm⟩ pm
        · exact ((kp.trans (Keep.same s3)).trans k4).mut no
        · exact hfd
        · rw [upd_ne of_]; exact fd4
        · rw [upd_ne oD]; exact hd
        · exact sqT_upd (nt_dK o4) (sqT_keep k4 (nt_lst (s3 _ _ hp2)) (sqT_same s3 (ft2 z hz)))
end
end Ab
namespace Ab
open PySem.Spec PyProof.Rows
local macro_rules | `(tactic| walk_at "rd") => `(tactic| (with_reducible first | refine Rd.sfld ?_ | refine Rd.dget ?_ | refine Rd.methR ?_ | refine Rd.propR ?_ | refine Rd.getR ?_ | refine Rd.revT ?_))
theorem Chg.mut {A : List Addr} {H H1 : Hp} {a : Addr} {o : HO} (c : Chg A H H1) (h : H a = none) : Chg A H (L2.upd H1 a o) := fun b u e n => by
  rw [upd_ne (ne_of_none e h)]
  exact c b u e n
theorem Chg.back {H H1 : Hp} {a : Addr} {o : HO} (c : Chg [a] H H1) (h : H a = some o) : Same H (L2.upd H1 a o) := fun b u e => by
  by_cases z : b = a
  · rw [z] at e ⊢
    rw [upd_same, ← h, e]
  · rw [upd_ne z]
    exact c b u e (by simpa using z)
theorem flags3 {fl : Str → Bool} {x : Str} (h : x ∈ flagsW) : fput (fput (fput (fun _ => true) "bars_hash" (fl "bars_hash")) "ends_same" (fl "ends_same")) "ends_true" (fl "ends_true") x = fl x := by
  simp only [flagsW, List.mem_cons, List.not_mem_nil, or_false] at h
  rcases h with rfl | rfl | rfl <;> rfl
section
variable {P : Program} {w : World} {K : PySem.W.Frag} {mg : Str → Option Value} {base : Heap}
abbrev sL_book : Stmt := top 23
abbrev nL_book : List Str := ["_law_own", "_law_book_here", "_law_operation"]
theorem scL_book : FnScope nL_book ["_law_own"] (defScope sL_book) := ⟨rfl, rfl, rfl, by decide +kernel, rfl, by decide +kernel, by decide +kernel⟩
def spLBook (K : PySem.W.Frag) (C : Addr) : Sp := fun vs H Q _ => ∃ (o w f : Addr) (g : Str → Addr) (m : Str → List Str) (fl : Str → Bool), vs = [.ref o] ∧ Own K H o w f g m fl ∧ PM m ∧
  ∀ b w' f' g' H', Same H H' → H b = none → H w' = none → H f' = none → Bk K C H' b w' f' g' m fl → Q (.ref b) H'
theorem ok_lbook (T : Txt K mg) {C_Book CN CW CF pO pM pF : Addr} {gM : Str → Addr} (K_Book : BF K mg C_Book) (t : Tb K w mg pO pM pF gM) (I_Book : Ob.MkCal P w K mg base CX0 C_Book 1 "Book" (spInit C_Book gM)) (U_Book : Ob.GetCal P w K mg base (L2.CX P w) C_Book 4 "__setitem__" (spSet K C_Book CN CW))
    (M_Book_set_flag : Ob.MCal P w K mg base (L2.CX P w) C_Book 4 "set_flag" (spSetFlag K C_Book CN CF)) (D : DefAt K mg "_law_book" sL_book ["_law_own"]) : CalG P w K mg base 5 "_law_book" (spLBook K C_Book) := by
  refine D.by scL_book (fun vs H Q E h => ?_) (fun f cd A hg outer s H vs Q E hr h => ?_)
  · obtain ⟨_, _, _, _, _, _, rfl, _⟩ := h
    rfl
  · obtain ⟨o, wo, fo, g, m, fl, rfl, ow, pm, q⟩ := h
    refine ⟨_, (pss_cons (ps_set (i := 1) scL_book.nd rfl (Or.inl rfl) (Ob.make0 I_Book hg hr (by decide) pass0))
  (pss_cons (ps_lock (ps_for (wi := iKeys _) PassesOwn.never rfl (pi_keys (pe_dget (one_ hr.units) (pv 0) pe_str (fun _ _ => rfl))) (pg_name (i := 2) scL_book.nd rfl (Or.inl rfl))
  (pss_one (ps_asg (pe_dget (one_ hr.units) (pe_dget (one_ hr.units) (pv 0) pe_str (fun _ _ => rfl)) (pv 2) (fun _ _ => rfl)) (pg_sub (pv 1) (pv 2) (Ob.setO U_Book hg hr (by decide) Ob.px0))))))
  (pss_cons (ps_expr (Ob.meth (pv 1) K_Book.cl M_Book_set_flag hg hr (by decide) Ob.px0 (pa_cons pe_str (pa_cons (pe_ix (r := rIxL K) ix_list (pe_dget (one_ hr.units) (pv 0) pe_str (fun _ _ => rfl)) pe_int (fun _ _ => rfl)) pa_nil))))
  (pss_cons (ps_expr (Ob.meth (pv 1) K_Book.cl M_Book_set_flag hg hr (by decide) Ob.px0 (pa_cons pe_str (pa_cons (pe_ix (r := rIxL K) ix_list (pe_dget (one_ hr.units) (pv 0) pe_str (fun _ _ => rfl)) pe_int (fun _ _ => rfl)) pa_nil))))
  (pss_cons (ps_expr (Ob.meth (pv 1) K_Book.cl M_Book_set_flag hg hr (by decide) Ob.px0 (pa_cons pe_str (pa_cons (pe_ix (r := rIxL K) ix_list (pe_dget (one_ hr.units) (pv 0) pe_str (fun _ _ => rfl)) pe_int (fun _ _ => rfl)) pa_nil))))
  (pss_one (ps_ret (pv 1)))))))), ?_⟩
    repeat walk_at "rd"
    refine mkBk (fun o ho => (t.tm o ho).2) fun b wb fb H1 s1 nb nw nf bk => ?_
    have ow1 := ow.mono s1
    have od1 : o ≠ wo := ow.ne
    have ntw := nt_dK ow1.wd
    repeat walk_at "rd"
    refine forK (d := wo) (l := ops) (F := fun y => .ref (g y)) (fun od i σ1 H2 => ∃ z, σ1 = [some (.ref o), some (.ref b), z] ∧ Chg [wo] H H2 ∧ H2 wo = some (.frz od (.dK (tab ops fun y => .ref (g y)))) ∧ ∃ gb mb, Bk K C_Book H2 b wb fb gb mb (fun _ => true) ∧ ∀ y ∈ ops.take i, mb y = m y)
      (fun od R k => ?_) ow1.wd (fun od => ?_) (fun od i σ1 H2 h => ?_) (fun od i hi σ1 H2 rt bk' h => ?_) (fun od σ1 H2 h => ?_)
    · repeat walk_at "rd"
      exact ⟨o, _, rfl, .inl ⟨_, .inr "ways", .inl (by rw [upd_ne od1]; exact ow1.od), rfl, rfl⟩, k⟩
    · refine ⟨none, rfl, (Chg.refl.same s1).upd List.mem_cons_self, upd_same, gM, menu, bk.chg chg1 (fun a ha => ?_) ?_ ?_ ?_, fun y hy => by simp at hy⟩
      · rw [List.mem_singleton.mp ha]; exact ntw
      · exact fun e => by have := ow.wd; rw [← List.mem_singleton.mp e, nb] at this; cases this
      · exact fun e => by have := ow.wd; rw [← List.mem_singleton.mp e, nw] at this; cases this
      · exact fun e => by have := ow.wd; rw [← List.mem_singleton.mp e, nf] at this; cases this
    · obtain ⟨_, _, _, h, _⟩ := h
      exact h
    · obtain ⟨z, rfl, cg, hw, gb, mb, bk2, hm⟩ := h
      have ho : ops[i] ∈ ops := List.getElem_mem hi
      have nxt : ops.take (i + 1) = ops.take i ++ [ops[i]] := (take_snoc hi).symm
      have ho2 := cg _ _ ow.od (by simpa using od1)
      have tp2 : SqT K H2 (g ops[i]) ((m ops[i]).map V.str) := sqT_chg cg (fun a ha => by rw [List.mem_singleton.mp ha]; exact nt_dK ow.wd) (ow.tp _ ho)
      generalize ops[i] = x at ho nxt tp2 ⊢
      obtain ⟨dx, hb⟩ := bk2.ins
      have wo_ok := ways_ok (pm x ho).1 (pm x ho).2
      have wl := len_sub (pm x ho).1 (pm x ho).2
      have ml := (mem_menu_len x ho).2
      repeat walk_at "rd"
      refine ⟨o, _, rfl, .inl ⟨_, .inr "ways", .inl ho2, rfl, rfl⟩, ?_⟩
      repeat walk_at "rd"
      refine ⟨wo, _, rfl, .inl ⟨_, .inr x, .inr ⟨od, hw⟩, rfl, by rw [val_tab _ _ ho]⟩, ?_⟩
      repeat walk_at "rd"
      refine ⟨b, dx, _, rfl, hb, b, wb, fb, gb, mb, _, .str x, .ref (g x), "str", rfl, bk2, kd_str _, fun c => ?_, fun o' eo _ => .inr ⟨g x, (m x).map V.str, rfl, tp2, ?_, fun y hy H' _ => ?_, fun c => ?_, fun _ H4 s4 => ?_⟩⟩
      · rw [show isIn (.str x) ops = true from decide_eq_true ho] at c; cases c
      · rw [List.length_map]; omega
      · obtain ⟨z, _, rfl⟩ := List.mem_map.mp hy
        exact ⟨_, kd_str z⟩
      · rw [← V.str.inj eo, wo_ok] at c; cases c
      · obtain rfl := V.str.inj eo
        have ne : wo ≠ wb := fun e => by have := ow.wd; rw [e, nw] at this; cases this
        refine ⟨_, rfl, (cg.same s4).mut nw, by rw [upd_ne ne]; exact s4 _ _ hw, _, _, bk2.setW s4 (sqT_same s4 tp2), fun y hy => ?_⟩
        rw [nxt] at hy
        unfold mput
        by_cases e : y = x
        · rw [if_pos e, e]
        · rw [if_neg e]
          exact hm y ((List.mem_append.mp hy).resolve_right fun h => e (by simpa using h))
    · obtain ⟨z, rfl, cg, hw, gb, mb, bk2, hm⟩ := h
      rw [List.take_length] at hm
      have s2 := cg.back ow.wd
      have bk3 := bk2.chg (H' := upd H2 wo (.dK (tab ops fun y => .ref (g y)))) (chg1 (a := wo)) (fun a ha => by rw [List.mem_singleton.mp ha]; exact nt_frz hw)
        (fun e => by have := ow.wd; rw [← List.mem_singleton.mp e, nb] at this; cases this) (fun e => by have := ow.wd; rw [← List.mem_singleton.mp e, nw] at this; cases this) (fun e => by have := ow.wd; rw [← List.mem_singleton.mp e, nf] at this; cases this)
      clear bk2 hw cg
      generalize upd H2 wo (.dK (tab ops fun y => .ref (g y))) = H3 at s2 bk3 ⊢
      have ow3 := ow.mono s2
      obtain ⟨dx, hb⟩ := bk3.ins
      have step : ∀ {H4 : Hp} {fl4 : Str → Bool} {x : Str} {c : Bool} {Q4 : VK}, Bk K C_Book H4 b wb fb gb mb fl4 → x ∈ flagsW → Q4 .non (upd H4 fb (.dK (tab flagsW fun y => .bl (fput fl4 x c y)))) → spSetFlag K C_Book CN CF [.ref b, .str x, .bl c] H4 Q4 E0 := fun {H4 fl4 x c Q4} k hx r =>
        ⟨b, wb, fb, gb, mb, fl4, .str x, .bl c, "str", "bool", rfl, k, kd_str _, kd_bl _, fun z => (by rw [show isIn (.str x) flagsW = true from decide_eq_true hx] at z; cases z), fun o' eo _ => ⟨fun z => (by cases z), fun c' ec => by cases ec; cases eo; exact r⟩⟩
      repeat walk_at "rd"
      refine ⟨b, dx, _, rfl, hb, rfl, ?_⟩
      repeat walk_at "rd"
      refine ⟨o, _, rfl, ow3.flags, ?_⟩
      repeat walk_at "rd"
      refine Rd.ixL (SqL.of ow3.fd) (Rd.atN (by decide) rfl) ?_
      repeat walk_at "rd"
      refine step bk3 (by decide) ?_
      have s4 : Same H (upd H3 fb (.dK (tab flagsW fun y => .bl (fput (fun _ => true) "bars_hash" (fl "bars_hash") y)))) := Rd.sMut s2 nf
      have bk4 := bk3.setF (o := "bars_hash") (c := fl "bars_hash")
      generalize upd H3 fb (.dK (tab flagsW fun y => .bl (fput (fun _ => true) "bars_hash" (fl "bars_hash") y))) = H4 at s4 bk4 ⊢
      have ow4 := ow.mono s4
      obtain ⟨dx4, hb4⟩ := bk4.ins
      repeat walk_at "rd"
      refine ⟨b, dx4, _, rfl, hb4, rfl, ?_⟩
      repeat walk_at "rd"
      refine ⟨o, _, rfl, ow4.flags, ?_⟩
      repeat walk_at "rd"
      refine Rd.ixL (SqL.of ow4.fd) (Rd.atN (by decide) rfl) ?_
      repeat walk_at "rd"
      refine step bk4 (by decide) ?_
      have bk5 := bk4.setF (o := "ends_same") (c := fl "ends_same")
      have s5 := Rd.sMut (o := .dK (tab flagsW fun y => .bl (fput (fput (fun _ => true) "bars_hash" (fl "bars_hash")) "ends_same" (fl "ends_same") y))) s4 nf
      generalize upd H4 fb _ = H5 at s5 bk5 ⊢
      have ow5 := ow.mono s5
      obtain ⟨dx5, hb5⟩ := bk5.ins
      repeat walk_at "rd"
      refine ⟨b, dx5, _, rfl, hb5, rfl, ?_⟩
      repeat walk_at "rd"
      refine ⟨o, _, rfl, ow5.flags, ?_⟩
      repeat walk_at "rd"
      refine Rd.ixL (SqL.of ow5.fd) (Rd.atN (by decide) rfl) ?_
      repeat walk_at "rd"
      refine step bk5 (by decide) ?_
      have bk6 := bk5.setF (o := "ends_true") (c := fl "ends_true")
      have s6 := Rd.sMut (o := .dK (tab flagsW fun y => .bl (fput (fput (fput (fun _ => true) "bars_hash" (fl "bars_hash")) "ends_same" (fl "ends_same")) "ends_true" (fl "ends_true") y))) s5 nf
      repeat walk_at "rd"
      exact q b wb fb gb _ s6 nb nw nf (bk6.congr hm fun x hx => flags3 hx)
end
end Ab
namespace Ab
open PySem.Spec PyProof.Rows
local macro_rules | `(tactic| walk_at "rd") => `(tactic| (with_reducible first | refine Rd.dget ?_ | refine Rd.getR ?_ | refine Rd.revT ?_))
theorem pickS {b : Bool} {z1 z2 : Str} {σ : L2.St} {H : Hp} {Q : VK} (k : Q (.str (if b = true then z1 else z2)) H) : if b = true then tC (.str z1) σ H Q else tC (.str z2) σ H Q := by
  cases b with
  | true => exact k
  | false => rw [if_neg Bool.false_ne_true]; exact k
theorem m_head : ∀ o ∈ ops, ∃ a r, menu o = a :: r ∧ SeqAt.shaped (.str a) = true ∧ (if (!PyData.eqv (.str a) (.str "hash")) = true then ("hash" : Str) else "own") ∉ menu o := by
  have h : ∀ o ∈ ops, (match menu o with
    | [] => false
    | a :: _ => SeqAt.shaped (.str a) && decide ((if (!PyData.eqv (.str a) (.str "hash")) = true then ("hash" : Str) else "own") ∉ menu o)) = true := by decide +kernel
  intro o ho
  have := h o ho
  generalize hm : menu o = l at this ⊢
  cases l with
  | nil => cases this
  | cons a r =>
    simp only [Bool.and_eq_true, decide_eq_true_eq] at this
    exact ⟨a, r, rfl, this.1, this.2⟩
theorem m_not : ∀ o ∈ ops, ("step" : Str) ∉ menu o ∧ ("other" : Str) ∉ menu o ∧ ("" : Str) ∉ menu o ∧ (menu o).length ≤ 4 ∧ 0 < (menu o).length ∧ (menu o).Nodup ∧ ((menu o).map (·.length)).sum ≤ 1000 := by decide +kernel
theorem notIn {z : Str} {l : List Str} (h : z ∉ l) : isIn (.str z) l = false := decide_eq_false h
theorem bad_all {o : Str} {A B : List V} {v : V} (h : isIn v (menu o) = false) : waysOk o (A ++ [v] ++ B) = false := by
  have : (A ++ [v] ++ B).all (fun x => isIn x (menu o)) = false := by
    rw [List.all_append, List.all_append]
    simp [h]
  rw [waysOk, this, Bool.false_and]
theorem strs_map (l : List Str) : strsOf (l.map V.str) = l := by
  induction l with
  | nil => rfl
  | cons a l ih => show a :: strsOf (l.map V.str) = _; rw [ih]
theorem bad_twice {o : Str} {l : List Str} {z : Str} (h : z ∈ l) : waysOk o (l.map V.str ++ [.str z]) = false := by
  have e : l.map V.str ++ [V.str z] = (l ++ [z]).map V.str := by simp
  have n : ¬ (l ++ [z]).Nodup := fun nd => (List.nodup_append.mp nd).2.2 z h z List.mem_cons_self rfl
  rw [waysOk, e, strs_map, decide_eq_false n, Bool.and_false]
theorem cut_mem {l : List V} {lo hi : Option Int} {v : V} (h : v ∈ cutV l lo hi) : v ∈ l := by
  unfold cutV at h
  exact List.mem_of_mem_drop (List.mem_of_mem_take h)
section
variable {P : Program} {w : World} {K : PySem.W.Frag} {mg : Str → Option Value} {base : Heap}
abbrev sL_odd_ways : Stmt := top 28
abbrev nL_odd_ways : List Str := ["_law_pool_here", "_law_menu", "_law_odd", "_law_rest", "_law_at", "_law_twice", "_law_some"]
theorem scL_odd_ways : FnScope nL_odd_ways ["_law_pool_here", "_law_menu"] (defScope sL_odd_ways) := ⟨rfl, rfl, rfl, by decide +kernel, rfl, by decide +kernel, by decide +kernel⟩
def spOddW (K : PySem.W.Frag) : Sp := fun vs H Q _ => ∃ (p mq : Addr) (o : Str) (x y : Int), vs = [.ref p, .ref mq] ∧ H p = some (.lst [.int x, .int y]) ∧ PoolOk x y ∧ o ∈ ops ∧ SqT K H mq ((menu o).map V.str) ∧
  ∀ v H' x' y', Keep p H H' → H' p = some (.lst [.int x', .int y']) → PoolOk x' y' → Bad K H' o v → Q v H'
theorem ok_odd_ways (T : Txt K mg) (D : DefAt K mg "_law_odd_ways" sL_odd_ways ["_law_pool_here", "_law_menu"]) (CL_take : CalG P w K mg base 1 "_law_take" spTake) (CL_one : CalG P w K mg base 2 "_law_one" (spOne K)) : CalG P w K mg base 3 "_law_odd_ways" (spOddW K) := by
  refine D.by scL_odd_ways (fun vs H Q E h => ?_) (fun f cd A hg outer s H vs Q E hr h => ?_)
  · obtain ⟨_, _, _, _, _, rfl, _⟩ := h
    rfl
  · obtain ⟨p, mq, o, x, y, rfl, hp, ok, ho, hm, q⟩ := h
    obtain ⟨a0, ar, em, sh, nz⟩ := m_head o ho
    obtain ⟨n1, n2, n3, ml, mpos, mnd, msum⟩ := m_not o ho
    refine ⟨_, (pss_cons (ps_set (i := 2) scL_odd_ways.nd rfl (Or.inl rfl) (pe_cG CL_one hg hr (by decide) (pa_cons (pv 0) (pa_cons (pe_lst (pa_cons pe_non (pa_cons pe_str (pa_cons pe_str (pa_cons pe_int (pa_cons pe_bl (pa_cons (pe_tup (pa_cons pe_str pa_nil)) (pa_cons (pe_lst pa_nil) (pa_cons (pe_ifExp (pt_cmpR (r := rNeD K) (op_neD hr.units) (pe_ix (r := rIxT K) ix_tup (pv 1) pe_int (fun _ _ => rfl)) pe_str (nomark _)) pe_str pe_str) (pa_cons pe_str pa_nil)))))))))) pa_nil))))
  (pss_cons (ps_set (i := 3) scL_odd_ways.nd rfl (Or.inl rfl) (pe_callTy (r := Rd.rListK K) Rd.callList (by rfl) T.list (by decide +kernel) (pa_cons (pv 1) pa_nil)))
  (pss_cons (ps_set (i := 4) scL_odd_ways.nd rfl (Or.inl rfl) (pe_cG CL_take hg hr (by decide) (pa_cons (pv 0) (pa_cons (pe_op op_add (pe_callB (r := Rd.rLenK K) Rd.callLen (by rfl) T.len PySem.boot_len (pa_cons (pv 3) pa_nil)) pe_int) pa_nil))))
  (pss_cons (ps_set (i := 5) scL_odd_ways.nd rfl (Or.inl rfl) (pe_callTy call_tuple_of (by rfl) T.tuple (by decide +kernel) (pa_cons (pe_op op_cat (pv 3) (pe_lst (pa_cons (pe_cG CL_one hg hr (by decide) (pa_cons (pv 0) (pa_cons (pv 3) pa_nil))) pa_nil))) pa_nil)))
  (pss_cons (ps_set (i := 6) scL_odd_ways.nd rfl (Or.inl rfl) (pe_lst (pa_cons (pe_callTy call_tuple_of (by rfl) T.tuple (by decide +kernel) (pa_cons (pe_op op_cat (pe_op op_cat (pe_slice (r := rSlL K) sl_list (pv 3) po_none (po_some (pv 4))) (pe_lst (pa_cons (pv 2) pa_nil))) (pe_slice (r := rSlL K) sl_list (pv 3) (po_some (pv 4)) po_none)) pa_nil)) (pa_cons (pv 5) (pa_cons (pv 3) (pa_cons (pe_ix (r := rIxT K) ix_tup (pv 1) pe_int (fun _ _ => rfl)) (pa_cons pe_non (pa_cons pe_dnewK (pa_cons pe_int (pa_cons (pe_join pe_str (pv 3)) (pa_cons (pe_callTy call_tuple_of (by rfl) T.tuple (by decide +kernel) (pa_cons (pe_lst (pa_cons (pv 1) pa_nil)) pa_nil)) pa_nil)))))))))))
  (pss_one (ps_ret (pe_cG CL_one hg hr (by decide) (pa_cons (pv 0) (pa_cons (pv 6) pa_nil)))))))))), ?_⟩
    repeat walk_at "rd"
    refine ⟨Rd.sz (by simp), fun t1 ht1 => ?_⟩
    have S1 := Rd.sNew (o := .tup [.str "own"]) ht1
    repeat walk_at "rd"
    refine ⟨Rd.sz (by simp), fun l1 hl1 => ?_⟩
    have S2 := Rd.sNew (o := .lst []) hl1
    repeat walk_at "rd"
    refine Rd.ixT (sqT_same (S1.trans S2) hm) (Rd.atN (by decide) (by rw [em]; rfl)) ?_
    repeat walk_at "rd"
    refine Rd.neD (.str _) (.str _) sh (by decide +kernel) ?_
    refine ⟨_, rfl, ?_⟩
    refine pickS ?_
    generalize (if (!PyData.eqv (.str a0) (.str "hash")) = true then ("hash" : Str) else "own") = z at nz ⊢
    repeat walk_at "rd"
    refine ⟨Rd.sz (by simp), fun l2 hl2 => ?_⟩
    have S3 := Rd.sNew (o := .lst [.non, .str "step", .str "other", .int 0, .bl true, .ref t1, .ref l1, .str z, .str ""]) hl2
    have hpA := S3 _ _ (S2 _ _ (S1 _ _ hp))
    have KA := Keep.same (p := p) ((S1.trans S2).trans S3)
    have tA := S3 _ _ (S2 _ _ (show upd H t1 (.tup [.str "own"]) t1 = some (.tup [.str "own"]) from upd_same))
    have lA := S3 _ _ (show upd (upd H t1 (.tup [.str "own"])) l1 (.lst []) l1 = some (.lst []) from upd_same)
    have NA : upd (upd (upd H t1 (.tup [.str "own"])) l1 (.lst [])) l2 (.lst [.non, .str "step", .str "other", .int 0, .bl true, .ref t1, .ref l1, .str z, .str ""]) l2 = some (.lst [.non, .str "step", .str "other", .int 0, .bl true, .ref t1, .ref l1, .str z, .str ""]) := upd_same
    have l1p : l1 ≠ p := fun e => by have := Same.fr S1 hl1; rw [e, hp] at this; cases this
    have t1p : t1 ≠ p := fun e => by rw [e, hp] at ht1; cases ht1
    have l2p : l2 ≠ p := fun e => by have := Same.fr (S1.trans S2) hl2; rw [e, hp] at this; cases this
    generalize upd (upd (upd H t1 (.tup [.str "own"])) l1 (.lst [])) l2 (.lst [.non, .str "step", .str "other", .int 0, .bl true, .ref t1, .ref l1, .str z, .str ""]) = H0 at hpA KA tA lA NA ⊢
    clear S1 S2 S3
    repeat walk_at "rd"
    refine ⟨p, l2, x, y, _, rfl, hpA, SqL.of NA, fun o => SqL.of (by rw [upd_ne l2p]; exact NA), ok, by simp, by simp, fun v0 x1 y1 hv0 ok1 => ?_⟩
    have hmA := sqT_keep KA (nt_lst hp) hm
    have odd : isIn v0 (menu o) = false ∧ ∀ H', Keep p H0 H' → ∃ tn, Kd K H' v0 tn := by
      simp only [List.mem_cons, List.not_mem_nil, or_false] at hv0
      rcases hv0 with rfl | rfl | rfl | rfl | rfl | rfl | rfl | rfl | rfl
      · exact ⟨rfl, fun _ _ => ⟨_, kd_non⟩⟩
      · exact ⟨notIn n1, fun _ _ => ⟨_, kd_str _⟩⟩
      · exact ⟨notIn n2, fun _ _ => ⟨_, kd_str _⟩⟩
      · exact ⟨rfl, fun _ _ => ⟨_, kd_int _⟩⟩
      · exact ⟨rfl, fun _ _ => ⟨_, kd_bl _⟩⟩
      · exact ⟨rfl, fun H' k => ⟨_, kd_tup (.inl (.inl (k _ _ t1p tA)))⟩⟩
      · exact ⟨rfl, fun H' k => ⟨_, kd_lst (k _ _ l1p lA)⟩⟩
      · exact ⟨notIn nz, fun _ _ => ⟨_, kd_str _⟩⟩
      · exact ⟨notIn n3, fun _ _ => ⟨_, kd_str _⟩⟩
    obtain ⟨oddN, oddK⟩ := odd
    clear hv0 NA tA lA nz
    have hp0 := hpA
    have hp1 : upd H0 p (.lst [.int x1, .int y1]) p = some (.lst [.int x1, .int y1]) := upd_same
    have K1 : Keep p H0 (upd H0 p (.lst [.int x1, .int y1])) := Keep.put (fun _ _ _ e => e)
    generalize upd H0 p (.lst [.int x1, .int y1]) = H1 at hp1 K1 ⊢
    repeat walk_at "rd"
    have hm1 := sqT_keep K1 (nt_lst hpA) hmA
    refine ⟨mq, _, rfl, .inr hm1, fun r hr0 => ?_⟩
    have rp : r ≠ p := fun e => by rw [e, hp1] at hr0; cases hr0
    have S2 := Rd.sNew (o := .lst ((menu o).map V.str)) hr0
    have hp2 := S2 _ _ hp1
    have K2 := Keep.same (p := p) S2
    have N2 : upd H1 r (.lst ((menu o).map V.str)) r = some (.lst ((menu o).map V.str)) := upd_same
    generalize upd H1 r (.lst ((menu o).map V.str)) = H2 at S2 hp2 K2 N2 ⊢
    repeat walk_at "rd"
    have hr2 := N2
    refine ⟨p, x1, y1, _, rfl, hp2, ok1, by rw [List.length_map]; omega, by rw [List.length_map]; omega, fun n x2 y2 ok2 c0 c1 => ?_⟩
    have hp3 : upd H2 p (.lst [.int x2, .int y2]) p = some (.lst [.int x2, .int y2]) := upd_same
    have K3 : Keep p H2 (upd H2 p (.lst [.int x2, .int y2])) := Keep.put (fun _ _ _ e => e)
    have hr3 := K3 _ _ rp hr2
    generalize upd H2 p (.lst [.int x2, .int y2]) = H3 at hp3 K3 hr3 ⊢
    repeat walk_at "rd"
    refine ⟨p, r, x2, y2, _, rfl, hp3, SqL.of hr3, fun o => SqL.of (by rw [upd_ne rp]; exact hr3), ok2, by rw [List.length_map]; omega, by rw [List.length_map]; omega, fun v1 x3 y3 hv1 ok3 => ?_⟩
    obtain ⟨zz, hz1, rfl⟩ := List.mem_map.mp hv1
    have hp4 : upd H3 p (.lst [.int x3, .int y3]) p = some (.lst [.int x3, .int y3]) := upd_same
    have K4 : Keep p H3 (upd H3 p (.lst [.int x3, .int y3])) := Keep.put (fun _ _ _ e => e)
    have hr4 := K4 _ _ rp hr3
    generalize upd H3 p (.lst [.int x3, .int y3]) = H4 at hp4 K4 hr4 ⊢
    repeat walk_at "rd"
    refine ⟨Rd.sz (by simp), fun l4 hl4 => ?_⟩
    have S5 := Rd.sNew (o := .lst [.str zz]) hl4
    have hp5 := S5 _ _ hp4
    have K5 := Keep.same (p := p) S5
    have hr5 := S5 _ _ hr4
    have N5 : upd H4 l4 (.lst [.str zz]) l4 = some (.lst [.str zz]) := upd_same
    generalize upd H4 l4 (.lst [.str zz]) = H5 at S5 hp5 K5 N5 hr5 ⊢
    repeat walk_at "rd"
    refine Rd.cat hr5 N5 (by simp; exact Rd.szl (by omega)) fun c hc => ?_
    have S6 := Rd.sNew (o := .lst ((menu o).map V.str ++ [.str zz])) hc
    have hp6 := S6 _ _ hp5
    have K6 := Keep.same (p := p) S6
    have hr6 := S6 _ _ hr5
    have N6 : upd H5 c (.lst ((menu o).map V.str ++ [.str zz])) c = some (.lst ((menu o).map V.str ++ [.str zz])) := upd_same
    generalize upd H5 c (.lst ((menu o).map V.str ++ [.str zz])) = H6 at S6 hp6 K6 N6 hr6 ⊢
    repeat walk_at "rd"
    refine ⟨c, _, rfl, .inl ⟨SqL.of N6, fun tw htw => ?_⟩⟩
    have S7 := Rd.sNew (o := .tup ((menu o).map V.str ++ [.str zz])) htw
    have hp7 := S7 _ _ hp6
    have K7 := Keep.same (p := p) S7
    have hr7 := S7 _ _ hr6
    have N7 : upd H6 tw (.tup ((menu o).map V.str ++ [.str zz])) tw = some (.tup ((menu o).map V.str ++ [.str zz])) := upd_same
    generalize upd H6 tw (.tup ((menu o).map V.str ++ [.str zz])) = H7 at S7 hp7 K7 N7 hr7 ⊢
    repeat walk_at "rd"
    refine Rd.slL (SqL.of hr7) fun s1 hs1 => ?_
    have S8 := Rd.sNew (o := .lst (cutV ((menu o).map V.str) none (some n))) hs1
    have hp8 := S8 _ _ hp7
    have K8 := Keep.same (p := p) S8
    have hr8 := S8 _ _ hr7
    have N8 : upd H7 s1 (.lst (cutV ((menu o).map V.str) none (some n))) s1 = some (.lst (cutV ((menu o).map V.str) none (some n))) := upd_same
    generalize upd H7 s1 (.lst (cutV ((menu o).map V.str) none (some n))) = H8 at S8 hp8 K8 N8 hr8 ⊢
    repeat walk_at "rd"
    refine ⟨Rd.sz (by simp), fun l9 hl9 => ?_⟩
    have S9 := Rd.sNew (o := .lst [v0]) hl9
    have hp9 := S9 _ _ hp8
    have K9 := Keep.same (p := p) S9
    have hr9 := S9 _ _ hr8
    have N9 : upd H8 l9 (.lst [v0]) l9 = some (.lst [v0]) := upd_same
    generalize upd H8 l9 (.lst [v0]) = H9 at S9 hp9 K9 N9 hr9 ⊢
    repeat walk_at "rd"
    have A9 := S9 _ _ N8
    have cl : ∀ lo hi, (cutV ((menu o).map V.str) lo hi).length ≤ 4 := fun lo hi => Nat.le_trans (cutV_length _ _ _) (by rw [List.length_map]; exact ml)
    refine Rd.cat A9 N9 (by have := cl none (some n); refine Nat.le_of_lt (Rd.szl ?_); simp only [List.length_cons, List.length_nil]; omega) fun c1 hc1 => ?_
    have S10 := Rd.sNew (o := .lst (cutV ((menu o).map V.str) none (some n) ++ [v0])) hc1
    have hp10 := S10 _ _ hp9
    have K10 := Keep.same (p := p) S10
    have hr10 := S10 _ _ hr9
    have N10 : upd H9 c1 (.lst (cutV ((menu o).map V.str) none (some n) ++ [v0])) c1 = some (.lst (cutV ((menu o).map V.str) none (some n) ++ [v0])) := upd_same
    generalize upd H9 c1 (.lst (cutV ((menu o).map V.str) none (some n) ++ [v0])) = H10 at S10 hp10 K10 N10 hr10 ⊢
    repeat walk_at "rd"
    refine Rd.slL (SqL.of hr10) fun s2 hs2 => ?_
    have S11 := Rd.sNew (o := .lst (cutV ((menu o).map V.str) (some n) none)) hs2
    have hp11 := S11 _ _ hp10
    have K11 := Keep.same (p := p) S11
    have hr11 := S11 _ _ hr10
    have N11 : upd H10 s2 (.lst (cutV ((menu o).map V.str) (some n) none)) s2 = some (.lst (cutV ((menu o).map V.str) (some n) none)) := upd_same
    generalize upd H10 s2 (.lst (cutV ((menu o).map V.str) (some n) none)) = H11 at S11 hp11 K11 N11 hr11 ⊢
    repeat walk_at "rd"
    have A11 := S11 _ _ N10
    refine Rd.cat A11 N11 (by have := cl none (some n); have := cl (some n) none; refine Nat.le_of_lt (Rd.szl ?_); simp only [List.length_append, List.length_cons, List.length_nil]; omega) fun c2 hc2 => ?_
    have S12 := Rd.sNew (o := .lst (cutV ((menu o).map V.str) none (some n) ++ [v0] ++ cutV ((menu o).map V.str) (some n) none)) hc2
    have hp12 := S12 _ _ hp11
    have K12 := Keep.same (p := p) S12
    have hr12 := S12 _ _ hr11
    have N12 : upd H11 c2 (.lst (cutV ((menu o).map V.str) none (some n) ++ [v0] ++ cutV ((menu o).map V.str) (some n) none)) c2 = some (.lst (cutV ((menu o).map V.str) none (some n) ++ [v0] ++ cutV ((menu o).map V.str) (some n) none)) := upd_same
    generalize upd H11 c2 (.lst (cutV ((menu o).map V.str) none (some n) ++ [v0] ++ cutV ((menu o).map V.str) (some n) none)) = H12 at S12 hp12 K12 N12 hr12 ⊢
    repeat walk_at "rd"
    refine ⟨c2, _, rfl, .inl ⟨SqL.of N12, fun t2 ht2 => ?_⟩⟩
    have S13 := Rd.sNew (o := .tup (cutV ((menu o).map V.str) none (some n) ++ [v0] ++ cutV ((menu o).map V.str) (some n) none)) ht2
    have hp13 := S13 _ _ hp12
    have K13 := Keep.same (p := p) S13
    have hr13 := S13 _ _ hr12
    have N13 : upd H12 t2 (.tup (cutV ((menu o).map V.str) none (some n) ++ [v0] ++ cutV ((menu o).map V.str) (some n) none)) t2 = some (.tup (cutV ((menu o).map V.str) none (some n) ++ [v0] ++ cutV ((menu o).map V.str) (some n) none)) := upd_same
    generalize upd H12 t2 (.tup (cutV ((menu o).map V.str) none (some n) ++ [v0] ++ cutV ((menu o).map V.str) (some n) none)) = H13 at S13 hp13 K13 N13 hr13 ⊢
    repeat walk_at "rd"
    have kk := (((K2.trans K3).trans (K4.trans K5)).trans ((K6.trans K7).trans (K8.trans K9))).trans ((K10.trans K11).trans (K12.trans K13))
    have hm13 := sqT_keep kk (nt_lst hp1) hm1
    refine Rd.ixT hm13 (Rd.atN (by decide) (by rw [em]; rfl)) ?_
    repeat walk_at "rd"
    intro d0 hd0
    have S14 := Rd.sNew (o := .dK []) hd0
    have hp14 := S14 _ _ hp13
    have K14 := Keep.same (p := p) S14
    have hr14 := S14 _ _ hr13
    have N14 : upd H13 d0 (.dK []) d0 = some (.dK []) := upd_same
    generalize upd H13 d0 (.dK []) = H14 at S14 hp14 K14 N14 hr14 ⊢
    repeat walk_at "rd"
    refine ⟨"", r, menu o, rfl, rfl, .inl (SqL.of hr14), ?_, ?_⟩
    · have : (menu o).length * ("" : Str).length = 0 := by rw [show ("" : Str).length = 0 by rfl]; omega
      omega
    repeat walk_at "rd"
    refine ⟨Rd.sz (by simp), fun l15 hl15 => ?_⟩
    have S15 := Rd.sNew (o := .lst [.ref mq]) hl15
    have hp15 := S15 _ _ hp14
    have K15 := Keep.same (p := p) S15
    have hr15 := S15 _ _ hr14
    have N15 : upd H14 l15 (.lst [.ref mq]) l15 = some (.lst [.ref mq]) := upd_same
    generalize upd H14 l15 (.lst [.ref mq]) = H15 at S15 hp15 K15 N15 hr15 ⊢
    repeat walk_at "rd"
    refine ⟨l15, _, rfl, .inl ⟨SqL.of N15, fun tm htm => ?_⟩⟩
    have S16 := Rd.sNew (o := .tup [.ref mq]) htm
    have hp16 := S16 _ _ hp15
    have K16 := Keep.same (p := p) S16
    have hr16 := S16 _ _ hr15
    have N16 : upd H15 tm (.tup [.ref mq]) tm = some (.tup [.ref mq]) := upd_same
    generalize upd H15 tm (.tup [.ref mq]) = H16 at S16 hp16 K16 N16 hr16 ⊢
    repeat walk_at "rd"
    refine ⟨Rd.sz (by simp), fun l17 hl17 => ?_⟩
    have l17p : l17 ≠ p := fun e => by rw [e, hp16] at hl17; cases hl17
    have S17 := Rd.sNew (o := .lst [.ref t2, .ref tw, .ref r, .str a0, .non, .ref d0, .int 5, .str (Txt.join "" (menu o)), .ref tm]) hl17
    have hp17 := S17 _ _ hp16
    have K17 := Keep.same (p := p) S17
    have hr17 := S17 _ _ hr16
    have N17 : upd H16 l17 (.lst [.ref t2, .ref tw, .ref r, .str a0, .non, .ref d0, .int 5, .str (Txt.join "" (menu o)), .ref tm]) l17 = some (.lst [.ref t2, .ref tw, .ref r, .str a0, .non, .ref d0, .int 5, .str (Txt.join "" (menu o)), .ref tm]) := upd_same
    generalize upd H16 l17 (.lst [.ref t2, .ref tw, .ref r, .str a0, .non, .ref d0, .int 5, .str (Txt.join "" (menu o)), .ref tm]) = H17 at S17 hp17 K17 N17 hr17 ⊢
    repeat walk_at "rd"
    refine ⟨p, l17, x3, y3, _, rfl, hp17, SqL.of N17, fun o => SqL.of (by rw [upd_ne l17p]; exact N17), ok3, by simp, by simp, fun v x4 y4 hv ok4 => ?_⟩
    have hp18 : upd H17 p (.lst [.int x4, .int y4]) p = some (.lst [.int x4, .int y4]) := upd_same
    have K18 : Keep p H17 (upd H17 p (.lst [.int x4, .int y4])) := Keep.put (fun _ _ _ e => e)
    generalize upd H17 p (.lst [.int x4, .int y4]) = H18 at hp18 K18 ⊢
    have z16 := K17.trans K18
    have z15 := K16.trans z16
    have z14 := K15.trans z15
    have z13 := K14.trans z14
    have z7 := ((K8.trans K9).trans ((K10.trans K11).trans (K12.trans K13))).trans z13
    have z1 := kk.trans z13
    have nt7 := nt_lst hp7
    have hm18 := sqT_keep z13 (nt_lst hp13) hm13
    have hr18 := z14 _ _ rp hr14
    have tw18 : SqT K H18 tw ((menu o).map V.str ++ [.str zz]) := sqT_keep z7 nt7 (.inl (.inl N7))
    have t218 : SqT K H18 t2 (cutV ((menu o).map V.str) none (some n) ++ [v0] ++ cutV ((menu o).map V.str) (some n) none) := sqT_keep z13 (nt_lst hp13) (.inl (.inl N13))
    have tm18 : SqT K H18 tm [.ref mq] := sqT_keep z16 (nt_lst hp16) (.inl (.inl N16))
    have dp : d0 ≠ p := fun e => by rw [e, hp13] at hd0; cases hd0
    have d018 := z14 _ _ dp N14
    have kd0 := (K1.trans z1).trans (Keep.same (Same.refl _))
    refine q v H18 x4 y4 (KA.trans (K1.trans z1)) hp18 ok4 ?_
    simp only [List.mem_cons, List.not_mem_nil, or_false] at hv
    rcases hv with rfl | rfl | rfl | rfl | rfl | rfl | rfl | rfl | rfl
    · refine .inr ⟨t2, _, rfl, t218, ?_, fun y hy H' s' => ?_, bad_all oddN⟩
      · have := cl none (some n)
        have := cl (some n) none
        simp only [List.length_append, List.length_cons, List.length_nil]
        omega
      · rcases List.mem_append.mp hy with hy | hy
        · rcases List.mem_append.mp hy with hy | hy
          · obtain ⟨z, _, rfl⟩ := List.mem_map.mp (cut_mem hy)
            exact ⟨_, kd_str z⟩
          · rw [List.mem_singleton.mp hy]
            exact oddK H' (kd0.trans (Keep.same s'))
        · obtain ⟨z, _, rfl⟩ := List.mem_map.mp (cut_mem hy)
          exact ⟨_, kd_str z⟩
    · refine .inr ⟨tw, _, rfl, tw18, ?_, fun y hy H' s' => ?_, bad_twice hz1⟩
      · simp only [List.length_append, List.length_map, List.length_cons, List.length_nil]
        omega
      · have e : (menu o).map V.str ++ [V.str zz] = (menu o ++ [zz]).map V.str := by simp
        rw [e] at hy
        obtain ⟨z, _, rfl⟩ := List.mem_map.mp hy
        exact ⟨_, kd_str z⟩
    · exact .inl ⟨_, (kd_lst hr18).ty, rfl⟩
    · exact .inl ⟨_, (kd_str a0).ty, (by show kitB "str" "tuple" = some false; decide +kernel)⟩
    · exact .inl ⟨_, kd_non.ty, rfl⟩
    · exact .inl ⟨"dict", .base (.dK d018), rfl⟩
    · exact .inl ⟨_, (kd_int 5).ty, rfl⟩
    · exact .inl ⟨_, (kd_str _).ty, (by show kitB "str" "tuple" = some false; decide +kernel)⟩
    · refine .inr ⟨tm, _, rfl, tm18, by simp, fun y hy H' s' => ?_, rfl⟩
      rw [List.mem_singleton.mp hy]
      exact ⟨_, kd_tup (sqT_same s' hm18)⟩
end
end Ab
namespace Ab
open PySem.Spec PyProof.Rows
def okR (d : PyData) : Bool := d.showable && !d.hasDict && decide (d.depth ≤ 60) && decide (d.shown.length ≤ 1000)
def okD (d : PyData) : Bool := SeqAt.shaped d && PyData.eqv d d
def nm4 (z t : Str) : PyData := .list [.str z, .str t, .bool true, .bool true]
def nm2 (z t : Str) : PyData := .list [.str z, .str t]
def okT (t : Str) : Bool := okD (nm4 "name" t) && okD (nm4 "ways" t) && okD (nm4 "flag" t) && okD (nm2 "name" t)
section
variable {K : PySem.W.Frag} {H H' : Hp} {v x y : V} {d : PyData} {tn : String} {Q : VK} {l q : Addr} {z t op : Str} {o : HO}
theorem reprR (h : okR d = true) (hd : Dp K H v d) (k : Q (.str d.shown) H) : rReprX K [v] H Q := by
  simp only [okR, Bool.and_eq_true, Bool.not_eq_true', decide_eq_true_eq] at h
  exact .inl (Rd.repr_ hd h.1.1.1 h.1.1.2 h.1.2 (Nat.le_trans h.2 (by decide)) k)
theorem dp4 (h : H l = some (.lst [.str z, .str t, .bl true, .bl true])) : Dp K H (.ref l) (nm4 z t) := .lst (SqL.of h) (.cons (.str _) (.cons (.str _) (.cons (.bl _) (.cons (.bl _) .nil))))
theorem dp2 (h : H l = some (.lst [.str z, .str t])) : Dp K H (.ref l) (nm2 z t) := .lst (SqL.of h) (.cons (.str _) (.cons (.str _) .nil))
theorem neF (hd : Dp K H x d) (he : Dp K H y d) (ok : okD d = true) (k : Q (.bl false) H) : rNeD K x y H Q := by
  rw [okD, Bool.and_eq_true] at ok
  exact Rd.neD hd he ok.1 ok.1 (by rw [ok.2]; exact k)
theorem oddP (hd : ∀ H', Dp K H' v d) (hk : ∀ H', Kd K H' v tn) (h : okR d = true) : OddV K H v d.shown tn := .inl fun H' => ⟨hk H', fun Q q => reprR h (hd H') q⟩
theorem oddC (e : H q = some o) (hd : ∀ H', H' q = some o → Dp K H' (.ref q) d) (hk : ∀ H', H' q = some o → Kd K H' (.ref q) tn) (h : okR d = true) : OddV K H (.ref q) d.shown tn :=
  .inr ⟨q, o, rfl, e, fun H' e' => ⟨hk H' e', fun Q r => reprR h (hd H' e') r⟩⟩
theorem oddE (e : H q = some (.dK [])) : OddV K H (.ref q) "{}" "dict" := .inr ⟨q, _, rfl, e, fun H' e' => ⟨⟨.base (.dK e'), rfl, rfl⟩, fun Q r => .inr ⟨q, rfl, e', r⟩⟩⟩
theorem oddS (h : okR (.str z) = true) : OddV K H (.str z) (PyData.str z).shown "str" := oddP (fun _ => .str z) (fun _ => kd_str z) h
theorem oddI {i : Int} (h : okR (.int i) = true) : OddV K H (.int i) (PyData.int i).shown "int" := oddP (fun _ => .int i) (fun _ => kd_int i) h
theorem oddN : OddV K H .non (PyData.none).shown "NoneType" := oddP (fun _ => .non) (fun _ => kd_non) (by decide +kernel)
theorem oddB {b : Bool} : OddV K H (.bl b) (PyData.bool b).shown "bool" := oddP (fun _ => .bl b) (fun _ => kd_bl b) (by cases b <;> decide +kernel)
theorem oddL0 (e : H q = some (.lst [])) : OddV K H (.ref q) (PyData.list []).shown "list" := oddC e (fun _ e' => .lst (SqL.of e') .nil) (fun _ e' => kd_lst e') (by decide +kernel)
theorem oddTS (e : H q = some (.tup [.str z])) (h : okR (.tuple [.str z]) = true) : OddV K H (.ref q) (PyData.tuple [.str z]).shown "tuple" := oddC e (fun _ e' => .tup (.inl (.inl e')) (.cons (.str _) .nil)) (fun _ e' => kd_tup (.inl (.inl e'))) h
theorem oddTB (e : H q = some (.tup [.bl true])) : OddV K H (.ref q) (PyData.tuple [.bool true]).shown "tuple" := oddC e (fun _ e' => .tup (.inl (.inl e')) (.cons (.bl _) .nil)) (fun _ e' => kd_tup (.inl (.inl e'))) (by decide +kernel)
theorem oddLS (e : H q = some (.lst [.str z])) (h : okR (.list [.str z]) = true) : OddV K H (.ref q) (PyData.list [.str z]).shown "list" := oddC e (fun _ e' => .lst (SqL.of e') (.cons (.str _) .nil)) (fun _ e' => kd_lst e') h
theorem ops_txt : ∀ o ∈ ops, okR (.str o) = true ∧ okT (PyData.str o).shown = true ∧ okR (.str (o ++ "s")) = true ∧ okT (PyData.str (o ++ "s")).shown = true ∧ (o ++ "s") ∉ ops ∧ SeqAt.shaped (.str o) = true := by decide +kernel
theorem odd_ops (ho : op ∈ ops) {t1 l1 d0 : Addr} (h1 : H t1 = some (.tup [.str "like"])) (h2 : H l1 = some (.lst [])) (h3 : H d0 = some (.dK [])) (hv : v ∈ [.non, .str "", .str "length", .str "like ", .int 0, .bl true, .ref t1, .ref l1, .str "step", .str (op ++ "s"), .ref d0]) :
    ∃ t tn, OddV K H v t tn ∧ okT t = true ∧ isIn v ops = false := by
  obtain ⟨_, _, f3, f4, f5, _⟩ := ops_txt op ho
  simp only [List.mem_cons, List.not_mem_nil, or_false] at hv
  rcases hv with rfl | rfl | rfl | rfl | rfl | rfl | rfl | rfl | rfl | rfl | rfl
  · exact ⟨_, _, oddN, by decide +kernel, rfl⟩
  · exact ⟨_, _, oddS (by decide +kernel), by decide +kernel, by decide +kernel⟩
  · exact ⟨_, _, oddS (by decide +kernel), by decide +kernel, by decide +kernel⟩
  · exact ⟨_, _, oddS (by decide +kernel), by decide +kernel, by decide +kernel⟩
  · exact ⟨_, _, oddI (by decide +kernel), by decide +kernel, rfl⟩
  · exact ⟨_, _, oddB, by decide +kernel, rfl⟩
  · exact ⟨_, _, oddTS h1 (by decide +kernel), by decide +kernel, rfl⟩
  · exact ⟨_, _, oddL0 h2, by decide +kernel, rfl⟩
  · exact ⟨_, _, oddS (by decide +kernel), by decide +kernel, by decide +kernel⟩
  · exact ⟨_, _, oddS f3, f4, notIn f5⟩
  · exact ⟨_, _, oddE h3, by decide +kernel, rfl⟩
theorem odd_vals {l1 t1 : Addr} (h1 : H l1 = some (.lst [])) (h2 : H t1 = some (.tup [.bl true])) (hv : v ∈ [.non, .int 0, .int 1, .str "yes", .str "", .ref l1, .ref t1, .int 2]) : ∃ t tn, OddV K H v t tn ∧ okT t = true ∧ isBl v = false := by
  simp only [List.mem_cons, List.not_mem_nil, or_false] at hv
  rcases hv with rfl | rfl | rfl | rfl | rfl | rfl | rfl | rfl
  · exact ⟨_, _, oddN, by decide +kernel, rfl⟩
  · exact ⟨_, _, oddI (by decide +kernel), by decide +kernel, rfl⟩
  · exact ⟨_, _, oddI (by decide +kernel), by decide +kernel, rfl⟩
  · exact ⟨_, _, oddS (by decide +kernel), by decide +kernel, rfl⟩
  · exact ⟨_, _, oddS (by decide +kernel), by decide +kernel, rfl⟩
  · exact ⟨_, _, oddL0 h1, by decide +kernel, rfl⟩
  · exact ⟨_, _, oddTB h2, by decide +kernel, rfl⟩
  · exact ⟨_, _, oddI (by decide +kernel), by decide +kernel, rfl⟩
theorem odd_flags {l1 : Addr} (h1 : H l1 = some (.lst [.str "bars_hash"])) (hv : v ∈ [.str "bars", .str "", .non, .int 0, .ref l1, .str "bars_hash "]) : ∃ t tn, OddV K H v t tn ∧ okT t = true ∧ isIn v flagsW = false := by
  simp only [List.mem_cons, List.not_mem_nil, or_false] at hv
  rcases hv with rfl | rfl | rfl | rfl | rfl | rfl
  · exact ⟨_, _, oddS (by decide +kernel), by decide +kernel, by decide +kernel⟩
  · exact ⟨_, _, oddS (by decide +kernel), by decide +kernel, by decide +kernel⟩
  · exact ⟨_, _, oddN, by decide +kernel, rfl⟩
  · exact ⟨_, _, oddI (by decide +kernel), by decide +kernel, rfl⟩
  · exact ⟨_, _, oddLS h1 (by decide +kernel), by decide +kernel, rfl⟩
  · exact ⟨_, _, oddS (by decide +kernel), by decide +kernel, by decide +kernel⟩
end
theorem okT4 {t : Str} (h : okT t = true) : okD (nm4 "name" t) = true ∧ okD (nm4 "ways" t) = true ∧ okD (nm4 "flag" t) = true ∧ okD (nm2 "name" t) = true := by
  simp only [okT, Bool.and_eq_true] at h
  exact ⟨h.1.1.1, h.1.1.2, h.1.2, h.2⟩
theorem okM_pm {m : Str → List Str} (h : PM m) : OkM m := fun o ho x hx => menu_in o ho x ((h o ho).2 x hx)
theorem bookEq_self (m : Str → List Str) (fl : Str → Bool) : bookEq m m fl fl = true := by
  unfold bookEq eqWays eqFlags
  rw [Bool.and_eq_true]
  exact ⟨List.all_eq_true.mpr fun _ _ => decide_eq_true rfl, List.all_eq_true.mpr fun _ _ => decide_eq_true rfl⟩
theorem eqO {K : PySem.W.Frag} {mg : Str → Option Value} {C : Addr} {H : Hp} {Q : VK} {b w f b' w' f' : Addr} {g g' : Str → Addr} {m m' : Str → List Str} {fl fl' : Str → Bool} {neg : Bool} (B : BF K mg C) (ic : IC K C) (k : Bk K C H b w f g m fl) (om : OkM m) (k' : Bk K C H b' w' f' g' m' fl') (om' : OkM m')
    (q : Q (.bl (if neg = true then !bookEq m m' fl fl' else bookEq m m' fl fl')) H) : Ob.rEqO K C (spBEq K C) neg (.ref b) (.ref b') H Q := by
  obtain ⟨dx, hb⟩ := k.ins
  exact ⟨b, dx, _, .ref C, rfl, hb, bk_ty B ic k', by show (Value.ref C == Value.ref C || _) = true; simp, b, w, f, g, m, fl, .ref b', rfl, k, om, .inr ⟨b', w', f', g', m', fl', rfl, k', om', _, rfl, q⟩⟩
theorem eqS {K : PySem.W.Frag} {mg : Str → Option Value} {C : Addr} {H : Hp} {Q : VK} {b w f b' w' f' : Addr} {g g' : Str → Addr} {m : Str → List Str} {fl : Str → Bool} (B : BF K mg C) (ic : IC K C) (k : Bk K C H b w f g m fl) (om : OkM m) (k' : Bk K C H b' w' f' g' m fl) (q : Q (.bl false) H) : Ob.rEqO K C (spBEq K C) true (.ref b) (.ref b') H Q :=
  eqO B ic k om k' om (by rw [if_pos rfl, bookEq_self]; exact q)
theorem offI {A B : Prop} (h : B) : if false = true then A else B := by
  rw [if_neg Bool.false_ne_true]
  exact h
theorem ops_short : ∀ o ∈ ops, o.length ≤ 10 := by decide +kernel
def gotD (r : List Str) : PyData := .list [.str "got", dT r]
theorem gotD_ok {r : List Str} (h : ∀ w ∈ r, w ∈ wayW) : okD (gotD r) = true := by
  have e : PyData.eqv (gotD r) (gotD r) = true := by
    show PyData.eqv (.list [.str "got", dT r]) (.list [.str "got", dT r]) = true
    rw [PyData.eqv, PyData.eqvAll, PyData.eqvAll, PyData.eqvAll, eqv_dT, decide_eq_true rfl]
    decide +kernel
  have z : SeqAt.shaped (gotD r) = true := by
    have := Dt.dep_strs r
    have l := Dt.lay_strs (fun w hw => wayW_W w (h w hw))
    have g : PyData.canLay0 (.str "got") = true := by decide +kernel
    have g2 : PyData.canLay0 (dT r) = true := by simp [dT, PyData.canLay0, l]
    simp [SeqAt.shaped, gotD, PyData.canLay0, PyData.canLayAll0, g, g2, dT, PyData.depth, PyData.depthAll]
    exact ⟨⟨g, l⟩, by omega⟩
  rw [okD, z, e]
  rfl
theorem dT_ok {r : List Str} (h : ∀ w ∈ r, w ∈ wayW) : okD (dT r) = true := by
  rw [okD, shaped_dT h, eqv_dT, decide_eq_true rfl]
  rfl
def flD (fl : Str → Bool) : PyData := .list (flagsW.map fun x => .bool (fl x))
theorem flD_dp {K : PySem.W.Frag} {H : Hp} {f : Addr} {fl : Str → Bool} (h : H f = some (.lst (flagsW.map fun x => .bl (fl x)))) : Dp K H (.ref f) (flD fl) := .lst (SqL.of h) (.cons (.bl _) (.cons (.bl _) (.cons (.bl _) .nil)))
theorem flD_ok (fl : Str → Bool) : okD (flD fl) = true := by
  have e : flD fl = .list [.bool (fl "bars_hash"), .bool (fl "ends_same"), .bool (fl "ends_true")] := rfl
  rw [e]
  cases fl "bars_hash" <;> cases fl "ends_same" <;> cases fl "ends_true" <;> decide +kernel
/-- a turn's books: the program's, its twin, the law's own -/
structure Tn (K : PySem.W.Frag) (C : Addr) (H1 Hc : Hp) (p b w f kb kw kf o wo fo : Addr) (g gk go : Str → Addr) (m : Str → List Str) (fl : Str → Bool) (x y : Int) : Prop where
  s : Same H1 Hc
  np : H1 p = none
  nw : H1 w = none
  hp : Hc p = some (.lst [.int x, .int y])
  ok : PoolOk x y
  bk : Bk K C Hc b w f g m fl
  kk : Bk K C Hc kb kw kf gk m fl
  ow : Own K Hc o wo fo go m fl
  pm : PM m
  d1 : w ≠ wo
  d2 : w ≠ o
section
variable {K : PySem.W.Frag} {C : Addr} {H1 Hc Hd : Hp} {p b w f kb kw kf o wo fo : Addr} {g gk go : Str → Addr} {m : Str → List Str} {fl : Str → Bool} {x y x' y' : Int}
theorem Tn.same (k : Tn K C H1 Hc p b w f kb kw kf o wo fo g gk go m fl x y) (s : Same Hc Hd) : Tn K C H1 Hd p b w f kb kw kf o wo fo g gk go m fl x y :=
  ⟨k.s.trans s, k.np, k.nw, s _ _ k.hp, k.ok, k.bk.mono s, k.kk.mono s, k.ow.mono s, k.pm, k.d1, k.d2⟩
theorem Bk.pool (k : Bk K C Hc b w f g m fl) (hp : Hc p = some (.lst [.int x, .int y])) (c : Keep p Hc Hd) : Bk K C Hd b w f g m fl := by
  obtain ⟨dx, hb⟩ := k.ins
  exact k.chg c.chg (fun a ha => by rw [List.mem_singleton.mp ha]; exact nt_lst hp) (fun e => by rw [List.mem_singleton.mp e, hp] at hb; cases hb) (fun e => by have := k.wd; rw [List.mem_singleton.mp e, hp] at this; cases this)
    (fun e => by have := k.fd; rw [List.mem_singleton.mp e, hp] at this; cases this)
theorem Own.pool (k : Own K Hc o wo fo go m fl) (hp : Hc p = some (.lst [.int x, .int y])) (c : Keep p Hc Hd) : Own K Hd o wo fo go m fl :=
  k.chg c.chg (fun a ha => by rw [List.mem_singleton.mp ha]; exact nt_lst hp) (fun e => by have := k.od; rw [List.mem_singleton.mp e, hp] at this; cases this) (fun e => by have := k.wd; rw [List.mem_singleton.mp e, hp] at this; cases this)
    (fun e => by have := k.fd; rw [List.mem_singleton.mp e, hp] at this; cases this)
theorem Tn.pool (k : Tn K C H1 Hc p b w f kb kw kf o wo fo g gk go m fl x y) (c : Keep p Hc Hd) (hp : Hd p = some (.lst [.int x', .int y'])) (ok : PoolOk x' y') : Tn K C H1 Hd p b w f kb kw kf o wo fo g gk go m fl x' y' :=
  ⟨fun a u e => c a u (fun z => by rw [z, k.np] at e; cases e) (k.s a u e), k.np, k.nw, hp, ok, k.bk.pool k.hp c, k.kk.pool k.hp c, k.ow.pool k.hp c, k.pm, k.d1, k.d2⟩
end
end Ab
namespace Ab
open PySem.Spec PyProof.Rows
local macro_rules | `(tactic| walk_at "rd") => `(tactic| (with_reducible first | refine Rd.sfld ?_ | refine Rd.dget ?_ | refine Rd.methR ?_ | refine Rd.propR ?_ | refine Rd.getR ?_ | refine Rd.revT ?_))
theorem lcF {td te : TE} {g : TG} {tt : TT} {vs : List Nat} {σ : L2.St} {H : Hp} {Q : VK} (k : td σ H fun x H1 => ∃ d u, x = .ref d ∧ H1 d = some u ∧ Mut (some u) ∧ ∀ od, tLc (iKeys (tC x)) g tt te vs σ (upd H1 d (.frz od u)) Q) : tLc (iKeys (Fz.tFrz td)) g tt te vs σ H Q := k
theorem keysIn {vs : List Nat} {j : Nat} {σ : L2.St} {H0 : Hp} {Q : VK} {d : Addr} {od : Obj} {l : List Str} {F : Str → V} (h0 : H0 d = some (.frz od (.dK (tab l F)))) (hz : l.length ≤ 1000) (hw : ∀ x, wipe ((wipe σ vs).set j (some x)) vs = wipe σ vs)
    (hj : ∀ x H (R : V → Hp → Prop), R x H → tVar j ((wipe σ vs).set j (some x)) H R) (k : ∀ D, H0 D = none → Q (.ref D) (upd H0 D (.lst (l.map V.str)))) : tLc (iKeys (tC (.ref d))) (gName j) tYes (tVar j) vs σ H0 Q := by
  refine ⟨d, od, rfl, .inl ⟨_, h0, fun D hD => ?_⟩⟩
  have nd : d ≠ D := fun e => by rw [← e, h0] at hD; cases hD
  refine lc_it (walk_keys (d := d) (o := od) (kvs := tab l F)) (fun i H1 => H1 = upd H0 D (.lst ((l.take i).map V.str))) (by rw [List.take_zero]; rfl) ?_ ?_ ?_
  · rintro i H1 _ rfl
    rw [upd_ne nd]; exact h0
  · rintro i x H1 H1' hi rfl ⟨rfl, k, v, hk, rfl⟩
    rw [tab_len] at hi
    have ek : k = .inr l[i] := by
      have : (tab l F)[i]? = some (.inr l[i], F l[i]) := by simp [tab, hi]
      rw [this] at hk
      cases hk
      rfl
    subst ek
    refine ⟨hw _, Rd.yes (Rd.tt_ (hj _ _ _ ⟨(l.take i).map V.str, upd_same, ?_, ?_⟩))⟩
    · rw [List.length_map, List.length_take]
      exact Rd.szl (by omega)
    · show upd (upd H0 D _) D _ = _
      rw [upd_upd, List.take_add_one, List.getElem?_eq_getElem hi, List.map_append]
      rfl
  · rintro H1 rfl
    have := k D hD
    rw [tab_len, List.take_length]
    exact this
def SLw (a L : Addr) (σ : L2.St) : Prop := ∃ z2 z3 z4 z5 z6 z7 z8 z9 z10 z11 z12 z13 z14 : Option V, σ = [some (.ref a), some (.ref L), z2, z3, z4, z5, z6, z7, z8, z9, z10, z11, z12, z13, z14, none]
theorem newK {σ : L2.St} {H : Hp} {Q : VK} (k : ∀ d, H d = none → Q (.ref d) (upd H d (.dK []))) : tDNewK σ H Q := k
theorem forD {K : PySem.W.Frag} {tl : TE} {g : TG} {tb : TS} {D : Ends} {σ : L2.St} {H : Hp} (k : tl σ H fun x H1 => tFor (iList K (tC x)) g tb D σ H1) : tFor (iList K tl) g tb D σ H := k
theorem strs_prd : ∀ l : List Str, Paired (fun (x : Str) (y : V) => y = V.str x) l (l.map V.str)
  | [] => .nil
  | _ :: l => .cons rfl (strs_prd l)
theorem offF {R : Bool → Prop} {v : Bool} (k : R v) : ∃ b, V.bl v = .bl b ∧ R b := ⟨v, rfl, k⟩
section
variable {P : Program} {w : World} {K : PySem.W.Frag} {mg : Str → Option Value} {base : Heap}
def spLaw (K : PySem.W.Frag) : Sp := fun vs H Q _ => ∃ (a : Addr) (ns : List Int), vs = [.ref a] ∧ SqL K H a (ns.map V.int) ∧ ns.length ≤ 63 ∧ ∀ H', Q (.bl true) H'
abbrev sLaw : Stmt := top 29
abbrev nLaw : List Str := ["_law_script", "_law_operations", "_law_operation", "_law_k", "_law_pool_here", "_law_own", "_law_book_here", "_law_kept", "_law_menu", "_law_wrong", "_law_odd", "_law_value", "_law_at", "_law_word", "_law_rest", "_law_one_here"]
theorem scLaw : FnScope nLaw ["_law_script"] (defScope sLaw) := ⟨rfl, rfl, rfl, by decide +kernel, rfl, by decide +kernel, by decide +kernel⟩
set_option pp.maxSteps 300 in
theorem ok_law (T : Txt K mg) {C_Book CN : Addr} (K_Book : BF K mg C_Book) (ic : IC K C_Book) (M_Book_twin : Ob.MCal P w K mg base CX0 C_Book 3 "twin" (spTwin K C_Book)) (Q_Book : Ob.EqCal P w K mg base CX0 C_Book 1 (spBEq K C_Book)) (G_Book : Ob.GetCal P w K mg base (L2.CX P w) C_Book 4 "__getitem__" (spGet K C_Book CN))
    (P_Book_bars_hash : Ob.PCal P w K mg base CX0 C_Book 1 "bars_hash" (spFl K C_Book "bars_hash")) (P_Book_ends_same : Ob.PCal P w K mg base CX0 C_Book 1 "ends_same" (spFl K C_Book "ends_same")) (P_Book_ends_true : Ob.PCal P w K mg base CX0 C_Book 1 "ends_true" (spFl K C_Book "ends_true"))
    (CL_pool : CalG P w K mg base 1 "_law_pool" (spPool K)) (CL_one : CalG P w K mg base 2 "_law_one" (spOne K)) (CL_menus : CalG P w K mg base 1 "_law_menus" (spMenus K)) (CL_book_of : CalG P w K mg base 2 "_law_book_of" (spBookOf K)) (CL_book : CalG P w K mg base 5 "_law_book" (spLBook K C_Book))
    (CL_odd_ways : CalG P w K mg base 3 "_law_odd_ways" (spOddW K)) (CL_set : CalG P w K mg base 5 "_law_set" (spLSet K C_Book)) (CL_got : CalG P w K mg base 6 "_law_got" (spLGot K C_Book)) (CL_flagged : CalG P w K mg base 5 "_law_flagged" (spLFl K C_Book)) (CL_named : CalG P w K mg base 5 "_law_named" (spLNm K C_Book))
    {f : Addr} {fd : FuncData} (F : Fun K "law" "law" sLaw f fd) : FnG P w K mg base CX0 7 f fd ["_law_script"] (spLaw K) := by
  refine defG0 F scLaw (fun vs H Q E h => ?_) (fun cd A hg outer s H vs Q E hr h => ?_)
  · obtain ⟨_, _, rfl, _⟩ := h
    rfl
  · obtain ⟨a, ns, rfl, hS, h63, q⟩ := h
    let Q_sp_Book := spBEq K C_Book
    refine ⟨_, (pss_cons (ps_setLc (i := 1) (wi := iKeys _) (own := [("_law_operation", 2)]) (g := gName 2) (by rfl) scLaw.nd rfl rfl (sw_true rfl rfl rfl (by decide +kernel)) (pi_keys (Fz.pe_frz (pe_cG0 CL_menus hg hr (by decide)))) (blkOk_by (N := nLaw) (sc := defScope sLaw) (by decide +kernel)) (fun _ _ _ _ _ => pg_name (i := 2) scLaw.nd rfl (Or.inl rfl)) (fun _ _ _ _ _ => pts_nil) (fun _ _ _ _ _ => (pv 2)))
  (pss_cons (ps_for PassesOwn.never rfl (pi_range1 (by rfl) T.range (pa_cons (pe_callB (call_max2 rfl) (by rfl) T.max (by decide +kernel) (pa_cons pe_int (pa_cons (pe_callB (call_min2 rfl) (by rfl) T.min (by decide +kernel) (pa_cons pe_int (pa_cons (pe_callB (r := Rd.rLenK K) Rd.callLen (by rfl) T.len PySem.boot_len (pa_cons (pv 0) pa_nil)) pa_nil))) pa_nil))) pa_nil)) (pg_name (i := 3) scLaw.nd rfl (Or.inl rfl))
  (pss_cons (ps_set (i := 4) scLaw.nd rfl (Or.inl rfl) (pe_cG CL_pool hg hr (by decide) (pa_cons (pv 0) (pa_cons (pv 3) pa_nil))))
  (pss_cons (ps_set (i := 5) scLaw.nd rfl (Or.inr rfl) (pe_cG CL_book_of hg hr (by decide) (pa_cons (pv 4) pa_nil)))
  (pss_cons (ps_set (i := 6) scLaw.nd rfl (Or.inr rfl) (pe_cG CL_book hg hr (by decide) (pa_cons (pv 5) pa_nil)))
  (pss_cons (ps_set (i := 7) scLaw.nd rfl (Or.inl rfl) (Ob.meth0 (pv 6) K_Book.cl M_Book_twin hg hr (by decide) pass0))
  (pss_cons (ps_set (i := 2) scLaw.nd rfl (Or.inr rfl) (pe_cG CL_one hg hr (by decide) (pa_cons (pv 4) (pa_cons (pv 1) pa_nil))))
  (pss_cons (ps_set (i := 8) scLaw.nd rfl (Or.inl rfl) (pe_dget (one_ hr.units) (pe_cG0 CL_menus hg hr (by decide)) (pv 2) (fun _ _ => rfl)))
  (pss_cons (ps_set (i := 9) scLaw.nd rfl (Or.inl rfl) (pe_cG CL_odd_ways hg hr (by decide) (pa_cons (pv 4) (pa_cons (pv 8) pa_nil))))
  (pss_cons (ps_if (PW.pt (pw_or (pt_cmpR (r := rNeD K) (op_neD hr.units) (pe_cG CL_set hg hr (by decide) (pa_cons (pv 6) (pa_cons (pv 2) (pa_cons (pv 9) pa_nil)))) (pe_lst (pa_cons pe_str (pa_cons (pe_callB (r := rReprX K) (call_reprX hg hr.units) (by rfl) T.repr (by decide +kernel) (pa_cons (pv 2) pa_nil)) (pa_cons pe_bl (pa_cons pe_bl pa_nil))))) (nomark _)) (pw_or1 (pt_cmpR (r := Ob.rEqO K C_Book Q_sp_Book true) (Ob.op_neO Q_Book K_Book.ne K_Book.ob hg hr (by decide) pass0) (pv 6) (pv 7) (nomark _)))))
  (pss_one (ps_ret pe_bl))
  pss_nil)
  (pss_cons (ps_set (i := 10) scLaw.nd rfl (Or.inl rfl) (pe_cG CL_one hg hr (by decide) (pa_cons (pv 4) (pa_cons (pe_lst (pa_cons pe_non (pa_cons pe_str (pa_cons pe_str (pa_cons pe_str (pa_cons pe_int (pa_cons pe_bl (pa_cons (pe_tup (pa_cons pe_str pa_nil)) (pa_cons (pe_lst pa_nil) (pa_cons pe_str (pa_cons (pe_op op_add_str (pv 2) pe_str) (pa_cons pe_dnewK pa_nil)))))))))))) pa_nil))))
  (pss_cons (ps_if (PW.pt (pw_or (pt_cmpR (r := rNeD K) (op_neD hr.units) (pe_cG CL_set hg hr (by decide) (pa_cons (pv 6) (pa_cons (pv 10) (pa_cons (pv 9) pa_nil)))) (pe_lst (pa_cons pe_str (pa_cons (pe_callB (r := rReprX K) (call_reprX hg hr.units) (by rfl) T.repr (by decide +kernel) (pa_cons (pv 10) pa_nil)) (pa_cons pe_bl (pa_cons pe_bl pa_nil))))) (nomark _)) (pw_or1 (pt_cmpR (r := rNeD K) (op_neD hr.units) (pe_cG CL_got hg hr (by decide) (pa_cons (pv 6) (pa_cons (pv 10) pa_nil))) (pe_lst (pa_cons pe_str (pa_cons (pe_callB (r := rReprX K) (call_reprX hg hr.units) (by rfl) T.repr (by decide +kernel) (pa_cons (pv 10) pa_nil)) pa_nil))) (nomark _)))))
  (pss_one (ps_ret pe_bl))
  pss_nil)
  (pss_cons (ps_set (i := 11) scLaw.nd rfl (Or.inl rfl) (pe_cG CL_one hg hr (by decide) (pa_cons (pv 4) (pa_cons (pe_lst (pa_cons pe_non (pa_cons pe_int (pa_cons pe_int (pa_cons pe_str (pa_cons pe_str (pa_cons (pe_lst pa_nil) (pa_cons (pe_tup (pa_cons pe_bl pa_nil)) (pa_cons pe_int pa_nil))))))))) pa_nil))))
  (pss_cons (ps_for PassesOwn.never rfl (pi_range1 (by rfl) T.range (pa_cons pe_int pa_nil)) (pg_name (i := 12) scLaw.nd rfl (Or.inl rfl))
  (pss_one (ps_if (pt_cmpR (r := rNeD K) (op_neD hr.units) (pe_cG CL_flagged hg hr (by decide) (pa_cons (pv 6) (pa_cons (pv 12) (pa_cons (pv 11) pa_nil)))) (pe_lst (pa_cons pe_str (pa_cons (pe_callB (r := rReprX K) (call_reprX hg hr.units) (by rfl) T.repr (by decide +kernel) (pa_cons (pv 11) pa_nil)) (pa_cons pe_bl (pa_cons pe_bl pa_nil))))) (nomark _))
  (pss_one (ps_ret pe_bl))
  pss_nil)))
  (pss_cons (ps_for (wi := iList K _) PassesOwn.never rfl (pi_list (pe_lst (pa_cons pe_str (pa_cons pe_str (pa_cons pe_non (pa_cons pe_int (pa_cons (pe_lst (pa_cons pe_str pa_nil)) (pa_cons pe_str pa_nil)))))))) (pg_name (i := 13) scLaw.nd rfl (Or.inl rfl))
  (pss_one (ps_if (pt_cmpR (r := rNeD K) (op_neD hr.units) (pe_cG CL_named hg hr (by decide) (pa_cons (pv 6) (pa_cons (pv 13) (pa_cons (pv 11) pa_nil)))) (pe_lst (pa_cons pe_str (pa_cons (pe_callB (r := rReprX K) (call_reprX hg hr.units) (by rfl) T.repr (by decide +kernel) (pa_cons (pv 13) pa_nil)) pa_nil))) (nomark _))
  (pss_one (ps_ret pe_bl))
  pss_nil)))
  (pss_cons (ps_if (PW.pt (pw_or (pt_cmpR (r := Ob.rEqO K C_Book Q_sp_Book true) (Ob.op_neO Q_Book K_Book.ne K_Book.ob hg hr (by decide) pass0) (pv 6) (pv 7) (nomark _)) (pw_or1 (pt_cmpR (r := rNeD K) (op_neD hr.units) (pe_cG CL_got hg hr (by decide) (pa_cons (pv 6) (pa_cons (pv 2) pa_nil))) (pe_lst (pa_cons pe_str (pa_cons (pe_dget (one_ hr.units) (pe_dget (one_ hr.units) (pv 5) pe_str (fun _ _ => rfl)) (pv 2) (fun _ _ => rfl)) pa_nil))) (nomark _)))))
  (pss_one (ps_ret pe_bl))
  pss_nil)
  (pss_cons (ps_if (PW.pt (pw_or (pt_cmpR (r := rNeD K) (op_neD hr.units) (pe_cG CL_set hg hr (by decide) (pa_cons (pv 6) (pa_cons (pv 2) (pa_cons (Tr.pe_revT (pv 8)) pa_nil)))) pe_str (nomark _)) (pw_or1 (pt_cmpR (r := rNeD K) (op_neD hr.units) (Ob.getO G_Book hg hr (by decide) Ob.px0 (pv 6) (pv 2) (fun _ _ => rfl)) (Tr.pe_revT (pv 8)) (nomark _)))))
  (pss_one (ps_ret pe_bl))
  pss_nil)
  (pss_cons (ps_setLc (i := 14) (wi := iList K _) (own := [("_law_one_here", 15)]) (g := gName 15) (by rfl) scLaw.nd rfl rfl (sw_true rfl rfl rfl (by decide +kernel)) (pi_list (pv 1)) (blkOk_by (N := nLaw) (sc := defScope sLaw) (by decide +kernel)) (fun _ _ _ _ _ => pg_name (i := 15) scLaw.nd rfl (Or.inl rfl)) (fun _ _ _ _ _ => (pts_one (PW.pt (pw_and (pt_cmpR op_ne (pv 15) (pv 2) (nomark _)) (pw_and1 (pt_cmpR (r := rNeD K) (op_neD hr.units) (Ob.getO G_Book hg hr (by decide) Ob.px0 (pv 6) (pv 15) (fun _ _ => rfl)) (pe_dget (one_ hr.units) (pe_dget (one_ hr.units) (pv 5) pe_str (fun _ _ => rfl)) (pv 15) (fun _ _ => rfl)) (nomark _))))))) (fun _ _ _ _ _ => (pv 15)))
  (pss_one (ps_if (PW.pt (pw_or (pt_cmpR (r := rNeD K) (op_neD hr.units) (pv 14) (pe_lst pa_nil) (nomark _)) (pw_or1 (pt_cmpR (r := rNeD K) (op_neD hr.units) (pe_lst (pa_cons (Ob.prop (pv 6) K_Book.cl P_Book_bars_hash hg hr (by decide) pass0) (pa_cons (Ob.prop (pv 6) K_Book.cl P_Book_ends_same hg hr (by decide) pass0) (pa_cons (Ob.prop (pv 6) K_Book.cl P_Book_ends_true hg hr (by decide) pass0) pa_nil)))) (pe_dget (one_ hr.units) (pv 5) pe_str (fun _ _ => rfl)) (nomark _)))))
  (pss_one (ps_ret pe_bl))
  pss_nil)))))))))))))))))))
  (pss_one (ps_ret pe_bl)))), ?_⟩
    repeat walk_at "rd"
    refine lcF ?_
    (first | refine Rd.call ?_ | skip); repeat walk_at "rd"
    refine ⟨rfl, fun d g0 H0 mg0 => ⟨d, _, rfl, mg0.d, True.intro, fun od => keysIn (l := ops) (F := fun o => .ref (g0 o)) upd_same (by decide) (fun _ => rfl) (fun _ _ _ k => Rd.var rfl k) fun L hL => ?_⟩⟩
    have nL : H0 L = none := by
      by_cases e : L = d
      · rw [e, upd_same] at hL; cases hL
      · rw [upd_ne e] at hL; exact hL
    have s0 : Same H (upd (upd H0 d (.frz od (.dK (tab ops fun o => .ref (g0 o))))) L (.lst (ops.map V.str))) := (Rd.sMut mg0.s mg0.f).trans (Rd.sNew hL)
    have eL : upd (upd H0 d (.frz od (.dK (tab ops fun o => .ref (g0 o))))) L (.lst (ops.map V.str)) L = some (.lst (ops.map V.str)) := upd_same
    generalize upd (upd H0 d (.frz od (.dK (tab ops fun o => .ref (g0 o))))) L (.lst (ops.map V.str)) = H1 at s0 eL ⊢
    clear hL nL mg0
    have hS1 := s0.seq hS
    repeat walk_at "rd"
    (try refine Rd.forR ?_)
    repeat walk_at "rd"
    refine Rd.rng (by (repeat' split) <;> omega) (by (repeat' split) <;> omega) ?_
    refine Rd.forGo (fun i σ Hc => SLw a L σ ∧ Same H1 Hc) ⟨⟨_, _, _, _, _, _, _, _, _, _, _, _, _, rfl⟩, Same.refl _⟩ ?_ ?_
    · rintro i σ Hc hi ⟨⟨z2, z3, z4, z5, z6, z7, z8, z9, z10, z11, z12, z13, z14, rfl⟩, s1⟩
      have i9 : i < 100 := by
        rw [List.length_map] at hi
        revert hi
        (repeat' split) <;> intro hi <;> omega
      clear hi
      repeat walk_at "rd"
      refine ⟨a, ns, i, rfl, s1.seq hS1, by omega, by omega, fun p x y hp ok => ?_⟩
      have hp2 : upd Hc p (.lst [.int x, .int y]) p = some (.lst [.int x, .int y]) := upd_same
      have s2 := s1.trans (Rd.sNew (o := .lst [.int x, .int y]) hp)
      have np := Same.fr s1 hp
      generalize upd Hc p (.lst [.int x, .int y]) = H2 at hp2 s2 ⊢
      clear hp s1
      repeat walk_at "rd"
      refine ⟨p, x, y, rfl, hp2, ok, fun o wo fo go m fl H3 x3 y3 k3 hp3 ok3 no nwo nfo ow pm => ?_⟩
      have s3 : Same H1 H3 := fun b u e => k3 b u (fun z => by rw [z, np] at e; cases e) (s2 b u e)
      repeat walk_at "rd"
      refine ⟨o, wo, fo, go, m, fl, rfl, ow, pm, fun b w0 f0 g H4 s4 nb nw nf bk => ?_⟩
      have d1 : w0 ≠ wo := fun e => by have := ow.wd; rw [← e, nw] at this; cases this
      have d2 : w0 ≠ o := fun e => by have := ow.od; rw [← e, nw] at this; cases this
      have nw1 := Same.fr s3 nw
      obtain ⟨dx, hb⟩ := bk.ins
      repeat walk_at "rd"
      refine ⟨b, dx, _, rfl, hb, rfl, ?_⟩
      repeat walk_at "rd"
      refine ⟨b, w0, f0, g, m, fl, rfl, bk, fun kb kw kf H5 s5 nkb nkw nkf kk => ?_⟩
      have tn : Tn K C_Book H1 H5 p b w0 f0 kb kw kf o wo fo g g go m fl x3 y3 := ⟨s3.trans (s4.trans s5), np, nw1, s5 _ _ (s4 _ _ hp3), ok3, bk.mono s5, kk, ow.mono (s4.trans s5), pm, d1, d2⟩
      clear k3 s3 s4 s5 hp3 ok3 no nwo nfo ow nb nw nf bk d1 d2 nw1 hb nkb nkw nkf kk np hp2 s2 ok
      have lp : L ≠ p := fun e => by have := tn.np; rw [← e, eL] at this; cases this
      have eL5 := tn.s _ _ eL
      repeat walk_at "rd"
      refine ⟨p, L, x3, y3, ops.map V.str, rfl, tn.hp, SqL.of eL5, fun o => SqL.of (by rw [upd_ne lp]; exact eL5), tn.ok, by decide, by decide, fun v x6 y6 hv ok6 => ?_⟩
      obtain ⟨op, ho, rfl⟩ := List.mem_map.mp hv
      obtain ⟨t1, t2, t3, t4, t5, t6⟩ := ops_txt op ho
      have tn6 := tn.pool (Keep.put (fun _ _ _ e => e)) (Hd := upd H5 p (.lst [.int x6, .int y6])) upd_same ok6
      generalize upd H5 p (.lst [.int x6, .int y6]) = H6 at tn6 ⊢
      clear tn hv eL5
      repeat walk_at "rd"
      refine ⟨rfl, fun md gm H7 mg => ?_⟩
      have tn7 := tn6.same mg.s
      have mq := mg.t op ho
      repeat walk_at "rd"
      refine ⟨md, _, rfl, get_tab mg.d ho, ?_⟩
      clear tn6 mg
      repeat walk_at "rd"
      refine ⟨p, gm op, op, x6, y6, rfl, tn7.hp, tn7.ok, ho, mq, fun wr H8 x8 y8 k8 hp8 ok8 bad => ?_⟩
      have tn8 := tn7.pool k8 hp8 ok8
      have mq8 := sqT_keep k8 (nt_lst tn7.hp) mq
      clear tn7 mq k8 hp8 ok8
      have rp : ∀ H' (Q' : VK), Q' (.str (PyData.str op).shown) H' → rReprX K [.str op] H' Q' := fun H' Q' r => reprR t1 (.str op) r
      repeat walk_at "rd"
      refine ⟨b, w0, f0, g, m, fl, .str op, wr, rfl, tn8.bk, .inr ⟨op, rfl, ho, .inl ⟨_, rp, bad, fun r1 H9 s9 nr1 er1 => ?_⟩⟩⟩
      have tn9 := tn8.same s9
      have mq9 := sqT_same s9 mq8
      clear bad tn8 mq8 s9
      repeat walk_at "rd"
      refine rp _ _ ?_
      repeat walk_at "rd"
      refine ⟨Rd.sz (by simp), fun r2 hr2 => ?_⟩
      have s10 := Rd.sNew (o := .lst [.str "ways", .str (PyData.str op).shown, .bl true, .bl true]) hr2
      refine neF (dp4 (s10 _ _ er1)) (dp4 upd_same) (okT4 t2).2.1 ?_
      have tn10 := tn9.same s10
      have mq10 := sqT_same s10 mq9
      generalize upd H9 r2 (.lst [.str "ways", .str (PyData.str op).shown, .bl true, .bl true]) = H10 at tn10 mq10 ⊢
      clear s10 tn9 mq9 er1 hr2 nr1
      repeat walk_at "rd"
      refine offI ?_
      have om : OkM m := okM_pm tn10.pm
      repeat walk_at "rd"
      refine eqS K_Book ic tn10.bk om tn10.kk ?_
      refine ⟨_, rfl, ?_⟩
      refine offI ?_
      clear rp
      -- the wrong operation
      repeat walk_at "rd"
      refine ⟨Rd.sz (by simp), fun q1 hq1 => ?_⟩
      have u1 := Rd.sNew (o := .tup [.str "like"]) hq1
      repeat walk_at "rd"
      refine ⟨Rd.sz (by simp), fun q2 hq2 => ?_⟩
      have u2 := Rd.sNew (o := .lst []) hq2
      repeat walk_at "rd"
      refine Rd.adds (by have := ops_short op ho; have : ("s" : Str).length = 1 := (by decide +kernel); omega) ?_
      repeat walk_at "rd"
      refine newK fun q3 hq3 => ?_
      have u3 := Rd.sNew (o := .dK []) hq3
      repeat walk_at "rd"
      refine ⟨Rd.sz (by simp), fun q4 hq4 => ?_⟩
      have u4 := Rd.sNew (o := .lst [.non, .str "", .str "length", .str "like ", .int 0, .bl true, .ref q1, .ref q2, .str "step", .str (op ++ "s"), .ref q3]) hq4
      have v1 := u4 _ _ (u3 _ _ (u2 _ _ (show upd H10 q1 (.tup [.str "like"]) q1 = some (.tup [.str "like"]) from upd_same)))
      have v2 := u4 _ _ (u3 _ _ (show upd (upd H10 q1 (.tup [.str "like"])) q2 (.lst []) q2 = some (.lst []) from upd_same))
      have v3 := u4 _ _ (show upd (upd (upd H10 q1 (.tup [.str "like"])) q2 (.lst [])) q3 (.dK []) q3 = some (.dK []) from upd_same)
      have v4 : upd (upd (upd (upd H10 q1 (.tup [.str "like"])) q2 (.lst [])) q3 (.dK [])) q4 (.lst [.non, .str "", .str "length", .str "like ", .int 0, .bl true, .ref q1, .ref q2, .str "step", .str (op ++ "s"), .ref q3]) q4 = some (.lst [.non, .str "", .str "length", .str "like ", .int 0, .bl true, .ref q1, .ref q2, .str "step", .str (op ++ "s"), .ref q3]) := upd_same
      have tn11 := tn10.same ((u1.trans u2).trans (u3.trans u4))
      have mq11 := sqT_same ((u1.trans u2).trans (u3.trans u4)) mq10
      generalize upd (upd (upd (upd H10 q1 (.tup [.str "like"])) q2 (.lst [])) q3 (.dK [])) q4 (.lst [.non, .str "", .str "length", .str "like ", .int 0, .bl true, .ref q1, .ref q2, .str "step", .str (op ++ "s"), .ref q3]) = H11 at v1 v2 v3 v4 tn11 mq11 ⊢
      clear u1 u2 u3 u4 hq1 hq2 hq3 hq4 tn10 mq10
      have w1 : q1 ≠ p := fun e => by rw [e, tn11.hp] at v1; cases v1
      have w2 : q2 ≠ p := fun e => by rw [e, tn11.hp] at v2; cases v2
      have w3 : q3 ≠ p := fun e => by rw [e, tn11.hp] at v3; cases v3
      have w4 : q4 ≠ p := fun e => by rw [e, tn11.hp] at v4; cases v4
      refine ⟨p, q4, x8, y8, _, rfl, tn11.hp, SqL.of v4, fun o => SqL.of (by rw [upd_ne w4]; exact v4), tn11.ok, by simp, by simp, fun ov x12 y12 hv ok12 => ?_⟩
      have kp : Keep p H11 (upd H11 p (.lst [.int x12, .int y12])) := Keep.put (fun _ _ _ e => e)
      obtain ⟨t, tnm, od1, okt, nin⟩ := odd_ops (K := K) (H := upd H11 p (.lst [.int x12, .int y12])) ho (kp _ _ w1 v1) (kp _ _ w2 v2) (kp _ _ w3 v3) hv
      have tn12 := tn11.pool kp upd_same ok12
      have mq12 := sqT_keep kp (nt_lst tn11.hp) mq11
      generalize upd H11 p (.lst [.int x12, .int y12]) = H12 at od1 tn12 mq12 ⊢
      clear tn11 mq11
      obtain ⟨k4n, k4w, k4f, k2n⟩ := okT4 okt
      repeat walk_at "rd"
      refine ⟨b, w0, f0, g, m, fl, ov, wr, rfl, tn12.bk, .inl ⟨t, tnm, od1, nin, fun r1 H13 s13 nr1 er1 => ?_⟩⟩
      have tn13 := tn12.same s13
      have mq13 := sqT_same s13 mq12
      have od2 := od1.mono s13
      clear tn12 mq12 od1 s13 nr1
      repeat walk_at "rd"
      refine od2.here.2 _ ?_
      repeat walk_at "rd"
      refine ⟨Rd.sz (by simp), fun r2 hr2 => ?_⟩
      have s14 := Rd.sNew (o := .lst [.str "name", .str t, .bl true, .bl true]) hr2
      refine neF (dp4 (s14 _ _ er1)) (dp4 upd_same) k4n ?_
      have tn14 := tn13.same s14
      have mq14 := sqT_same s14 mq13
      have od3 := od2.mono s14
      generalize upd H13 r2 (.lst [.str "name", .str t, .bl true, .bl true]) = H14 at tn14 mq14 od3 ⊢
      clear s14 tn13 mq13 od2 er1 hr2
      refine ⟨_, rfl, ?_⟩
      refine offI ?_
      repeat walk_at "rd"
      refine ⟨b, w0, f0, g, m, fl, ov, rfl, tn14.bk, .inl ⟨t, tnm, od3, nin, fun r1 H15 s15 nr1 er1 => ?_⟩⟩
      have tn15 := tn14.same s15
      have mq15 := sqT_same s15 mq14
      have od4 := od3.mono s15
      clear tn14 mq14 od3 s15 nr1
      repeat walk_at "rd"
      refine od4.here.2 _ ?_
      repeat walk_at "rd"
      refine ⟨Rd.sz (by simp), fun r2 hr2 => ?_⟩
      have s16 := Rd.sNew (o := .lst [.str "name", .str t]) hr2
      refine neF (dp2 (s16 _ _ er1)) (dp2 upd_same) k2n ?_
      have tn16 := tn15.same s16
      have mq16 := sqT_same s16 mq15
      generalize upd H15 r2 (.lst [.str "name", .str t]) = H16 at tn16 mq16 ⊢
      clear s16 tn15 mq15 od4 er1 hr2 k4n k4w k4f k2n nin okt
      refine ⟨_, rfl, ?_⟩
      refine offI ?_
      -- the wrong value
      repeat walk_at "rd"
      refine ⟨Rd.sz (by simp), fun q1 hq1 => ?_⟩
      have u1 := Rd.sNew (o := .lst []) hq1
      repeat walk_at "rd"
      refine ⟨Rd.sz (by simp), fun q2 hq2 => ?_⟩
      have u2 := Rd.sNew (o := .tup [.bl true]) hq2
      repeat walk_at "rd"
      refine ⟨Rd.sz (by simp), fun q4 hq4 => ?_⟩
      have u4 := Rd.sNew (o := .lst [.non, .int 0, .int 1, .str "yes", .str "", .ref q1, .ref q2, .int 2]) hq4
      have v1 := u4 _ _ (u2 _ _ (show upd H16 q1 (.lst []) q1 = some (.lst []) from upd_same))
      have v2 := u4 _ _ (show upd (upd H16 q1 (.lst [])) q2 (.tup [.bl true]) q2 = some (.tup [.bl true]) from upd_same)
      have v4 : upd (upd (upd H16 q1 (.lst [])) q2 (.tup [.bl true])) q4 (.lst [.non, .int 0, .int 1, .str "yes", .str "", .ref q1, .ref q2, .int 2]) q4 = some (.lst [.non, .int 0, .int 1, .str "yes", .str "", .ref q1, .ref q2, .int 2]) := upd_same
      have tn17 := tn16.same ((u1.trans u2).trans u4)
      have mq17 := sqT_same ((u1.trans u2).trans u4) mq16
      generalize upd (upd (upd H16 q1 (.lst [])) q2 (.tup [.bl true])) q4 (.lst [.non, .int 0, .int 1, .str "yes", .str "", .ref q1, .ref q2, .int 2]) = H17 at v1 v2 v4 tn17 mq17 ⊢
      clear u1 u2 u4 hq1 hq2 hq4 tn16 mq16
      have w1 : q1 ≠ p := fun e => by rw [e, tn17.hp] at v1; cases v1
      have w2 : q2 ≠ p := fun e => by rw [e, tn17.hp] at v2; cases v2
      have w4 : q4 ≠ p := fun e => by rw [e, tn17.hp] at v4; cases v4
      refine ⟨p, q4, x12, y12, _, rfl, tn17.hp, SqL.of v4, fun o => SqL.of (by rw [upd_ne w4]; exact v4), tn17.ok, by simp, by simp, fun xv x18 y18 hv ok18 => ?_⟩
      have kp : Keep p H17 (upd H17 p (.lst [.int x18, .int y18])) := Keep.put (fun _ _ _ e => e)
      obtain ⟨t, tnm, od1, okt, nin⟩ := odd_vals (K := K) (H := upd H17 p (.lst [.int x18, .int y18])) (kp _ _ w1 v1) (kp _ _ w2 v2) hv
      have tn18 := tn17.pool kp upd_same ok18
      have mq18 := sqT_keep kp (nt_lst tn17.hp) mq17
      generalize upd H17 p (.lst [.int x18, .int y18]) = H18 at od1 tn18 mq18 ⊢
      clear tn17 mq17
      obtain ⟨k4n, k4w, k4f, k2n⟩ := okT4 okt
      repeat walk_at "rd"
      (try refine Rd.forR ?_)
      repeat walk_at "rd"
      refine Rd.rng (by decide) (by decide) ?_
      refine Rd.forGo (fun j σ H' => ∃ zz, σ = [some (.ref a), some (.ref L), some (.str op), some (.int (i : Int)), some (.ref p), some (.ref o), some (.ref b), some (.ref kb), some (.ref (gm op)), some wr, some ov, some xv, zz, z13, z14, none] ∧ Same H18 H') ⟨_, rfl, Same.refl _⟩ ?_ ?_
      · rintro j σ H19 hj ⟨zz, rfl, s19⟩
        have tn19 := tn18.same s19
        repeat walk_at "rd"
        refine ⟨b, w0, f0, g, m, fl, j, xv, t, tnm, rfl, hj, tn19.bk, od1.mono s19, nin, fun r1 H20 s20 nr1 er1 => ?_⟩
        repeat walk_at "rd"
        refine (od1.mono (s19.trans s20)).here.2 _ ?_
        repeat walk_at "rd"
        refine ⟨Rd.sz (by simp), fun r2 hr2 => ?_⟩
        have s21 := Rd.sNew (o := .lst [.str "flag", .str t, .bl true, .bl true]) hr2
        refine neF (dp4 (s21 _ _ er1)) (dp4 upd_same) k4f ?_
        refine ⟨_, rfl, ?_⟩
        refine offI ?_
        repeat walk_at "rd"
        exact ⟨_, rfl, (s19.trans s20).trans s21⟩
      rintro σ H19 ⟨zz, rfl, s19⟩
      have tn19 := tn18.same s19
      have mq19 := sqT_same s19 mq18
      have ov19 := od1.mono s19
      clear tn18 mq18 od1 s19
      repeat walk_at "rd"
      refine forD ?_
      repeat walk_at "rd"
      refine ⟨Rd.sz (by simp), fun q1 hq1 => ?_⟩
      have u1 := Rd.sNew (o := .lst [.str "bars_hash"]) hq1
      repeat walk_at "rd"
      refine ⟨Rd.sz (by simp), fun lw hlw => ?_⟩
      have u2 := Rd.sNew (o := .lst [.str "bars", .str "", .non, .int 0, .ref q1, .str "bars_hash "]) hlw
      have v1 := u2 _ _ (show upd H19 q1 (.lst [.str "bars_hash"]) q1 = some (.lst [.str "bars_hash"]) from upd_same)
      have v2 : upd (upd H19 q1 (.lst [.str "bars_hash"])) lw (.lst [.str "bars", .str "", .non, .int 0, .ref q1, .str "bars_hash "]) lw = some (.lst [.str "bars", .str "", .non, .int 0, .ref q1, .str "bars_hash "]) := upd_same
      have tn20 := tn19.same (u1.trans u2)
      have mq20 := sqT_same (u1.trans u2) mq19
      have ov20 := ov19.mono (u1.trans u2)
      generalize upd (upd H19 q1 (.lst [.str "bars_hash"])) lw (.lst [.str "bars", .str "", .non, .int 0, .ref q1, .str "bars_hash "]) = H20 at v1 v2 tn20 mq20 ov20 ⊢
      clear u1 u2 hq1 hlw tn19 mq19 ov19
      refine ⟨lw, rfl, ⟨_, SqL.of v2⟩, ?_⟩
      refine for_list (K := K) (a := lw) (xs := [.str "bars", .str "", .non, .int 0, .ref q1, .str "bars_hash "]) (fun j σ H' => ∃ z0 zz, σ = [some (.ref a), some (.ref L), some (.str op), some (.int (i : Int)), some (.ref p), some (.ref o), some (.ref b), some (.ref kb), some (.ref (gm op)), some wr, some ov, some xv, z0, zz, z14, none] ∧ Same H20 H') ⟨_, _, rfl, Same.refl _⟩ ?_ ?_ ?_
      · rintro j σ H' _ ⟨_, _, _, s21⟩
        exact SqL.of (s21 _ _ v2)
      · rintro j wv σ H21 hx ⟨z0, zz, rfl, s21⟩
        obtain ⟨tw, tm, odw, okw, ninw⟩ := odd_flags (K := K) (H := H20) v1 (List.mem_of_getElem? hx)
        repeat walk_at "rd"
        refine ⟨b, w0, f0, g, m, fl, wv, xv, tw, t, tm, tnm, rfl, (tn20.same s21).bk, odw.mono s21, ninw, ov20.mono s21, fun r1 H22 s22 nr1 er1 => ?_⟩
        repeat walk_at "rd"
        refine (odw.mono (s21.trans s22)).here.2 _ ?_
        repeat walk_at "rd"
        refine ⟨Rd.sz (by simp), fun r2 hr2 => ?_⟩
        have s23 := Rd.sNew (o := .lst [.str "name", .str tw]) hr2
        refine neF (dp2 (s23 _ _ er1)) (dp2 upd_same) (okT4 okw).2.2.2 ?_
        refine ⟨_, rfl, ?_⟩
        refine offI ?_
        repeat walk_at "rd"
        exact ⟨_, _, rfl, (s21.trans s22).trans s23⟩
      rintro σ H21 ⟨z0, zz, rfl, s21⟩
      have tn21 := tn20.same s21
      have mq21 := sqT_same s21 mq20
      clear tn20 mq20 ov20 v1 v2 s21 k4n k4w k4f k2n nin okt
      -- the book is as it was
      repeat walk_at "rd"
      refine eqS K_Book ic tn21.bk om tn21.kk ?_
      refine ⟨_, rfl, ?_⟩
      refine offI ?_
      repeat walk_at "rd"
      refine ⟨b, w0, f0, g, m, fl, .str op, rfl, tn21.bk, .inr ⟨op, rfl, ho, fun r1 H22 s22 nr1 er1 => ?_⟩⟩
      have tn22 := tn21.same s22
      have mq22 := sqT_same s22 mq21
      clear tn21 mq21 s22 nr1
      repeat walk_at "rd"
      refine ⟨o, _, rfl, tn22.ow.ways, ?_⟩
      repeat walk_at "rd"
      refine ⟨wo, _, rfl, get_tab tn22.ow.wd ho, ?_⟩
      repeat walk_at "rd"
      refine ⟨Rd.sz (by simp), fun r2 hr2 => ?_⟩
      have s23 := Rd.sNew (o := .lst [.str "got", .ref (go op)]) hr2
      have tn23 := tn22.same s23
      have mq23 := sqT_same s23 mq22
      have mw := om op ho
      refine neF (d := gotD (m op)) (.lst (SqL.of (s23 _ _ er1)) (.cons (.str _) (.cons (.tup (tn23.bk.tp op ho) (Dt.dp_strs _)) .nil))) (.lst (SqL.of upd_same) (.cons (.str _) (.cons (.tup (tn23.ow.tp op ho) (Dt.dp_strs _)) .nil))) (gotD_ok mw) ?_
      generalize upd H22 r2 (.lst [.str "got", .ref (go op)]) = H23 at tn23 mq23 ⊢
      clear s23 tn22 mq22 er1 hr2
      refine ⟨_, rfl, ?_⟩
      refine offI ?_
      -- the ways turned about
      obtain ⟨mnd, mlen⟩ := mem_menu_len op ho
      have rin : ∀ z ∈ (menu op).reverse, z ∈ menu op := fun z h => List.mem_reverse.mp h
      have rnd := (List.reverse_perm (menu op)).nodup_iff.mpr mnd
      have rw_ : ∀ z ∈ (menu op).reverse, z ∈ wayW := fun z h => menu_in op ho z (rin z h)
      repeat walk_at "rd"
      refine ⟨gm op, _, rfl, mq23, fun tr htr => ?_⟩
      have s24 := Rd.sNew (o := .tup ((menu op).map V.str).reverse) htr
      have et : SqT K (upd H23 tr (.tup ((menu op).map V.str).reverse)) tr ((menu op).reverse.map V.str) := .inl (.inl (by rw [upd_same, List.map_reverse]))
      have tn24 := tn23.same s24
      have mq24 := sqT_same s24 mq23
      generalize upd H23 tr (.tup ((menu op).map V.str).reverse) = H24 at et tn24 mq24 ⊢
      clear s24 tn23 mq23 htr
      repeat walk_at "rd"
      refine ⟨b, w0, f0, g, m, fl, .str op, .ref tr, rfl, tn24.bk, .inr ⟨op, rfl, ho, .inr ⟨tr, (menu op).reverse, rfl, et, by rw [List.length_reverse]; omega, ways_ok rnd rin, fun H25 s25 => ?_⟩⟩⟩
      have tn25 := tn24.same s25
      have bk26 := tn24.bk.setW s25 (sqT_same s25 et) (o := op)
      have nt := nt_dK tn25.bk.wd
      have c26 : Chg [w0] H25 (upd H25 w0 (.dK (tab ops fun y => .ref (gput g op tr y)))) := chg1
      have ow26 := tn25.ow.chg c26 (fun a ha => by rw [List.mem_singleton.mp ha]; exact nt) (fun e => tn25.d2 (List.mem_singleton.mp e).symm) (fun e => tn25.d1 (List.mem_singleton.mp e).symm)
        (fun e => by have := tn25.ow.fd; rw [List.mem_singleton.mp e, tn25.bk.wd] at this; cases this)
      have s26 : Same H1 (upd H25 w0 (.dK (tab ops fun y => .ref (gput g op tr y)))) := Rd.sMut tn25.s tn25.nw
      have mq26 := sqT_upd (z := .dK (tab ops fun y => .ref (gput g op tr y))) nt (sqT_same s25 mq24)
      have pm := tn25.pm
      generalize upd H25 w0 (.dK (tab ops fun y => .ref (gput g op tr y))) = H26 at bk26 ow26 s26 mq26 ⊢
      clear tn25 tn24 mq24 et s25 c26 nt
      repeat walk_at "rd"
      refine neF (d := .str "set") (.str _) (.str _) (by decide +kernel) ?_
      refine ⟨_, rfl, ?_⟩
      refine offI ?_
      obtain ⟨dx2, hb2⟩ := bk26.ins
      have get : ∀ {H' : Hp} {x : Str} {R : VK}, Bk K C_Book H' b w0 f0 (gput g op tr) (mput m op (menu op).reverse) fl → x ∈ ops → R (.ref (gput g op tr x)) H' → spGet K C_Book CN [.ref b, .str x] H' R E0 := fun {H' x R} k hx r =>
        ⟨b, w0, f0, gput g op tr, mput m op (menu op).reverse, fl, .str x, "str", rfl, k, kd_str _, fun o' eo _ => (by cases eo; exact r), fun c => (by rw [show isIn (.str x) ops = true from decide_eq_true hx] at c; cases c)⟩
      repeat walk_at "rd"
      refine ⟨b, dx2, _, rfl, hb2, get bk26 ho ?_⟩
      repeat walk_at "rd"
      refine ⟨gm op, _, rfl, mq26, fun t3 ht3 => ?_⟩
      have s27 := Rd.sNew (o := .tup ((menu op).map V.str).reverse) ht3
      have e3 : SqT K (upd H26 t3 (.tup ((menu op).map V.str).reverse)) t3 ((menu op).reverse.map V.str) := .inl (.inl (by rw [upd_same, List.map_reverse]))
      have b27 := bk26.mono s27
      have tp := b27.tp op ho
      rw [show mput m op (menu op).reverse op = (menu op).reverse by unfold mput; rw [if_pos rfl]] at tp
      refine neF (d := dT (menu op).reverse) (.tup tp (Dt.dp_strs _)) (.tup e3 (Dt.dp_strs _)) (dT_ok rw_) ?_
      have ow27 := ow26.mono s27
      have s28 := s26.trans s27
      generalize upd H26 t3 (.tup ((menu op).map V.str).reverse) = H27 at b27 ow27 s28 ⊢
      clear tp e3 s27 ht3 bk26 ow26 s26 mq26 hb2
      obtain ⟨dx3, hb3⟩ := b27.ins
      refine ⟨_, rfl, ?_⟩
      refine offI ?_
      -- nothing else has changed
      repeat walk_at "rd"
      refine Rd.lcL (K := K) (a := L) (xs := ops.map V.str) (bs := ops) (fun x y _ => y = .str x) (fun (_ : Str) y _ => True) (fun _ => false) id (fun R k => Rd.var rfl k) (SqL.of (s28 _ _ eL)) (fun _ _ _ _ _ h => h) (fun _ _ _ _ _ h => h) (strs_prd ops) (by decide) (fun _ => rfl) ?_ ?_ ?_
      · rintro x _ H28 R hx _ rfl s29 k
        have b28 := b27.mono s29
        have ow28 := ow27.mono s29
        obtain ⟨dx4, hb4⟩ := b28.ins
        repeat walk_at "rd"
        refine Rd.ndec (fun c => ?_) (fun c => ?_)
        · repeat walk_at "rd"
          refine ⟨b, dx4, _, rfl, hb4, get b28 hx ?_⟩
          repeat walk_at "rd"
          refine ⟨o, _, rfl, ow28.ways, ?_⟩
          repeat walk_at "rd"
          refine ⟨wo, _, rfl, get_tab ow28.wd hx, ?_⟩
          have ne : x ≠ op := fun e => c (by rw [e])
          have tp := b28.tp x hx
          rw [show mput m op (menu op).reverse x = m x by unfold mput; rw [if_neg ne]] at tp
          refine neF (d := dT (m x)) (.tup tp (Dt.dp_strs _)) (.tup (ow28.tp x hx) (Dt.dp_strs _)) (dT_ok (om x hx)) ?_
          exact ⟨_, rfl, k _ (Same.refl _)⟩
        · repeat walk_at "rd"
          exact k _ (Same.refl _)
      · intro _ _ _ _ _ hf
        cases hf
      · intro D ys H28 hD s29 hd3 pr
        have e : ys = [] := by
          have : (ops.filter fun _ => false) = [] := (by decide +kernel)
          rw [this] at pr
          cases pr
          rfl
        subst e
        repeat walk_at "rd"
        refine ⟨Rd.sz (by simp), fun z hz => ?_⟩
        have s30 := Rd.sNew (o := .lst []) hz
        refine neF (d := .list []) (.lst (SqL.of (s30 _ _ hd3)) .nil) (.lst (SqL.of upd_same) .nil) (by decide +kernel) ?_
        refine ⟨_, rfl, ?_⟩
        refine offI ?_
        have b30 := b27.mono (s29.trans s30)
        have ow30 := ow27.mono (s29.trans s30)
        have s31 := s28.trans (s29.trans s30)
        generalize upd H28 z (.lst []) = H30 at b30 ow30 s31 ⊢
        obtain ⟨dx5, hb5⟩ := b30.ins
        repeat walk_at "rd"
        refine ⟨b, dx5, _, rfl, hb5, b, w0, f0, _, _, fl, rfl, b30, ?_⟩
        repeat walk_at "rd"
        refine ⟨b, dx5, _, rfl, hb5, b, w0, f0, _, _, fl, rfl, b30, ?_⟩
        repeat walk_at "rd"
        refine ⟨b, dx5, _, rfl, hb5, b, w0, f0, _, _, fl, rfl, b30, ?_⟩
        repeat walk_at "rd"
        refine ⟨Rd.sz (by simp), fun z hz => ?_⟩
        have s32 := Rd.sNew (o := .lst [.bl (fl "bars_hash"), .bl (fl "ends_same"), .bl (fl "ends_true")]) hz
        repeat walk_at "rd"
        refine ⟨o, _, rfl, (ow30.mono s32).flags, ?_⟩
        refine neF (d := flD fl) (flD_dp upd_same) (flD_dp (ow30.mono s32).fd) (flD_ok fl) ?_
        refine ⟨_, rfl, ?_⟩
        refine offI ?_
        repeat walk_at "rd"
        exact ⟨⟨_, _, _, _, _, _, _, _, _, _, _, _, _, rfl⟩, s31.trans s32⟩
    · rintro σ Hc ⟨_, _⟩
      repeat walk_at "rd"
      exact q _
end
end Ab
namespace Ab
open PySem.Spec PyProof.Rows
abbrev sInit_NoName : Stmt := meth 3 0
theorem scInit_NoName : FnScope ["self", "value"] ["self", "value"] (defScope sInit_NoName) := ⟨rfl, rfl, rfl, by decide +kernel, rfl, by decide +kernel, by decide +kernel⟩
abbrev sInit_NoWays : Stmt := meth 4 0
theorem scInit_NoWays : FnScope ["self", "operation"] ["self", "operation"] (defScope sInit_NoWays) := ⟨rfl, rfl, rfl, by decide +kernel, rfl, by decide +kernel, by decide +kernel⟩
abbrev sInit_NoFlag : Stmt := meth 5 0
theorem scInit_NoFlag : FnScope ["self", "value"] ["self", "value"] (defScope sInit_NoFlag) := ⟨rfl, rfl, rfl, by decide +kernel, rfl, by decide +kernel, by decide +kernel⟩
/-- a tuple that the top has written -/
theorem sqT_of {K : PySem.W.Frag} {p : Addr} {d : Option Addr} {its : Array Value} {m : Nat} {sl : Array (Option Value)} {xs : List V} (l : K.lookup p = some ⟨.type "tuple", d, .seq its m, sl⟩) (z : its.size ≤ sizeLine) (v : Vals xs its.toList) : ∀ H, SqT K H p xs :=
  fun _ => .inr ⟨_, its, m, l, rfl, rfl, z, v⟩
theorem kl_nil {P : Params} : PySem.W.KeysLit P [] := by unfold PySem.W.KeysLit; trivial
theorem kl_cons {P : Params} {x : Str} {t : Tok} {v : Value} {l : List DictEntry} (r : PySem.W.KeysLit P l) : PySem.W.KeysLit P (⟨PyData.keyHash P x, .str x t, v⟩ :: l) := by unfold PySem.W.KeysLit; exact ⟨⟨x, t, rfl, rfl⟩, r⟩
theorem kdct_of {K : PySem.W.Frag} {w : World} {p : Addr} {es : Array DictEntry} {m : Nat} (l : K.lookup p = some ⟨.type "dict", none, .dict es m, #[]⟩) (kl : PySem.W.KeysLit w.params es.toList) {x : Str} {u : Value} {v : V} (hn : PySem.W.nsIn K p x = some (some u)) (r : RelV v u) : KDct K w p x v :=
  ⟨es, m, u, l, kl, hn, r⟩
theorem kitCls_ref {K : PySem.W.Frag} {u : Value} {D : Addr} {b : Bool} (h2 : PySem.W.isClsIn K D = true) (h3 : PySem.W.typeIn K (.ref D) = some (.type "type")) (h4 : PySem.W.subIn K u (.ref D) = some b) : PySem.W.kitCls K u (.ref D) = some b := by
  have h2' : (PySem.W.clsIn K D).isSome = true := h2
  show (if ((PySem.W.clsIn K D).isSome && PySem.W.typeIn K (.ref D) == some (.type "type")) = true then PySem.W.subIn K u (.ref D) else none) = some b
  rw [h2', h3, if_pos (by rfl)]
  exact h4
theorem exm_own {K : PySem.W.Frag} {C : Addr} (h1 : PySem.W.subIn K (.ref C) (.type "BaseException") = some true) (h2 : PySem.W.isClsIn K C = true) (h3 : PySem.W.typeIn K (.ref C) = some (.type "type")) (h4 : PySem.W.subIn K (.ref C) (.ref C) = some true) : PySem.W.exmOne K (.ref C) (.ref C) = some true := by
  show (if (PySem.W.subIn K (.ref C) (.type "BaseException") == some true) = true then PySem.W.kitCls K (.ref C) (.ref C) else none) = some true
  rw [h1, if_pos (by rfl)]
  exact kitCls_ref h2 h3 h4
theorem kit_err {K : PySem.W.Frag} {C D : Addr} (h2 : PySem.W.isClsIn K D = true) (h3 : PySem.W.typeIn K (.ref D) = some (.type "type")) (h4 : PySem.W.subIn K (.ref C) (.ref D) = some true) : PySem.W.kitOne K (.ref C) (.ref D) = some true := by
  show (if (Value.ref C == Value.ref D) = true then some true else PySem.W.kitCls K (.ref C) (.ref D)) = some true
  split
  · rfl
  · exact kitCls_ref h2 h3 h4
theorem kit_value {K : PySem.W.Frag} {C : Addr} (h4 : PySem.W.subIn K (.ref C) (.type "ValueError") = some true) : PySem.W.kitOne K (.ref C) (.type "ValueError") = some true := by
  have e : (Value.ref C == Value.type "ValueError") = false := rfl
  show (if (Value.ref C == Value.type "ValueError") = true then some true else (if PySem.W.kitMeta "ValueError" = true then PySem.W.subIn K (.ref C) (.type "ValueError") else none)) = some true
  rw [e, if_neg Bool.false_ne_true, if_pos (by decide +kernel)]
  exact h4
theorem exm_not {K : PySem.W.Frag} {C D : Addr} (h1 : PySem.W.subIn K (.ref D) (.type "BaseException") = some true) (h2 : PySem.W.isClsIn K D = true) (h3 : PySem.W.typeIn K (.ref D) = some (.type "type")) (h4 : PySem.W.subIn K (.ref C) (.ref D) = some false) : PySem.W.exmOne K (.ref C) (.ref D) = some false := by
  show (if (PySem.W.subIn K (.ref D) (.type "BaseException") == some true) = true then PySem.W.kitCls K (.ref C) (.ref D) else none) = some false
  rw [h1, if_pos (by rfl)]
  exact kitCls_ref h2 h3 h4
theorem kit_ty {K : PySem.W.Frag} {C : Addr} {t : String} (h2 : PySem.W.isClsIn K C = true) (h3 : PySem.W.typeIn K (.ref C) = some (.type "type")) (h4 : PySem.W.subIn K (.type t) (.ref C) = some false) : PySem.W.kitOne K (.type t) (.ref C) = some false ∧ PySem.W.notFirst K C (.type t) = true := by
  have ne : (Value.type t == Value.ref C) = false := rfl
  refine ⟨?_, ?_⟩
  · show (if (Value.type t == Value.ref C) = true then some true else PySem.W.kitCls K (.type t) (.ref C)) = some false
    rw [ne, if_neg Bool.false_ne_true]
    exact kitCls_ref h2 h3 h4
  · show ((Value.type t == Value.ref C) || PySem.W.subIn K (.type t) (.ref C) == some false) = true
    rw [h4, ne]
    rfl
section
variable {P : Program} {w : World} {K : PySem.W.Frag} {mg : Str → Option Value} {base : Heap}
theorem ok_init_NoName {C fI : Addr} {fd : FuncData} (T : Ex.ErrC K mg "NoName" "value" C) (F : Fun K "__init__" "NoName.__init__" sInit_NoName fI fd) : FnOk P w K mg base CX0 1 fI fd ["self", "value"] (Ex.spInit C "value") := by
  refine F.ok scInit_NoName (fun vs H Q E h => ?_) (fun cdv A outer s H vs Q E hr h => ⟨_, pss_one (ps_ost (pv 0) (pv 1)), ?_⟩)
  · obtain ⟨a, v, rfl, _⟩ := h
    rfl
  · obtain ⟨a, v, rfl, ha, q⟩ := h
    exact ⟨_, rfl, _, rfl, a, C, rfl, T.t, T.no, .inl ⟨ha, q⟩⟩
theorem ok_init_NoWays {C fI : Addr} {fd : FuncData} (T : Ex.ErrC K mg "NoWays" "operation" C) (F : Fun K "__init__" "NoWays.__init__" sInit_NoWays fI fd) : FnOk P w K mg base CX0 1 fI fd ["self", "operation"] (Ex.spInit C "operation") := by
  refine F.ok scInit_NoWays (fun vs H Q E h => ?_) (fun cdv A outer s H vs Q E hr h => ⟨_, pss_one (ps_ost (pv 0) (pv 1)), ?_⟩)
  · obtain ⟨a, v, rfl, _⟩ := h
    rfl
  · obtain ⟨a, v, rfl, ha, q⟩ := h
    exact ⟨_, rfl, _, rfl, a, C, rfl, T.t, T.no, .inl ⟨ha, q⟩⟩
theorem ok_init_NoFlag {C fI : Addr} {fd : FuncData} (T : Ex.ErrC K mg "NoFlag" "value" C) (F : Fun K "__init__" "NoFlag.__init__" sInit_NoFlag fI fd) : FnOk P w K mg base CX0 1 fI fd ["self", "value"] (Ex.spInit C "value") := by
  refine F.ok scInit_NoFlag (fun vs H Q E h => ?_) (fun cdv A outer s H vs Q E hr h => ⟨_, pss_one (ps_ost (pv 0) (pv 1)), ?_⟩)
  · obtain ⟨a, v, rfl, _⟩ := h
    rfl
  · obtain ⟨a, v, rfl, ha, q⟩ := h
    exact ⟨_, rfl, _, rfl, a, C, rfl, T.t, T.no, .inl ⟨ha, q⟩⟩
end
theorem all_mk {l : PySem.W.OpenLaw} {w : World} {K : PySem.W.Frag} {h : Heap} {mg : Str → Option Value} {fa : Addr} (X : K.In h) (G : h.Ns mainGlobals mg) (hfa : mg "law" = some (.ref fa))
    {f1 : Addr} (a1 : PySem.W.nsIn K mainGlobals "is_one_of" = some (some (.ref f1)))
    {od1 an1 : Option Addr} {sl1 : Array (Option Value)} {oc1 kV1 dc1 pm1 cd1 ct1 : Value}
    (l1 : K.lookup f1 = some ⟨oc1, od1, .func (PySem.W.fnOf "is_one_of" "is_one_of" (defArgs sIs_one_of) (defBody sIs_one_of) (defScope sIs_one_of) .none kV1 dc1 pm1 an1 cd1 ct1), sl1⟩)
    (c1 : PySem.W.codeIn K cd1 "is_one_of" = true)
    (k1 : PySem.W.keepIn K (.ref f1) = true)
    {f2 : Addr} (a2 : PySem.W.nsIn K mainGlobals "check_flag" = some (some (.ref f2)))
    {od2 an2 : Option Addr} {sl2 : Array (Option Value)} {oc2 kV2 dc2 pm2 cd2 ct2 : Value}
    (l2 : K.lookup f2 = some ⟨oc2, od2, .func (PySem.W.fnOf "check_flag" "check_flag" (defArgs sCheck_flag) (defBody sCheck_flag) (defScope sCheck_flag) .none kV2 dc2 pm2 an2 cd2 ct2), sl2⟩)
    (c2 : PySem.W.codeIn K cd2 "check_flag" = true)
    (k2 : PySem.W.keepIn K (.ref f2) = true)
    {f3 : Addr} (a3 : PySem.W.nsIn K mainGlobals "check_operation" = some (some (.ref f3)))
    {od3 an3 : Option Addr} {sl3 : Array (Option Value)} {oc3 kV3 dc3 pm3 cd3 ct3 : Value}
    (l3 : K.lookup f3 = some ⟨oc3, od3, .func (PySem.W.fnOf "check_operation" "check_operation" (defArgs sCheck_operation) (defBody sCheck_operation) (defScope sCheck_operation) .none kV3 dc3 pm3 an3 cd3 ct3), sl3⟩)
    (c3 : PySem.W.codeIn K cd3 "check_operation" = true)
    (k3 : PySem.W.keepIn K (.ref f3) = true)
    {f4 : Addr} (a4 : PySem.W.nsIn K mainGlobals "are_ways" = some (some (.ref f4)))
    {od4 an4 : Option Addr} {sl4 : Array (Option Value)} {oc4 kV4 dc4 pm4 cd4 ct4 : Value}
    (l4 : K.lookup f4 = some ⟨oc4, od4, .func (PySem.W.fnOf "are_ways" "are_ways" (defArgs sAre_ways) (defBody sAre_ways) (defScope sAre_ways) .none kV4 dc4 pm4 an4 cd4 ct4), sl4⟩)
    (c4 : PySem.W.codeIn K cd4 "are_ways" = true)
    (k4 : PySem.W.keepIn K (.ref f4) = true)
    {f5 : Addr} (a5 : PySem.W.nsIn K mainGlobals "_law_pool" = some (some (.ref f5)))
    {od5 an5 : Option Addr} {sl5 : Array (Option Value)} {oc5 kV5 dc5 pm5 cd5 ct5 : Value}
    (l5 : K.lookup f5 = some ⟨oc5, od5, .func (PySem.W.fnOf "_law_pool" "_law_pool" (defArgs sL_pool) (defBody sL_pool) (defScope sL_pool) .none kV5 dc5 pm5 an5 cd5 ct5), sl5⟩)
    (c5 : PySem.W.codeIn K cd5 "_law_pool" = true)
    (k5 : PySem.W.keepIn K (.ref f5) = true)
    {f6 : Addr} (a6 : PySem.W.nsIn K mainGlobals "_law_take" = some (some (.ref f6)))
    {od6 an6 : Option Addr} {sl6 : Array (Option Value)} {oc6 kV6 dc6 pm6 cd6 ct6 : Value}
    (l6 : K.lookup f6 = some ⟨oc6, od6, .func (PySem.W.fnOf "_law_take" "_law_take" (defArgs sL_take) (defBody sL_take) (defScope sL_take) .none kV6 dc6 pm6 an6 cd6 ct6), sl6⟩)
    (c6 : PySem.W.codeIn K cd6 "_law_take" = true)
    (k6 : PySem.W.keepIn K (.ref f6) = true)
    {f7 : Addr} (a7 : PySem.W.nsIn K mainGlobals "_law_one" = some (some (.ref f7)))
    {od7 an7 : Option Addr} {sl7 : Array (Option Value)} {oc7 kV7 dc7 pm7 cd7 ct7 : Value}
    (l7 : K.lookup f7 = some ⟨oc7, od7, .func (PySem.W.fnOf "_law_one" "_law_one" (defArgs sL_one) (defBody sL_one) (defScope sL_one) .none kV7 dc7 pm7 an7 cd7 ct7), sl7⟩)
    (c7 : PySem.W.codeIn K cd7 "_law_one" = true)
    (k7 : PySem.W.keepIn K (.ref f7) = true)
    {f8 : Addr} (a8 : PySem.W.nsIn K mainGlobals "_law_menus" = some (some (.ref f8)))
    {od8 an8 : Option Addr} {sl8 : Array (Option Value)} {oc8 kV8 dc8 pm8 cd8 ct8 : Value}
    (l8 : K.lookup f8 = some ⟨oc8, od8, .func (PySem.W.fnOf "_law_menus" "_law_menus" (defArgs sL_menus) (defBody sL_menus) (defScope sL_menus) .none kV8 dc8 pm8 an8 cd8 ct8), sl8⟩)
    (c8 : PySem.W.codeIn K cd8 "_law_menus" = true)
    (k8 : PySem.W.keepIn K (.ref f8) = true)
    {f9 : Addr} (a9 : PySem.W.nsIn K mainGlobals "_law_book_of" = some (some (.ref f9)))
    {od9 an9 : Option Addr} {sl9 : Array (Option Value)} {oc9 kV9 dc9 pm9 cd9 ct9 : Value}
    (l9 : K.lookup f9 = some ⟨oc9, od9, .func (PySem.W.fnOf "_law_book_of" "_law_book_of" (defArgs sL_book_of) (defBody sL_book_of) (defScope sL_book_of) .none kV9 dc9 pm9 an9 cd9 ct9), sl9⟩)
    (c9 : PySem.W.codeIn K cd9 "_law_book_of" = true)
    (k9 : PySem.W.keepIn K (.ref f9) = true)
    {f10 : Addr} (a10 : PySem.W.nsIn K mainGlobals "_law_book" = some (some (.ref f10)))
    {od10 an10 : Option Addr} {sl10 : Array (Option Value)} {oc10 kV10 dc10 pm10 cd10 ct10 : Value}
    (l10 : K.lookup f10 = some ⟨oc10, od10, .func (PySem.W.fnOf "_law_book" "_law_book" (defArgs sL_book) (defBody sL_book) (defScope sL_book) .none kV10 dc10 pm10 an10 cd10 ct10), sl10⟩)
    (c10 : PySem.W.codeIn K cd10 "_law_book" = true)
    (k10 : PySem.W.keepIn K (.ref f10) = true)
    {f11 : Addr} (a11 : PySem.W.nsIn K mainGlobals "_law_set" = some (some (.ref f11)))
    {od11 an11 : Option Addr} {sl11 : Array (Option Value)} {oc11 kV11 dc11 pm11 cd11 ct11 : Value}
    (l11 : K.lookup f11 = some ⟨oc11, od11, .func (PySem.W.fnOf "_law_set" "_law_set" (defArgs sL_set) (defBody sL_set) (defScope sL_set) .none kV11 dc11 pm11 an11 cd11 ct11), sl11⟩)
    (c11 : PySem.W.codeIn K cd11 "_law_set" = true)
    (k11 : PySem.W.keepIn K (.ref f11) = true)
    {f12 : Addr} (a12 : PySem.W.nsIn K mainGlobals "_law_got" = some (some (.ref f12)))
    {od12 an12 : Option Addr} {sl12 : Array (Option Value)} {oc12 kV12 dc12 pm12 cd12 ct12 : Value}
    (l12 : K.lookup f12 = some ⟨oc12, od12, .func (PySem.W.fnOf "_law_got" "_law_got" (defArgs sL_got) (defBody sL_got) (defScope sL_got) .none kV12 dc12 pm12 an12 cd12 ct12), sl12⟩)
    (c12 : PySem.W.codeIn K cd12 "_law_got" = true)
    (k12 : PySem.W.keepIn K (.ref f12) = true)
    {f13 : Addr} (a13 : PySem.W.nsIn K mainGlobals "_law_flagged" = some (some (.ref f13)))
    {od13 an13 : Option Addr} {sl13 : Array (Option Value)} {oc13 kV13 dc13 pm13 cd13 ct13 : Value}
    (l13 : K.lookup f13 = some ⟨oc13, od13, .func (PySem.W.fnOf "_law_flagged" "_law_flagged" (defArgs sL_flagged) (defBody sL_flagged) (defScope sL_flagged) .none kV13 dc13 pm13 an13 cd13 ct13), sl13⟩)
    (c13 : PySem.W.codeIn K cd13 "_law_flagged" = true)
    (k13 : PySem.W.keepIn K (.ref f13) = true)
    {f14 : Addr} (a14 : PySem.W.nsIn K mainGlobals "_law_named" = some (some (.ref f14)))
    {od14 an14 : Option Addr} {sl14 : Array (Option Value)} {oc14 kV14 dc14 pm14 cd14 ct14 : Value}
    (l14 : K.lookup f14 = some ⟨oc14, od14, .func (PySem.W.fnOf "_law_named" "_law_named" (defArgs sL_named) (defBody sL_named) (defScope sL_named) .none kV14 dc14 pm14 an14 cd14 ct14), sl14⟩)
    (c14 : PySem.W.codeIn K cd14 "_law_named" = true)
    (k14 : PySem.W.keepIn K (.ref f14) = true)
    {f15 : Addr} (a15 : PySem.W.nsIn K mainGlobals "_law_odd_ways" = some (some (.ref f15)))
    {od15 an15 : Option Addr} {sl15 : Array (Option Value)} {oc15 kV15 dc15 pm15 cd15 ct15 : Value}
    (l15 : K.lookup f15 = some ⟨oc15, od15, .func (PySem.W.fnOf "_law_odd_ways" "_law_odd_ways" (defArgs sL_odd_ways) (defBody sL_odd_ways) (defScope sL_odd_ways) .none kV15 dc15 pm15 an15 cd15 ct15), sl15⟩)
    (c15 : PySem.W.codeIn K cd15 "_law_odd_ways" = true)
    (k15 : PySem.W.keepIn K (.ref f15) = true)
    {f16 : Addr} (a16 : PySem.W.nsIn K mainGlobals "law" = some (some (.ref f16)))
    {od16 an16 : Option Addr} {sl16 : Array (Option Value)} {oc16 kV16 dc16 pm16 cd16 ct16 : Value}
    (l16 : K.lookup f16 = some ⟨oc16, od16, .func (PySem.W.fnOf "law" "law" (defArgs sLaw) (defBody sLaw) (defScope sLaw) .none kV16 dc16 pm16 an16 cd16 ct16), sl16⟩)
    (c16 : PySem.W.codeIn K cd16 "law" = true)
    (k16 : PySem.W.keepIn K (.ref f16) = true)
    (z_int : PySem.W.nsIn K mainGlobals "int" = some none)
    (z_len : PySem.W.nsIn K mainGlobals "len" = some none)
    (z_max : PySem.W.nsIn K mainGlobals "max" = some none)
    (z_min : PySem.W.nsIn K mainGlobals "min" = some none)
    (z_isinstance : PySem.W.nsIn K mainGlobals "isinstance" = some none)
    (z_range : PySem.W.nsIn K mainGlobals "range" = some none)
    (z_list : PySem.W.nsIn K mainGlobals "list" = some none)
    (z_dict : PySem.W.nsIn K mainGlobals "dict" = some none)
    (z_tuple : PySem.W.nsIn K mainGlobals "tuple" = some none)
    (z_set : PySem.W.nsIn K mainGlobals "set" = some none)
    (z_str : PySem.W.nsIn K mainGlobals "str" = some none)
    (z_bool : PySem.W.nsIn K mainGlobals "bool" = some none)
    (z_repr : PySem.W.nsIn K mainGlobals "repr" = some none)
    (z_all : PySem.W.nsIn K mainGlobals "all" = some none)
    (z_ValueError : PySem.W.nsIn K mainGlobals "ValueError" = some none)
    {CA : Addr}
    (aA : PySem.W.nsIn K mainGlobals "AnswerError" = some (some (.ref CA)))
    (hsp : PySem.W.specialIn K (.builtin "object.__class__") "__get__" = some (some (.builtin "getset_descriptor.__get__")))
    (htk : PySem.W.takesIn K (.builtin "object.__class__") = some true)
    {C_NoName N_NoName : Addr} {nm_NoName q_NoName : Str} {bs_NoName : List Value} {sn_NoName : List Str} {sub_NoName : List Value} {ab_NoName : Bool} {col_NoName : Option Bool} {dd_NoName : Option Addr} {m0_NoName m1_NoName m2_NoName m3_NoName m5_NoName : Option Value}
    (aC_NoName : PySem.W.nsIn K mainGlobals "NoName" = some (some (.ref C_NoName)))
    (xL_NoName : K.lookup C_NoName = some (excClassObj nm_NoName q_NoName C_NoName N_NoName bs_NoName [.ref CA, .type "ValueError", .type "Exception", .type "BaseException", .type "object"] true sn_NoName sub_NoName ab_NoName col_NoName dd_NoName m0_NoName m1_NoName m2_NoName m3_NoName m5_NoName "ValueError.__new__"))
    (sa_NoName : PySem.W.findIn K (.ref C_NoName) "__setattr__" = some (some (.builtin "object.__setattr__")))
    (eC_NoName : PySem.W.subIn K (.ref C_NoName) (.type "BaseException") = some true)
    (tC_NoName : PySem.W.typeIn K (.ref C_NoName) = some (.type "type"))
    (kC_NoName : PySem.W.keepIn K (.ref C_NoName) = true)
    (ga_NoName : PySem.W.findIn K (.ref C_NoName) "__getattribute__" = some (some (.builtin "BaseException.__getattribute__")))
    (gg_NoName : PySem.W.findIn K (.ref C_NoName) "__getattr__" = some none)
    (hC_NoName : PySem.W.hasDictIn K C_NoName = true)
    (hcl_NoName : PySem.W.findIn K (.ref C_NoName) "__class__" = some (some (.builtin "object.__class__")))
    (hmr_NoName : PySem.W.mroIn K C_NoName (.type "object") = some true)
    (nf_NoName : PySem.W.findIn K (.ref C_NoName) "value" = some none)
    (cC_NoName : PySem.W.isClsIn K C_NoName = true)
    (sC_NoName : PySem.W.subIn K (.ref C_NoName) (.ref C_NoName) = some true)
    {fI_NoName : Addr}
    (iI_NoName : PySem.W.findIn K (.ref C_NoName) "__init__" = some (some (.ref fI_NoName)))
    (tI_NoName : PySem.W.typeIn K (.ref fI_NoName) = some (.type "function"))
    {odI_NoName anI_NoName : Option Addr} {slI_NoName : Array (Option Value)} {ocI_NoName dcI_NoName pmI_NoName cdI_NoName ctI_NoName : Value}
    (lI_NoName : K.lookup fI_NoName = some ⟨ocI_NoName, odI_NoName, .func (PySem.W.fnOf "__init__" "NoName.__init__" (defArgs sInit_NoName) (defBody sInit_NoName) (defScope sInit_NoName) .none .none dcI_NoName pmI_NoName anI_NoName cdI_NoName ctI_NoName), slI_NoName⟩)
    (cI_NoName : PySem.W.codeIn K cdI_NoName "NoName.__init__" = true)
    (kI_NoName : PySem.W.keepIn K (.ref fI_NoName) = true)
    {C_NoWays N_NoWays : Addr} {nm_NoWays q_NoWays : Str} {bs_NoWays : List Value} {sn_NoWays : List Str} {sub_NoWays : List Value} {ab_NoWays : Bool} {col_NoWays : Option Bool} {dd_NoWays : Option Addr} {m0_NoWays m1_NoWays m2_NoWays m3_NoWays m5_NoWays : Option Value}
    (aC_NoWays : PySem.W.nsIn K mainGlobals "NoWays" = some (some (.ref C_NoWays)))
    (xL_NoWays : K.lookup C_NoWays = some (excClassObj nm_NoWays q_NoWays C_NoWays N_NoWays bs_NoWays [.ref CA, .type "ValueError", .type "Exception", .type "BaseException", .type "object"] true sn_NoWays sub_NoWays ab_NoWays col_NoWays dd_NoWays m0_NoWays m1_NoWays m2_NoWays m3_NoWays m5_NoWays "ValueError.__new__"))
    (sa_NoWays : PySem.W.findIn K (.ref C_NoWays) "__setattr__" = some (some (.builtin "object.__setattr__")))
    (eC_NoWays : PySem.W.subIn K (.ref C_NoWays) (.type "BaseException") = some true)
    (tC_NoWays : PySem.W.typeIn K (.ref C_NoWays) = some (.type "type"))
    (kC_NoWays : PySem.W.keepIn K (.ref C_NoWays) = true)
    (ga_NoWays : PySem.W.findIn K (.ref C_NoWays) "__getattribute__" = some (some (.builtin "BaseException.__getattribute__")))
    (gg_NoWays : PySem.W.findIn K (.ref C_NoWays) "__getattr__" = some none)
    (hC_NoWays : PySem.W.hasDictIn K C_NoWays = true)
    (hcl_NoWays : PySem.W.findIn K (.ref C_NoWays) "__class__" = some (some (.builtin "object.__class__")))
    (hmr_NoWays : PySem.W.mroIn K C_NoWays (.type "object") = some true)
    (nf_NoWays : PySem.W.findIn K (.ref C_NoWays) "operation" = some none)
    (cC_NoWays : PySem.W.isClsIn K C_NoWays = true)
    (sC_NoWays : PySem.W.subIn K (.ref C_NoWays) (.ref C_NoWays) = some true)
    {fI_NoWays : Addr}
    (iI_NoWays : PySem.W.findIn K (.ref C_NoWays) "__init__" = some (some (.ref fI_NoWays)))
    (tI_NoWays : PySem.W.typeIn K (.ref fI_NoWays) = some (.type "function"))
    {odI_NoWays anI_NoWays : Option Addr} {slI_NoWays : Array (Option Value)} {ocI_NoWays dcI_NoWays pmI_NoWays cdI_NoWays ctI_NoWays : Value}
    (lI_NoWays : K.lookup fI_NoWays = some ⟨ocI_NoWays, odI_NoWays, .func (PySem.W.fnOf "__init__" "NoWays.__init__" (defArgs sInit_NoWays) (defBody sInit_NoWays) (defScope sInit_NoWays) .none .none dcI_NoWays pmI_NoWays anI_NoWays cdI_NoWays ctI_NoWays), slI_NoWays⟩)
    (cI_NoWays : PySem.W.codeIn K cdI_NoWays "NoWays.__init__" = true)
    (kI_NoWays : PySem.W.keepIn K (.ref fI_NoWays) = true)
    {C_NoFlag N_NoFlag : Addr} {nm_NoFlag q_NoFlag : Str} {bs_NoFlag : List Value} {sn_NoFlag : List Str} {sub_NoFlag : List Value} {ab_NoFlag : Bool} {col_NoFlag : Option Bool} {dd_NoFlag : Option Addr} {m0_NoFlag m1_NoFlag m2_NoFlag m3_NoFlag m5_NoFlag : Option Value}
    (aC_NoFlag : PySem.W.nsIn K mainGlobals "NoFlag" = some (some (.ref C_NoFlag)))
    (xL_NoFlag : K.lookup C_NoFlag = some (excClassObj nm_NoFlag q_NoFlag C_NoFlag N_NoFlag bs_NoFlag [.ref CA, .type "ValueError", .type "Exception", .type "BaseException", .type "object"] true sn_NoFlag sub_NoFlag ab_NoFlag col_NoFlag dd_NoFlag m0_NoFlag m1_NoFlag m2_NoFlag m3_NoFlag m5_NoFlag "ValueError.__new__"))
    (sa_NoFlag : PySem.W.findIn K (.ref C_NoFlag) "__setattr__" = some (some (.builtin "object.__setattr__")))
    (eC_NoFlag : PySem.W.subIn K (.ref C_NoFlag) (.type "BaseException") = some true)
    (tC_NoFlag : PySem.W.typeIn K (.ref C_NoFlag) = some (.type "type"))
    (kC_NoFlag : PySem.W.keepIn K (.ref C_NoFlag) = true)
    (ga_NoFlag : PySem.W.findIn K (.ref C_NoFlag) "__getattribute__" = some (some (.builtin "BaseException.__getattribute__")))
    (gg_NoFlag : PySem.W.findIn K (.ref C_NoFlag) "__getattr__" = some none)
    (hC_NoFlag : PySem.W.hasDictIn K C_NoFlag = true)
    (hcl_NoFlag : PySem.W.findIn K (.ref C_NoFlag) "__class__" = some (some (.builtin "object.__class__")))
    (hmr_NoFlag : PySem.W.mroIn K C_NoFlag (.type "object") = some true)
    (nf_NoFlag : PySem.W.findIn K (.ref C_NoFlag) "value" = some none)
    (cC_NoFlag : PySem.W.isClsIn K C_NoFlag = true)
    (sC_NoFlag : PySem.W.subIn K (.ref C_NoFlag) (.ref C_NoFlag) = some true)
    {fI_NoFlag : Addr}
    (iI_NoFlag : PySem.W.findIn K (.ref C_NoFlag) "__init__" = some (some (.ref fI_NoFlag)))
    (tI_NoFlag : PySem.W.typeIn K (.ref fI_NoFlag) = some (.type "function"))
    {odI_NoFlag anI_NoFlag : Option Addr} {slI_NoFlag : Array (Option Value)} {ocI_NoFlag dcI_NoFlag pmI_NoFlag cdI_NoFlag ctI_NoFlag : Value}
    (lI_NoFlag : K.lookup fI_NoFlag = some ⟨ocI_NoFlag, odI_NoFlag, .func (PySem.W.fnOf "__init__" "NoFlag.__init__" (defArgs sInit_NoFlag) (defBody sInit_NoFlag) (defScope sInit_NoFlag) .none .none dcI_NoFlag pmI_NoFlag anI_NoFlag cdI_NoFlag ctI_NoFlag), slI_NoFlag⟩)
    (cI_NoFlag : PySem.W.codeIn K cdI_NoFlag "NoFlag.__init__" = true)
    (kI_NoFlag : PySem.W.keepIn K (.ref fI_NoFlag) = true)
    (cC_A : PySem.W.isClsIn K CA = true)
    (tC_A : PySem.W.typeIn K (.ref CA) = some (.type "type"))
    (ka_NoName : PySem.W.subIn K (.ref C_NoName) (.ref CA) = some true)
    (kv_NoName : PySem.W.subIn K (.ref C_NoName) (.type "ValueError") = some true)
    (ka_NoWays : PySem.W.subIn K (.ref C_NoWays) (.ref CA) = some true)
    (kv_NoWays : PySem.W.subIn K (.ref C_NoWays) (.type "ValueError") = some true)
    (ka_NoFlag : PySem.W.subIn K (.ref C_NoFlag) (.ref CA) = some true)
    (kv_NoFlag : PySem.W.subIn K (.ref C_NoFlag) (.type "ValueError") = some true)
    (no_NoWays_NoName : PySem.W.subIn K (.ref C_NoWays) (.ref C_NoName) = some false)
    {C_Book : Addr}
    (aK_Book : PySem.W.nsIn K mainGlobals "Book" = some (some (.ref C_Book)))
    (pg_Book : PySem.W.plainGet K C_Book Str.empty = true)
    (hd_Book : PySem.W.hasDictIn K C_Book = true)
    (po_Book : PySem.W.plainOver K C_Book = true)
    (sa_Book : PySem.W.findIn K (.ref C_Book) "__setattr__" = some (some (.builtin "object.__setattr__")))
    (mk_Book : PySem.W.makesIn K C_Book = true)
    (kc_Book : PySem.W.keepIn K (.ref C_Book) = true)
    (ne_Book : PySem.W.findIn K (.ref C_Book) "__ne__" = some (some (.builtin "object.__ne__")))
    (ob_Book : PySem.W.mroIn K C_Book (.type "object") = some true)
    (hc_Book : PySem.W.findIn K (.ref C_Book) "__class__" = some (some (.builtin "object.__class__")))
    (dq_Book : PySem.W.subIn K (.ref C_Book) (.type "collections.deque") = some false)
    (cC_Book : PySem.W.isClsIn K C_Book = true)
    (tC_Book : PySem.W.typeIn K (.ref C_Book) = some (.type "type"))
    (n_Book__ways : PySem.W.findIn K (.ref C_Book) "_ways" = some none)
    (n_Book__flags : PySem.W.findIn K (.ref C_Book) "_flags" = some none)
    {f_Book_init : Addr}
    (a_Book_init : PySem.W.findIn K (.ref C_Book) "__init__" = some (some (.ref f_Book_init)))
    (i_Book_init : PySem.W.isFn K (.ref f_Book_init) = true)
    {od_Book_init an_Book_init : Option Addr} {sl_Book_init : Array (Option Value)} {oc_Book_init kV_Book_init dc_Book_init pm_Book_init cd_Book_init ct_Book_init : Value}
    (l_Book_init : K.lookup f_Book_init = some ⟨oc_Book_init, od_Book_init, .func (PySem.W.fnOf "__init__" "Book.__init__" (defArgs sBook___init__) (defBody sBook___init__) (defScope sBook___init__) .none kV_Book_init dc_Book_init pm_Book_init an_Book_init cd_Book_init ct_Book_init), sl_Book_init⟩)
    (c_Book_init : PySem.W.codeIn K cd_Book_init "Book.__init__" = true)
    (k_Book_init : PySem.W.keepIn K (.ref f_Book_init) = true)
    {f_Book_getitem : Addr}
    (a_Book_getitem : PySem.W.findIn K (.ref C_Book) "__getitem__" = some (some (.ref f_Book_getitem)))
    (i_Book_getitem : PySem.W.isFn K (.ref f_Book_getitem) = true)
    {od_Book_getitem an_Book_getitem : Option Addr} {sl_Book_getitem : Array (Option Value)} {oc_Book_getitem kV_Book_getitem dc_Book_getitem pm_Book_getitem cd_Book_getitem ct_Book_getitem : Value}
    (l_Book_getitem : K.lookup f_Book_getitem = some ⟨oc_Book_getitem, od_Book_getitem, .func (PySem.W.fnOf "__getitem__" "Book.__getitem__" (defArgs sBook___getitem__) (defBody sBook___getitem__) (defScope sBook___getitem__) .none kV_Book_getitem dc_Book_getitem pm_Book_getitem an_Book_getitem cd_Book_getitem ct_Book_getitem), sl_Book_getitem⟩)
    (c_Book_getitem : PySem.W.codeIn K cd_Book_getitem "Book.__getitem__" = true)
    (k_Book_getitem : PySem.W.keepIn K (.ref f_Book_getitem) = true)
    {f_Book_setitem : Addr}
    (a_Book_setitem : PySem.W.findIn K (.ref C_Book) "__setitem__" = some (some (.ref f_Book_setitem)))
    (i_Book_setitem : PySem.W.isFn K (.ref f_Book_setitem) = true)
    {od_Book_setitem an_Book_setitem : Option Addr} {sl_Book_setitem : Array (Option Value)} {oc_Book_setitem kV_Book_setitem dc_Book_setitem pm_Book_setitem cd_Book_setitem ct_Book_setitem : Value}
    (l_Book_setitem : K.lookup f_Book_setitem = some ⟨oc_Book_setitem, od_Book_setitem, .func (PySem.W.fnOf "__setitem__" "Book.__setitem__" (defArgs sBook___setitem__) (defBody sBook___setitem__) (defScope sBook___setitem__) .none kV_Book_setitem dc_Book_setitem pm_Book_setitem an_Book_setitem cd_Book_setitem ct_Book_setitem), sl_Book_setitem⟩)
    (c_Book_setitem : PySem.W.codeIn K cd_Book_setitem "Book.__setitem__" = true)
    (k_Book_setitem : PySem.W.keepIn K (.ref f_Book_setitem) = true)
    {p_Book_bars_hash : Addr}
    (a_Book_bars_hash : PySem.W.findIn K (.ref C_Book) "bars_hash" = some (some (.ref p_Book_bars_hash)))
    (d_Book_bars_hash : PySem.W.specialIn K (.ref p_Book_bars_hash) "__get__" = some (some (.builtin "property.__get__")))
    (e_Book_bars_hash : PySem.W.takesIn K (.ref p_Book_bars_hash) = some true)
    {f_Book_bars_hash : Addr} {r_Book_bars_hash : List Value}
    (b_Book_bars_hash : PySem.W.recIn K p_Book_bars_hash "property" = some (.ref f_Book_bars_hash :: r_Book_bars_hash))
    {od_Book_bars_hash an_Book_bars_hash : Option Addr} {sl_Book_bars_hash : Array (Option Value)} {oc_Book_bars_hash kV_Book_bars_hash dc_Book_bars_hash pm_Book_bars_hash cd_Book_bars_hash ct_Book_bars_hash : Value}
    (l_Book_bars_hash : K.lookup f_Book_bars_hash = some ⟨oc_Book_bars_hash, od_Book_bars_hash, .func (PySem.W.fnOf "bars_hash" "Book.bars_hash" (defArgs sBook_bars_hash) (defBody sBook_bars_hash) (defScope sBook_bars_hash) .none kV_Book_bars_hash dc_Book_bars_hash pm_Book_bars_hash an_Book_bars_hash cd_Book_bars_hash ct_Book_bars_hash), sl_Book_bars_hash⟩)
    (c_Book_bars_hash : PySem.W.codeIn K cd_Book_bars_hash "Book.bars_hash" = true)
    (k_Book_bars_hash : PySem.W.keepIn K (.ref f_Book_bars_hash) = true)
    {p_Book_ends_same : Addr}
    (a_Book_ends_same : PySem.W.findIn K (.ref C_Book) "ends_same" = some (some (.ref p_Book_ends_same)))
    (d_Book_ends_same : PySem.W.specialIn K (.ref p_Book_ends_same) "__get__" = some (some (.builtin "property.__get__")))
    (e_Book_ends_same : PySem.W.takesIn K (.ref p_Book_ends_same) = some true)
    {f_Book_ends_same : Addr} {r_Book_ends_same : List Value}
    (b_Book_ends_same : PySem.W.recIn K p_Book_ends_same "property" = some (.ref f_Book_ends_same :: r_Book_ends_same))
    {od_Book_ends_same an_Book_ends_same : Option Addr} {sl_Book_ends_same : Array (Option Value)} {oc_Book_ends_same kV_Book_ends_same dc_Book_ends_same pm_Book_ends_same cd_Book_ends_same ct_Book_ends_same : Value}
    (l_Book_ends_same : K.lookup f_Book_ends_same = some ⟨oc_Book_ends_same, od_Book_ends_same, .func (PySem.W.fnOf "ends_same" "Book.ends_same" (defArgs sBook_ends_same) (defBody sBook_ends_same) (defScope sBook_ends_same) .none kV_Book_ends_same dc_Book_ends_same pm_Book_ends_same an_Book_ends_same cd_Book_ends_same ct_Book_ends_same), sl_Book_ends_same⟩)
    (c_Book_ends_same : PySem.W.codeIn K cd_Book_ends_same "Book.ends_same" = true)
    (k_Book_ends_same : PySem.W.keepIn K (.ref f_Book_ends_same) = true)
    {p_Book_ends_true : Addr}
    (a_Book_ends_true : PySem.W.findIn K (.ref C_Book) "ends_true" = some (some (.ref p_Book_ends_true)))
    (d_Book_ends_true : PySem.W.specialIn K (.ref p_Book_ends_true) "__get__" = some (some (.builtin "property.__get__")))
    (e_Book_ends_true : PySem.W.takesIn K (.ref p_Book_ends_true) = some true)
    {f_Book_ends_true : Addr} {r_Book_ends_true : List Value}
    (b_Book_ends_true : PySem.W.recIn K p_Book_ends_true "property" = some (.ref f_Book_ends_true :: r_Book_ends_true))
    {od_Book_ends_true an_Book_ends_true : Option Addr} {sl_Book_ends_true : Array (Option Value)} {oc_Book_ends_true kV_Book_ends_true dc_Book_ends_true pm_Book_ends_true cd_Book_ends_true ct_Book_ends_true : Value}
    (l_Book_ends_true : K.lookup f_Book_ends_true = some ⟨oc_Book_ends_true, od_Book_ends_true, .func (PySem.W.fnOf "ends_true" "Book.ends_true" (defArgs sBook_ends_true) (defBody sBook_ends_true) (defScope sBook_ends_true) .none kV_Book_ends_true dc_Book_ends_true pm_Book_ends_true an_Book_ends_true cd_Book_ends_true ct_Book_ends_true), sl_Book_ends_true⟩)
    (c_Book_ends_true : PySem.W.codeIn K cd_Book_ends_true "Book.ends_true" = true)
    (k_Book_ends_true : PySem.W.keepIn K (.ref f_Book_ends_true) = true)
    {f_Book_set_flag : Addr}
    (a_Book_set_flag : PySem.W.findIn K (.ref C_Book) "set_flag" = some (some (.ref f_Book_set_flag)))
    (i_Book_set_flag : PySem.W.isFn K (.ref f_Book_set_flag) = true)
    {od_Book_set_flag an_Book_set_flag : Option Addr} {sl_Book_set_flag : Array (Option Value)} {oc_Book_set_flag kV_Book_set_flag dc_Book_set_flag pm_Book_set_flag cd_Book_set_flag ct_Book_set_flag : Value}
    (l_Book_set_flag : K.lookup f_Book_set_flag = some ⟨oc_Book_set_flag, od_Book_set_flag, .func (PySem.W.fnOf "set_flag" "Book.set_flag" (defArgs sBook_set_flag) (defBody sBook_set_flag) (defScope sBook_set_flag) .none kV_Book_set_flag dc_Book_set_flag pm_Book_set_flag an_Book_set_flag cd_Book_set_flag ct_Book_set_flag), sl_Book_set_flag⟩)
    (c_Book_set_flag : PySem.W.codeIn K cd_Book_set_flag "Book.set_flag" = true)
    (k_Book_set_flag : PySem.W.keepIn K (.ref f_Book_set_flag) = true)
    {f_Book_twin : Addr}
    (a_Book_twin : PySem.W.findIn K (.ref C_Book) "twin" = some (some (.ref f_Book_twin)))
    (i_Book_twin : PySem.W.isFn K (.ref f_Book_twin) = true)
    {od_Book_twin an_Book_twin : Option Addr} {sl_Book_twin : Array (Option Value)} {oc_Book_twin kV_Book_twin dc_Book_twin pm_Book_twin cd_Book_twin ct_Book_twin : Value}
    (l_Book_twin : K.lookup f_Book_twin = some ⟨oc_Book_twin, od_Book_twin, .func (PySem.W.fnOf "twin" "Book.twin" (defArgs sBook_twin) (defBody sBook_twin) (defScope sBook_twin) .none kV_Book_twin dc_Book_twin pm_Book_twin an_Book_twin cd_Book_twin ct_Book_twin), sl_Book_twin⟩)
    (c_Book_twin : PySem.W.codeIn K cd_Book_twin "Book.twin" = true)
    (k_Book_twin : PySem.W.keepIn K (.ref f_Book_twin) = true)
    {f_Book_eq : Addr}
    (a_Book_eq : PySem.W.findIn K (.ref C_Book) "__eq__" = some (some (.ref f_Book_eq)))
    (i_Book_eq : PySem.W.isFn K (.ref f_Book_eq) = true)
    {od_Book_eq an_Book_eq : Option Addr} {sl_Book_eq : Array (Option Value)} {oc_Book_eq kV_Book_eq dc_Book_eq pm_Book_eq cd_Book_eq ct_Book_eq : Value}
    (l_Book_eq : K.lookup f_Book_eq = some ⟨oc_Book_eq, od_Book_eq, .func (PySem.W.fnOf "__eq__" "Book.__eq__" (defArgs sBook___eq__) (defBody sBook___eq__) (defScope sBook___eq__) .none kV_Book_eq dc_Book_eq pm_Book_eq an_Book_eq cd_Book_eq ct_Book_eq), sl_Book_eq⟩)
    (c_Book_eq : PySem.W.codeIn K cd_Book_eq "Book.__eq__" = true)
    (k_Book_eq : PySem.W.keepIn K (.ref f_Book_eq) = true)
    {p_OPERATIONS : Addr} {d_OPERATIONS : Option Addr} {i_OPERATIONS : Array Value} {n_OPERATIONS : Nat} {s_OPERATIONS : Array (Option Value)}
    (a_OPERATIONS : PySem.W.nsIn K mainGlobals "OPERATIONS" = some (some (.ref p_OPERATIONS)))
    (l_OPERATIONS : K.lookup p_OPERATIONS = some ⟨.type "tuple", d_OPERATIONS, .seq i_OPERATIONS n_OPERATIONS, s_OPERATIONS⟩)
    (z_OPERATIONS : i_OPERATIONS.size ≤ sizeLine)
    (v_OPERATIONS : Vals (ops.map V.str) i_OPERATIONS.toList)
    {p_FLAGS : Addr} {d_FLAGS : Option Addr} {i_FLAGS : Array Value} {n_FLAGS : Nat} {s_FLAGS : Array (Option Value)}
    (a_FLAGS : PySem.W.nsIn K mainGlobals "FLAGS" = some (some (.ref p_FLAGS)))
    (l_FLAGS : K.lookup p_FLAGS = some ⟨.type "tuple", d_FLAGS, .seq i_FLAGS n_FLAGS, s_FLAGS⟩)
    (z_FLAGS : i_FLAGS.size ≤ sizeLine)
    (v_FLAGS : Vals (flagsW.map V.str) i_FLAGS.toList)
    {p_MENUS : Addr} {e_MENUS : Array DictEntry} {n_MENUS : Nat}
    (a_MENUS : PySem.W.nsIn K mainGlobals "MENUS" = some (some (.ref p_MENUS)))
    (l_MENUS : K.lookup p_MENUS = some ⟨.type "dict", none, .dict e_MENUS n_MENUS, #[]⟩)
    (y_MENUS : PySem.W.KeysLit w.params e_MENUS.toList)
    {q_MENUS_truth : Addr} {d_MENUS_truth : Option Addr} {i_MENUS_truth : Array Value} {n_MENUS_truth : Nat} {s_MENUS_truth : Array (Option Value)}
    (g_MENUS_truth : PySem.W.nsIn K p_MENUS "truth" = some (some (.ref q_MENUS_truth)))
    (l_MENUS_truth : K.lookup q_MENUS_truth = some ⟨.type "tuple", d_MENUS_truth, .seq i_MENUS_truth n_MENUS_truth, s_MENUS_truth⟩)
    (z_MENUS_truth : i_MENUS_truth.size ≤ sizeLine)
    (v_MENUS_truth : Vals ((menu "truth").map V.str) i_MENUS_truth.toList)
    {q_MENUS_size : Addr} {d_MENUS_size : Option Addr} {i_MENUS_size : Array Value} {n_MENUS_size : Nat} {s_MENUS_size : Array (Option Value)}
    (g_MENUS_size : PySem.W.nsIn K p_MENUS "size" = some (some (.ref q_MENUS_size)))
    (l_MENUS_size : K.lookup q_MENUS_size = some ⟨.type "tuple", d_MENUS_size, .seq i_MENUS_size n_MENUS_size, s_MENUS_size⟩)
    (z_MENUS_size : i_MENUS_size.size ≤ sizeLine)
    (v_MENUS_size : Vals ((menu "size").map V.str) i_MENUS_size.toList)
    {q_MENUS_each : Addr} {d_MENUS_each : Option Addr} {i_MENUS_each : Array Value} {n_MENUS_each : Nat} {s_MENUS_each : Array (Option Value)}
    (g_MENUS_each : PySem.W.nsIn K p_MENUS "each" = some (some (.ref q_MENUS_each)))
    (l_MENUS_each : K.lookup q_MENUS_each = some ⟨.type "tuple", d_MENUS_each, .seq i_MENUS_each n_MENUS_each, s_MENUS_each⟩)
    (z_MENUS_each : i_MENUS_each.size ≤ sizeLine)
    (v_MENUS_each : Vals ((menu "each").map V.str) i_MENUS_each.toList)
    {q_MENUS_turned : Addr} {d_MENUS_turned : Option Addr} {i_MENUS_turned : Array Value} {n_MENUS_turned : Nat} {s_MENUS_turned : Array (Option Value)}
    (g_MENUS_turned : PySem.W.nsIn K p_MENUS "turned" = some (some (.ref q_MENUS_turned)))
    (l_MENUS_turned : K.lookup q_MENUS_turned = some ⟨.type "tuple", d_MENUS_turned, .seq i_MENUS_turned n_MENUS_turned, s_MENUS_turned⟩)
    (z_MENUS_turned : i_MENUS_turned.size ≤ sizeLine)
    (v_MENUS_turned : Vals ((menu "turned").map V.str) i_MENUS_turned.toList)
    {q_MENUS_hash : Addr} {d_MENUS_hash : Option Addr} {i_MENUS_hash : Array Value} {n_MENUS_hash : Nat} {s_MENUS_hash : Array (Option Value)}
    (g_MENUS_hash : PySem.W.nsIn K p_MENUS "hash" = some (some (.ref q_MENUS_hash)))
    (l_MENUS_hash : K.lookup q_MENUS_hash = some ⟨.type "tuple", d_MENUS_hash, .seq i_MENUS_hash n_MENUS_hash, s_MENUS_hash⟩)
    (z_MENUS_hash : i_MENUS_hash.size ≤ sizeLine)
    (v_MENUS_hash : Vals ((menu "hash").map V.str) i_MENUS_hash.toList)
    {q_MENUS_call : Addr} {d_MENUS_call : Option Addr} {i_MENUS_call : Array Value} {n_MENUS_call : Nat} {s_MENUS_call : Array (Option Value)}
    (g_MENUS_call : PySem.W.nsIn K p_MENUS "call" = some (some (.ref q_MENUS_call)))
    (l_MENUS_call : K.lookup q_MENUS_call = some ⟨.type "tuple", d_MENUS_call, .seq i_MENUS_call n_MENUS_call, s_MENUS_call⟩)
    (z_MENUS_call : i_MENUS_call.size ≤ sizeLine)
    (v_MENUS_call : Vals ((menu "call").map V.str) i_MENUS_call.toList)
    {q_MENUS_member : Addr} {d_MENUS_member : Option Addr} {i_MENUS_member : Array Value} {n_MENUS_member : Nat} {s_MENUS_member : Array (Option Value)}
    (g_MENUS_member : PySem.W.nsIn K p_MENUS "member" = some (some (.ref q_MENUS_member)))
    (l_MENUS_member : K.lookup q_MENUS_member = some ⟨.type "tuple", d_MENUS_member, .seq i_MENUS_member n_MENUS_member, s_MENUS_member⟩)
    (z_MENUS_member : i_MENUS_member.size ≤ sizeLine)
    (v_MENUS_member : Vals ((menu "member").map V.str) i_MENUS_member.toList)
    {q_MENUS_like : Addr} {d_MENUS_like : Option Addr} {i_MENUS_like : Array Value} {n_MENUS_like : Nat} {s_MENUS_like : Array (Option Value)}
    (g_MENUS_like : PySem.W.nsIn K p_MENUS "like" = some (some (.ref q_MENUS_like)))
    (l_MENUS_like : K.lookup q_MENUS_like = some ⟨.type "tuple", d_MENUS_like, .seq i_MENUS_like n_MENUS_like, s_MENUS_like⟩)
    (z_MENUS_like : i_MENUS_like.size ≤ sizeLine)
    (v_MENUS_like : Vals ((menu "like").map V.str) i_MENUS_like.toList)
    {q_MENUS_unlike : Addr} {d_MENUS_unlike : Option Addr} {i_MENUS_unlike : Array Value} {n_MENUS_unlike : Nat} {s_MENUS_unlike : Array (Option Value)}
    (g_MENUS_unlike : PySem.W.nsIn K p_MENUS "unlike" = some (some (.ref q_MENUS_unlike)))
    (l_MENUS_unlike : K.lookup q_MENUS_unlike = some ⟨.type "tuple", d_MENUS_unlike, .seq i_MENUS_unlike n_MENUS_unlike, s_MENUS_unlike⟩)
    (z_MENUS_unlike : i_MENUS_unlike.size ≤ sizeLine)
    (v_MENUS_unlike : Vals ((menu "unlike").map V.str) i_MENUS_unlike.toList)
    {q_MENUS_before : Addr} {d_MENUS_before : Option Addr} {i_MENUS_before : Array Value} {n_MENUS_before : Nat} {s_MENUS_before : Array (Option Value)}
    (g_MENUS_before : PySem.W.nsIn K p_MENUS "before" = some (some (.ref q_MENUS_before)))
    (l_MENUS_before : K.lookup q_MENUS_before = some ⟨.type "tuple", d_MENUS_before, .seq i_MENUS_before n_MENUS_before, s_MENUS_before⟩)
    (z_MENUS_before : i_MENUS_before.size ≤ sizeLine)
    (v_MENUS_before : Vals ((menu "before").map V.str) i_MENUS_before.toList)
    {q_MENUS_behind : Addr} {d_MENUS_behind : Option Addr} {i_MENUS_behind : Array Value} {n_MENUS_behind : Nat} {s_MENUS_behind : Array (Option Value)}
    (g_MENUS_behind : PySem.W.nsIn K p_MENUS "behind" = some (some (.ref q_MENUS_behind)))
    (l_MENUS_behind : K.lookup q_MENUS_behind = some ⟨.type "tuple", d_MENUS_behind, .seq i_MENUS_behind n_MENUS_behind, s_MENUS_behind⟩)
    (z_MENUS_behind : i_MENUS_behind.size ≤ sizeLine)
    (v_MENUS_behind : Vals ((menu "behind").map V.str) i_MENUS_behind.toList)
    {q_MENUS_grow : Addr} {d_MENUS_grow : Option Addr} {i_MENUS_grow : Array Value} {n_MENUS_grow : Nat} {s_MENUS_grow : Array (Option Value)}
    (g_MENUS_grow : PySem.W.nsIn K p_MENUS "grow" = some (some (.ref q_MENUS_grow)))
    (l_MENUS_grow : K.lookup q_MENUS_grow = some ⟨.type "tuple", d_MENUS_grow, .seq i_MENUS_grow n_MENUS_grow, s_MENUS_grow⟩)
    (z_MENUS_grow : i_MENUS_grow.size ≤ sizeLine)
    (v_MENUS_grow : Vals ((menu "grow").map V.str) i_MENUS_grow.toList)
    : ∃ fd : FuncData, (∀ (s : Shared) (u : Value), BindsTo s fd ⟨[u], []⟩ [("_law_script", u)]) ∧ ∀ base : Heap, K.In base → base.Ns mainGlobals mg → FnG l.prog w K mg base CX0 7 fa fd ["_law_script"] (spLaw K) := by
  have e := hfa.symm.trans (PySem.W.mg_of X G a16)
  cases e
  have T : Txt K mg := { int := PySem.W.mg_none_of X G z_int, len := PySem.W.mg_none_of X G z_len, max := PySem.W.mg_none_of X G z_max, min := PySem.W.mg_none_of X G z_min, isinstance := PySem.W.mg_none_of X G z_isinstance, range := PySem.W.mg_none_of X G z_range, list := PySem.W.mg_none_of X G z_list, dict := PySem.W.mg_none_of X G z_dict, tuple := PySem.W.mg_none_of X G z_tuple, set := PySem.W.mg_none_of X G z_set, str := PySem.W.mg_none_of X G z_str, bool := PySem.W.mg_none_of X G z_bool, repr := PySem.W.mg_none_of X G z_repr, all := PySem.W.mg_none_of X G z_all, ValueError := PySem.W.mg_none_of X G z_ValueError }
  have D_is_one_of : DefAt K mg "is_one_of" sIs_one_of ["value", "words"] := defAt X G (fun _ _ _ _ _ _ us hl => match us, hl with | [_, _], _ => rfl) a1 l1 c1 k1
  have D_check_flag : DefAt K mg "check_flag" sCheck_flag ["value"] := defAt X G (fun _ _ _ _ _ _ us hl => match us, hl with | [_], _ => rfl) a2 l2 c2 k2
  have D_check_operation : DefAt K mg "check_operation" sCheck_operation ["operation"] := defAt X G (fun _ _ _ _ _ _ us hl => match us, hl with | [_], _ => rfl) a3 l3 c3 k3
  have D_are_ways : DefAt K mg "are_ways" sAre_ways ["operation", "value"] := defAt X G (fun _ _ _ _ _ _ us hl => match us, hl with | [_, _], _ => rfl) a4 l4 c4 k4
  have D_L_pool : DefAt K mg "_law_pool" sL_pool ["_law_script", "_law_k"] := defAt X G (fun _ _ _ _ _ _ us hl => match us, hl with | [_, _], _ => rfl) a5 l5 c5 k5
  have D_L_take : DefAt K mg "_law_take" sL_take ["_law_pool_here", "_law_many"] := defAt X G (fun _ _ _ _ _ _ us hl => match us, hl with | [_, _], _ => rfl) a6 l6 c6 k6
  have D_L_one : DefAt K mg "_law_one" sL_one ["_law_pool_here", "_law_some"] := defAt X G (fun _ _ _ _ _ _ us hl => match us, hl with | [_, _], _ => rfl) a7 l7 c7 k7
  have D_L_menus : DefAt K mg "_law_menus" sL_menus [] := defAt X G (fun _ _ _ _ _ _ us hl => match us, hl with | [], _ => rfl) a8 l8 c8 k8
  have D_L_book_of : DefAt K mg "_law_book_of" sL_book_of ["_law_pool_here"] := defAt X G (fun _ _ _ _ _ _ us hl => match us, hl with | [_], _ => rfl) a9 l9 c9 k9
  have D_L_book : DefAt K mg "_law_book" sL_book ["_law_own"] := defAt X G (fun _ _ _ _ _ _ us hl => match us, hl with | [_], _ => rfl) a10 l10 c10 k10
  have D_L_set : DefAt K mg "_law_set" sL_set ["_law_book_here", "_law_operation", "_law_ways"] := defAt X G (fun _ _ _ _ _ _ us hl => match us, hl with | [_, _, _], _ => rfl) a11 l11 c11 k11
  have D_L_got : DefAt K mg "_law_got" sL_got ["_law_book_here", "_law_operation"] := defAt X G (fun _ _ _ _ _ _ us hl => match us, hl with | [_, _], _ => rfl) a12 l12 c12 k12
  have D_L_flagged : DefAt K mg "_law_flagged" sL_flagged ["_law_book_here", "_law_at", "_law_value"] := defAt X G (fun _ _ _ _ _ _ us hl => match us, hl with | [_, _, _], _ => rfl) a13 l13 c13 k13
  have D_L_named : DefAt K mg "_law_named" sL_named ["_law_book_here", "_law_word", "_law_value"] := defAt X G (fun _ _ _ _ _ _ us hl => match us, hl with | [_, _, _], _ => rfl) a14 l14 c14 k14
  have D_L_odd_ways : DefAt K mg "_law_odd_ways" sL_odd_ways ["_law_pool_here", "_law_menu"] := defAt X G (fun _ _ _ _ _ _ us hl => match us, hl with | [_, _], _ => rfl) a15 l15 c15 k15
  have FL := fun_mk (st := sLaw) l16 c16 k16
  have T_NoName : Ex.ErrC K mg "NoName" "value" C_NoName := { t := ⟨⟨nm_NoName, q_NoName, N_NoName, bs_NoName, _, sn_NoName, sub_NoName, ab_NoName, col_NoName, dd_NoName, m0_NoName, m1_NoName, m2_NoName, m3_NoName, m5_NoName, xL_NoName, by rfl⟩, sa_NoName, eC_NoName, tC_NoName, kC_NoName⟩, xf := ⟨ga_NoName, gg_NoName, eC_NoName, hC_NoName⟩, ic := ⟨ga_NoName, gg_NoName, eC_NoName, hC_NoName, hcl_NoName, hsp, htk, hmr_NoName⟩, no := nf_NoName, g := PySem.W.mg_of X G aC_NoName, te := exm_own eC_NoName cC_NoName tC_NoName sC_NoName }
  have FI_NoName := fun_mk (st := sInit_NoName) lI_NoName cI_NoName kI_NoName
  have bI_NoName := FI_NoName.binds (ps := ["self", "value"]) fun _ _ _ _ _ _ us hl => match us, hl with | [_, _], _ => rfl
  have T_NoWays : Ex.ErrC K mg "NoWays" "operation" C_NoWays := { t := ⟨⟨nm_NoWays, q_NoWays, N_NoWays, bs_NoWays, _, sn_NoWays, sub_NoWays, ab_NoWays, col_NoWays, dd_NoWays, m0_NoWays, m1_NoWays, m2_NoWays, m3_NoWays, m5_NoWays, xL_NoWays, by rfl⟩, sa_NoWays, eC_NoWays, tC_NoWays, kC_NoWays⟩, xf := ⟨ga_NoWays, gg_NoWays, eC_NoWays, hC_NoWays⟩, ic := ⟨ga_NoWays, gg_NoWays, eC_NoWays, hC_NoWays, hcl_NoWays, hsp, htk, hmr_NoWays⟩, no := nf_NoWays, g := PySem.W.mg_of X G aC_NoWays, te := exm_own eC_NoWays cC_NoWays tC_NoWays sC_NoWays }
  have FI_NoWays := fun_mk (st := sInit_NoWays) lI_NoWays cI_NoWays kI_NoWays
  have bI_NoWays := FI_NoWays.binds (ps := ["self", "operation"]) fun _ _ _ _ _ _ us hl => match us, hl with | [_, _], _ => rfl
  have T_NoFlag : Ex.ErrC K mg "NoFlag" "value" C_NoFlag := { t := ⟨⟨nm_NoFlag, q_NoFlag, N_NoFlag, bs_NoFlag, _, sn_NoFlag, sub_NoFlag, ab_NoFlag, col_NoFlag, dd_NoFlag, m0_NoFlag, m1_NoFlag, m2_NoFlag, m3_NoFlag, m5_NoFlag, xL_NoFlag, by rfl⟩, sa_NoFlag, eC_NoFlag, tC_NoFlag, kC_NoFlag⟩, xf := ⟨ga_NoFlag, gg_NoFlag, eC_NoFlag, hC_NoFlag⟩, ic := ⟨ga_NoFlag, gg_NoFlag, eC_NoFlag, hC_NoFlag, hcl_NoFlag, hsp, htk, hmr_NoFlag⟩, no := nf_NoFlag, g := PySem.W.mg_of X G aC_NoFlag, te := exm_own eC_NoFlag cC_NoFlag tC_NoFlag sC_NoFlag }
  have FI_NoFlag := fun_mk (st := sInit_NoFlag) lI_NoFlag cI_NoFlag kI_NoFlag
  have bI_NoFlag := FI_NoFlag.binds (ps := ["self", "value"]) fun _ _ _ _ _ _ us hl => match us, hl with | [_, _], _ => rfl
  have S_OPERATIONS := sqT_of l_OPERATIONS z_OPERATIONS v_OPERATIONS
  have S_FLAGS := sqT_of l_FLAGS z_FLAGS v_FLAGS
  have F_Book_init := fun_mk (st := sBook___init__) l_Book_init c_Book_init k_Book_init
  have b_Book_init_ := F_Book_init.binds (ps := ["self"]) fun _ _ _ _ _ _ us hl => match us, hl with | [_], _ => rfl
  have F_Book_getitem := fun_mk (st := sBook___getitem__) l_Book_getitem c_Book_getitem k_Book_getitem
  have b_Book_getitem_ := F_Book_getitem.binds (ps := ["self", "operation"]) fun _ _ _ _ _ _ us hl => match us, hl with | [_, _], _ => rfl
  have F_Book_setitem := fun_mk (st := sBook___setitem__) l_Book_setitem c_Book_setitem k_Book_setitem
  have b_Book_setitem_ := F_Book_setitem.binds (ps := ["self", "operation", "ways"]) fun _ _ _ _ _ _ us hl => match us, hl with | [_, _, _], _ => rfl
  have F_Book_bars_hash := fun_mk (st := sBook_bars_hash) l_Book_bars_hash c_Book_bars_hash k_Book_bars_hash
  have b_Book_bars_hash_ := F_Book_bars_hash.binds (ps := ["self"]) fun _ _ _ _ _ _ us hl => match us, hl with | [_], _ => rfl
  have F_Book_ends_same := fun_mk (st := sBook_ends_same) l_Book_ends_same c_Book_ends_same k_Book_ends_same
  have b_Book_ends_same_ := F_Book_ends_same.binds (ps := ["self"]) fun _ _ _ _ _ _ us hl => match us, hl with | [_], _ => rfl
  have F_Book_ends_true := fun_mk (st := sBook_ends_true) l_Book_ends_true c_Book_ends_true k_Book_ends_true
  have b_Book_ends_true_ := F_Book_ends_true.binds (ps := ["self"]) fun _ _ _ _ _ _ us hl => match us, hl with | [_], _ => rfl
  have F_Book_set_flag := fun_mk (st := sBook_set_flag) l_Book_set_flag c_Book_set_flag k_Book_set_flag
  have b_Book_set_flag_ := F_Book_set_flag.binds (ps := ["self", "word", "value"]) fun _ _ _ _ _ _ us hl => match us, hl with | [_, _, _], _ => rfl
  have F_Book_twin := fun_mk (st := sBook_twin) l_Book_twin c_Book_twin k_Book_twin
  have b_Book_twin_ := F_Book_twin.binds (ps := ["self"]) fun _ _ _ _ _ _ us hl => match us, hl with | [_], _ => rfl
  have F_Book_eq := fun_mk (st := sBook___eq__) l_Book_eq c_Book_eq k_Book_eq
  have b_Book_eq_ := F_Book_eq.binds (ps := ["self", "other"]) fun _ _ _ _ _ _ us hl => match us, hl with | [_, _], _ => rfl
  have cl_Book : L2.Cls K C_Book := ⟨pg_Book, hd_Book, po_Book, sa_Book⟩
  refine ⟨PySem.W.fnOf "law" "law" (defArgs sLaw) (defBody sLaw) (defScope sLaw) .none kV16 dc16 pm16 an16 cd16 ct16, fun s v => .of_eq rfl, fun base _ _ => ?_⟩
  have M_NoName : Ex.InitOk l.prog w K mg base "value" C_NoName := ⟨fI_NoName, _, iI_NoName, tI_NoName, ok_init_NoName T_NoName FI_NoName, bI_NoName⟩
  have M_NoWays : Ex.InitOk l.prog w K mg base "operation" C_NoWays := ⟨fI_NoWays, _, iI_NoWays, tI_NoWays, ok_init_NoWays T_NoWays FI_NoWays, bI_NoWays⟩
  have M_NoFlag : Ex.InitOk l.prog w K mg base "value" C_NoFlag := ⟨fI_NoFlag, _, iI_NoFlag, tI_NoFlag, ok_init_NoFlag T_NoFlag FI_NoFlag, bI_NoFlag⟩

  let gM : Str → Addr := fun o => if o = "truth" then q_MENUS_truth else if o = "size" then q_MENUS_size else if o = "each" then q_MENUS_each else if o = "turned" then q_MENUS_turned else if o = "hash" then q_MENUS_hash else if o = "call" then q_MENUS_call else if o = "member" then q_MENUS_member else if o = "like" then q_MENUS_like else if o = "unlike" then q_MENUS_unlike else if o = "before" then q_MENUS_before else if o = "behind" then q_MENUS_behind else if o = "grow" then q_MENUS_grow else 0
  have tm : MenusAt K w p_MENUS gM := by
    intro o ho
    simp only [ops, List.mem_cons, List.not_mem_nil, or_false] at ho
    rcases ho with rfl | rfl | rfl | rfl | rfl | rfl | rfl | rfl | rfl | rfl | rfl | rfl
    · exact ⟨kdct_of l_MENUS y_MENUS g_MENUS_truth rfl, sqT_of l_MENUS_truth z_MENUS_truth v_MENUS_truth⟩
    · exact ⟨kdct_of l_MENUS y_MENUS g_MENUS_size rfl, sqT_of l_MENUS_size z_MENUS_size v_MENUS_size⟩
    · exact ⟨kdct_of l_MENUS y_MENUS g_MENUS_each rfl, sqT_of l_MENUS_each z_MENUS_each v_MENUS_each⟩
    · exact ⟨kdct_of l_MENUS y_MENUS g_MENUS_turned rfl, sqT_of l_MENUS_turned z_MENUS_turned v_MENUS_turned⟩
    · exact ⟨kdct_of l_MENUS y_MENUS g_MENUS_hash rfl, sqT_of l_MENUS_hash z_MENUS_hash v_MENUS_hash⟩
    · exact ⟨kdct_of l_MENUS y_MENUS g_MENUS_call rfl, sqT_of l_MENUS_call z_MENUS_call v_MENUS_call⟩
    · exact ⟨kdct_of l_MENUS y_MENUS g_MENUS_member rfl, sqT_of l_MENUS_member z_MENUS_member v_MENUS_member⟩
    · exact ⟨kdct_of l_MENUS y_MENUS g_MENUS_like rfl, sqT_of l_MENUS_like z_MENUS_like v_MENUS_like⟩
    · exact ⟨kdct_of l_MENUS y_MENUS g_MENUS_unlike rfl, sqT_of l_MENUS_unlike z_MENUS_unlike v_MENUS_unlike⟩
    · exact ⟨kdct_of l_MENUS y_MENUS g_MENUS_before rfl, sqT_of l_MENUS_before z_MENUS_before v_MENUS_before⟩
    · exact ⟨kdct_of l_MENUS y_MENUS g_MENUS_behind rfl, sqT_of l_MENUS_behind z_MENUS_behind v_MENUS_behind⟩
    · exact ⟨kdct_of l_MENUS y_MENUS g_MENUS_grow rfl, sqT_of l_MENUS_grow z_MENUS_grow v_MENUS_grow⟩
  have tb : Tb K w mg p_OPERATIONS p_MENUS p_FLAGS gM := ⟨PySem.W.mg_of X G a_OPERATIONS, PySem.W.mg_of X G a_MENUS, PySem.W.mg_of X G a_FLAGS, S_OPERATIONS, S_FLAGS, tm⟩
  have B : BF K mg C_Book := { cl := cl_Book, g := PySem.W.mg_of X G aK_Book, ne := ne_Book, ob := ob_Book, n1 := n_Book__ways, n2 := n_Book__flags }
  have ic : IC K C_Book := ⟨hc_Book, hsp, htk⟩
  have E_one := ok_one_of (P := l.prog) (w := w) (base := base) T D_is_one_of
  have E_cf := ok_check_flag T T_NoFlag M_NoFlag D_check_flag
  have E_co := ok_check_operation T tb.o tb.to T_NoName M_NoName D_check_operation E_one
  have E_aw := ok_are_ways T tb.m tm D_are_ways E_one
  have IB : Ob.MkCal l.prog w K mg base CX0 C_Book 1 "Book" (spInit C_Book gM) := ⟨_, _, _, ok_binit T B tb ⟨F_Book_init, b_Book_init_⟩, ⟨mk_Book, a_Book_init, i_Book_init, kc_Book⟩, b_Book_init_, PySem.W.mg_of X G aK_Book⟩
  have fi : ∀ {f : Addr} {oc : Value} {od : Option Addr} {fd : FuncData} {sl : Array (Option Value)}, K.lookup f = some ⟨oc, od, .func fd, sl⟩ → PySem.W.fnIn K f = true := fun h => by
    unfold PySem.W.fnIn
    rw [h]
  have GB : Ob.GetCal l.prog w K mg base (L2.CX l.prog w) C_Book 4 "__getitem__" (spGet K C_Book C_NoName) := ⟨_, _, _, ok_get B E_co ⟨F_Book_getitem, b_Book_getitem_⟩, ⟨⟨a_Book_getitem, beq_iff_eq.mp i_Book_getitem⟩, dq_Book, fi l_Book_getitem⟩, b_Book_getitem_⟩
  have UB : Ob.GetCal l.prog w K mg base (L2.CX l.prog w) C_Book 4 "__setitem__" (spSet K C_Book C_NoName C_NoWays) := ⟨_, _, _, ok_set T B T_NoWays M_NoWays E_co E_aw ⟨F_Book_setitem, b_Book_setitem_⟩, ⟨⟨a_Book_setitem, beq_iff_eq.mp i_Book_setitem⟩, dq_Book, fi l_Book_setitem⟩, b_Book_setitem_⟩
  have PB : Ob.PCal l.prog w K mg base CX0 C_Book 1 "bars_hash" (spFl K C_Book "bars_hash") := ⟨p_Book_bars_hash, _, _, _, ok_bars B ⟨F_Book_bars_hash, b_Book_bars_hash_⟩, ⟨a_Book_bars_hash, d_Book_bars_hash, e_Book_bars_hash, ⟨_, b_Book_bars_hash⟩⟩, b_Book_bars_hash_⟩
  have PS : Ob.PCal l.prog w K mg base CX0 C_Book 1 "ends_same" (spFl K C_Book "ends_same") := ⟨p_Book_ends_same, _, _, _, ok_same B ⟨F_Book_ends_same, b_Book_ends_same_⟩, ⟨a_Book_ends_same, d_Book_ends_same, e_Book_ends_same, ⟨_, b_Book_ends_same⟩⟩, b_Book_ends_same_⟩
  have PT : Ob.PCal l.prog w K mg base CX0 C_Book 1 "ends_true" (spFl K C_Book "ends_true") := ⟨p_Book_ends_true, _, _, _, ok_true B ⟨F_Book_ends_true, b_Book_ends_true_⟩, ⟨a_Book_ends_true, d_Book_ends_true, e_Book_ends_true, ⟨_, b_Book_ends_true⟩⟩, b_Book_ends_true_⟩
  have MF : Ob.MCal l.prog w K mg base (L2.CX l.prog w) C_Book 4 "set_flag" (spSetFlag K C_Book C_NoName C_NoFlag) := ⟨_, _, _, ok_set_flag B tb T_NoName M_NoName E_one E_cf ⟨F_Book_set_flag, b_Book_set_flag_⟩, ⟨a_Book_set_flag, i_Book_set_flag, k_Book_set_flag⟩, b_Book_set_flag_⟩
  have MT : Ob.MCal l.prog w K mg base CX0 C_Book 3 "twin" (spTwin K C_Book) := ⟨_, _, _, ok_twin T B tb IB ⟨F_Book_twin, b_Book_twin_⟩, ⟨a_Book_twin, i_Book_twin, k_Book_twin⟩, b_Book_twin_⟩
  have QB : Ob.EqCal l.prog w K mg base CX0 C_Book 1 (spBEq K C_Book) := ⟨_, _, _, ok_beq T B ic ⟨F_Book_eq, b_Book_eq_⟩, a_Book_eq, i_Book_eq, b_Book_eq_⟩
  have E_pool := ok_pool (P := l.prog) (w := w) (base := base) T D_L_pool
  have E_take := ok_take (P := l.prog) (w := w) (base := base) T D_L_take
  have E_lone := ok_one T D_L_one E_take
  have E_menus := ok_menus (P := l.prog) (w := w) (base := base) D_L_menus
  have R : Errs K CA C_NoName C_NoWays C_NoFlag := { aN := kit_err cC_A tC_A ka_NoName, vN := kit_value kv_NoName, aW := kit_err cC_A tC_A ka_NoWays, vW := kit_value kv_NoWays, aF := kit_err cC_A tC_A ka_NoFlag, vF := kit_value kv_NoFlag, nW := exm_not eC_NoName cC_NoName tC_NoName no_NoWays_NoName }
  have GA := PySem.W.mg_of X G aA
  have E_book_of := ok_book_of T D_L_book_of E_menus E_take
  have E_book := ok_lbook T B tb IB UB MF D_L_book
  have E_set := ok_lset T R T_NoName T_NoWays GA UB D_L_set
  have E_got := ok_lgot T T_NoName GB D_L_got
  have E_flag := ok_lflag T B R T_NoFlag GA MF D_L_flagged
  have E_named := ok_lnamed T B T_NoName MF D_L_named
  have E_odd := ok_odd_ways T D_L_odd_ways E_take E_lone
  exact ok_law T B ic MT QB GB PB PS PT E_pool E_lone E_menus E_book_of E_book E_odd E_set E_got E_flag E_named FL
end Ab
set_option Elab.async false
set_option linter.all false
open PySem PySem.W PyProof.Rows
set_option maxRecDepth 100000 in
set_option maxHeartbeats 0 in
theorem PySem.Challenge.cw_answersby_k03_books_refuse_holds : PySem.Challenge.rw_answersby_k03_books_refuse.Holds := by
  w_on; o_law; k_head; (case hw => w_witness2)
  k_fill
  refine Gk.walkG (l := PySem.Challenge.rw_answersby_k03_books_refuse) (n := 63) (k := 7) (x := "_law_script") (sp := fun w => Ab.spLaw _) rfl (by decide) rfl ⟨rfl, by decide, by decide⟩ (fun w h Y => PySem.W.kIn_of Y) ?F (fun w H a ns hl _ hS => ⟨a, ns, rfl, hS, hl, fun _ => rfl⟩)
  case F =>
    intro w mg fa h KX G hmg
    refine' Ab.all_mk KX G hmg ?a1 ?l1 ?c1 ?k1 ?a2 ?l2 ?c2 ?k2 ?a3 ?l3 ?c3 ?k3 ?a4 ?l4 ?c4 ?k4 ?a5 ?l5 ?c5 ?k5 ?a6 ?l6 ?c6 ?k6 ?a7 ?l7 ?c7 ?k7 ?a8 ?l8 ?c8 ?k8 ?a9 ?l9 ?c9 ?k9 ?a10 ?l10 ?c10 ?k10 ?a11 ?l11 ?c11 ?k11 ?a12 ?l12 ?c12 ?k12 ?a13 ?l13 ?c13 ?k13 ?a14 ?l14 ?c14 ?k14 ?a15 ?l15 ?c15 ?k15 ?a16 ?l16 ?c16 ?k16 ?z_int ?z_len ?z_max ?z_min ?z_isinstance ?z_range ?z_list ?z_dict ?z_tuple ?z_set ?z_str ?z_bool ?z_repr ?z_all ?z_ValueError ?aA ?hsp ?htk ?aC_NoName ?xL_NoName ?sa_NoName ?eC_NoName ?tC_NoName ?kC_NoName ?ga_NoName ?gg_NoName ?hC_NoName ?hcl_NoName ?hmr_NoName ?nf_NoName ?cC_NoName ?sC_NoName ?iI_NoName ?tI_NoName ?lI_NoName ?cI_NoName ?kI_NoName ?aC_NoWays ?xL_NoWays ?sa_NoWays ?eC_NoWays ?tC_NoWays ?kC_NoWays ?ga_NoWays ?gg_NoWays ?hC_NoWays ?hcl_NoWays ?hmr_NoWays ?nf_NoWays ?cC_NoWays ?sC_NoWays ?iI_NoWays ?tI_NoWays ?lI_NoWays ?cI_NoWays ?kI_NoWays ?aC_NoFlag ?xL_NoFlag ?sa_NoFlag ?eC_NoFlag ?tC_NoFlag ?kC_NoFlag ?ga_NoFlag ?gg_NoFlag ?hC_NoFlag ?hcl_NoFlag ?hmr_NoFlag ?nf_NoFlag ?cC_NoFlag ?sC_NoFlag ?iI_NoFlag ?tI_NoFlag ?lI_NoFlag ?cI_NoFlag ?kI_NoFlag ?cC_A ?tC_A ?ka_NoName ?kv_NoName ?ka_NoWays ?kv_NoWays ?ka_NoFlag ?kv_NoFlag ?no_NoWays_NoName ?aK_Book ?pg_Book ?hd_Book ?po_Book ?sa_Book ?mk_Book ?kc_Book ?ne_Book ?ob_Book ?hc_Book ?dq_Book ?cC_Book ?tC_Book ?n_Book__ways ?n_Book__flags ?a_Book_init ?i_Book_init ?l_Book_init ?c_Book_init ?k_Book_init ?a_Book_getitem ?i_Book_getitem ?l_Book_getitem ?c_Book_getitem ?k_Book_getitem ?a_Book_setitem ?i_Book_setitem ?l_Book_setitem ?c_Book_setitem ?k_Book_setitem ?a_Book_bars_hash ?d_Book_bars_hash ?e_Book_bars_hash ?b_Book_bars_hash ?l_Book_bars_hash ?c_Book_bars_hash ?k_Book_bars_hash ?a_Book_ends_same ?d_Book_ends_same ?e_Book_ends_same ?b_Book_ends_same ?l_Book_ends_same ?c_Book_ends_same ?k_Book_ends_same ?a_Book_ends_true ?d_Book_ends_true ?e_Book_ends_true ?b_Book_ends_true ?l_Book_ends_true ?c_Book_ends_true ?k_Book_ends_true ?a_Book_set_flag ?i_Book_set_flag ?l_Book_set_flag ?c_Book_set_flag ?k_Book_set_flag ?a_Book_twin ?i_Book_twin ?l_Book_twin ?c_Book_twin ?k_Book_twin ?a_Book_eq ?i_Book_eq ?l_Book_eq ?c_Book_eq ?k_Book_eq ?a_OPERATIONS ?l_OPERATIONS ?z_OPERATIONS ?v_OPERATIONS ?a_FLAGS ?l_FLAGS ?z_FLAGS ?v_FLAGS ?a_MENUS ?l_MENUS ?y_MENUS ?g_MENUS_truth ?l_MENUS_truth ?z_MENUS_truth ?v_MENUS_truth ?g_MENUS_size ?l_MENUS_size ?z_MENUS_size ?v_MENUS_size ?g_MENUS_each ?l_MENUS_each ?z_MENUS_each ?v_MENUS_each ?g_MENUS_turned ?l_MENUS_turned ?z_MENUS_turned ?v_MENUS_turned ?g_MENUS_hash ?l_MENUS_hash ?z_MENUS_hash ?v_MENUS_hash ?g_MENUS_call ?l_MENUS_call ?z_MENUS_call ?v_MENUS_call ?g_MENUS_member ?l_MENUS_member ?z_MENUS_member ?v_MENUS_member ?g_MENUS_like ?l_MENUS_like ?z_MENUS_like ?v_MENUS_like ?g_MENUS_unlike ?l_MENUS_unlike ?z_MENUS_unlike ?v_MENUS_unlike ?g_MENUS_before ?l_MENUS_before ?z_MENUS_before ?v_MENUS_before ?g_MENUS_behind ?l_MENUS_behind ?z_MENUS_behind ?v_MENUS_behind ?g_MENUS_grow ?l_MENUS_grow ?z_MENUS_grow ?v_MENUS_grow
    (case a1 => k_is)
    (case l1 => k_is)
    (case c1 => k_is)
    (case k1 => k_is)
    (case a2 => k_is)
    (case l2 => k_is)
    (case c2 => k_is)
    (case k2 => k_is)
    (case a3 => k_is)
    (case l3 => k_is)
    (case c3 => k_is)
    (case k3 => k_is)
    (case a4 => k_is)
    (case l4 => k_is)
    (case c4 => k_is)
    (case k4 => k_is)
    (case a5 => k_is)
    (case l5 => k_is)
    (case c5 => k_is)
    (case k5 => k_is)
    (case a6 => k_is)
    (case l6 => k_is)
    (case c6 => k_is)
    (case k6 => k_is)
    (case a7 => k_is)
    (case l7 => k_is)
    (case c7 => k_is)
    (case k7 => k_is)
    (case a8 => k_is)
    (case l8 => k_is)
    (case c8 => k_is)
    (case k8 => k_is)
    (case a9 => k_is)
    (case l9 => k_is)
    (case c9 => k_is)
    (case k9 => k_is)
    (case a10 => k_is)
    (case l10 => k_is)
    (case c10 => k_is)
    (case k10 => k_is)
    (case a11 => k_is)
    (case l11 => k_is)
    (case c11 => k_is)
    (case k11 => k_is)
    (case a12 => k_is)
    (case l12 => k_is)
    (case c12 => k_is)
    (case k12 => k_is)
    (case a13 => k_is)
    (case l13 => k_is)
    (case c13 => k_is)
    (case k13 => k_is)
    (case a14 => k_is)
    (case l14 => k_is)
    (case c14 => k_is)
    (case k14 => k_is)
    (case a15 => k_is)
    (case l15 => k_is)
    (case c15 => k_is)
    (case k15 => k_is)
    (case a16 => k_is)
    (case l16 => k_is)
    (case c16 => k_is)
    (case k16 => k_is)
    (case z_int => k_is)
    (case z_len => k_is)
    (case z_max => k_is)
    (case z_min => k_is)
    (case z_isinstance => k_is)
    (case z_range => k_is)
    (case z_list => k_is)
    (case z_dict => k_is)
    (case z_tuple => k_is)
    (case z_set => k_is)
    (case z_str => k_is)
    (case z_bool => k_is)
    (case z_repr => k_is)
    (case z_all => k_is)
    (case z_ValueError => k_is)
    (case aA => k_is)
    (case hsp => k_is)
    (case htk => k_is)
    (case aC_NoName => k_is)
    (case xL_NoName => k_is)
    (case sa_NoName => k_is)
    (case eC_NoName => k_is)
    (case tC_NoName => k_is)
    (case kC_NoName => k_is)
    (case ga_NoName => k_is)
    (case gg_NoName => k_is)
    (case hC_NoName => k_is)
    (case hcl_NoName => k_is)
    (case hmr_NoName => k_is)
    (case nf_NoName => k_is)
    (case cC_NoName => k_is)
    (case sC_NoName => k_is)
    (case iI_NoName => k_is)
    (case tI_NoName => k_is)
    (case lI_NoName => k_is)
    (case cI_NoName => k_is)
    (case kI_NoName => k_is)
    (case aC_NoWays => k_is)
    (case xL_NoWays => k_is)
    (case sa_NoWays => k_is)
    (case eC_NoWays => k_is)
    (case tC_NoWays => k_is)
    (case kC_NoWays => k_is)
    (case ga_NoWays => k_is)
    (case gg_NoWays => k_is)
    (case hC_NoWays => k_is)
    (case hcl_NoWays => k_is)
    (case hmr_NoWays => k_is)
    (case nf_NoWays => k_is)
    (case cC_NoWays => k_is)
    (case sC_NoWays => k_is)
    (case iI_NoWays => k_is)
    (case tI_NoWays => k_is)
    (case lI_NoWays => k_is)
    (case cI_NoWays => k_is)
    (case kI_NoWays => k_is)
    (case aC_NoFlag => k_is)
    (case xL_NoFlag => k_is)
    (case sa_NoFlag => k_is)
    (case eC_NoFlag => k_is)
    (case tC_NoFlag => k_is)
    (case kC_NoFlag => k_is)
    (case ga_NoFlag => k_is)
    (case gg_NoFlag => k_is)
    (case hC_NoFlag => k_is)
    (case hcl_NoFlag => k_is)
    (case hmr_NoFlag => k_is)
    (case nf_NoFlag => k_is)
    (case cC_NoFlag => k_is)
    (case sC_NoFlag => k_is)
    (case iI_NoFlag => k_is)
    (case tI_NoFlag => k_is)
    (case lI_NoFlag => k_is)
    (case cI_NoFlag => k_is)
    (case kI_NoFlag => k_is)
    (case cC_A => k_is)
    (case tC_A => k_is)
    (case ka_NoName => k_is)
    (case kv_NoName => k_is)
    (case ka_NoWays => k_is)
    (case kv_NoWays => k_is)
    (case ka_NoFlag => k_is)
    (case kv_NoFlag => k_is)
    (case no_NoWays_NoName => k_is)
    (case aK_Book => k_is)
    (case pg_Book => k_is)
    (case hd_Book => k_is)
    (case po_Book => k_is)
    (case sa_Book => k_is)
    (case mk_Book => k_is)
    (case kc_Book => k_is)
    (case ne_Book => k_is)
    (case ob_Book => k_is)
    (case hc_Book => k_is)
    (case dq_Book => k_is)
    (case cC_Book => k_is)
    (case tC_Book => k_is)
    (case n_Book__ways => k_is)
    (case n_Book__flags => k_is)
    (case a_Book_init => k_is)
    (case i_Book_init => k_is)
    (case l_Book_init => k_is)
    (case c_Book_init => k_is)
    (case k_Book_init => k_is)
    (case a_Book_getitem => k_is)
    (case i_Book_getitem => k_is)
    (case l_Book_getitem => k_is)
    (case c_Book_getitem => k_is)
    (case k_Book_getitem => k_is)
    (case a_Book_setitem => k_is)
    (case i_Book_setitem => k_is)
    (case l_Book_setitem => k_is)
    (case c_Book_setitem => k_is)
    (case k_Book_setitem => k_is)
    (case a_Book_bars_hash => k_is)
    (case d_Book_bars_hash => k_is)
    (case e_Book_bars_hash => k_is)
    (case b_Book_bars_hash => k_is)
    (case l_Book_bars_hash => k_is)
    (case c_Book_bars_hash => k_is)
    (case k_Book_bars_hash => k_is)
    (case a_Book_ends_same => k_is)
    (case d_Book_ends_same => k_is)
    (case e_Book_ends_same => k_is)
    (case b_Book_ends_same => k_is)
    (case l_Book_ends_same => k_is)
    (case c_Book_ends_same => k_is)
    (case k_Book_ends_same => k_is)
    (case a_Book_ends_true => k_is)
    (case d_Book_ends_true => k_is)
    (case e_Book_ends_true => k_is)
    (case b_Book_ends_true => k_is)
    (case l_Book_ends_true => k_is)
    (case c_Book_ends_true => k_is)
    (case k_Book_ends_true => k_is)
    (case a_Book_set_flag => k_is)
    (case i_Book_set_flag => k_is)
    (case l_Book_set_flag => k_is)
    (case c_Book_set_flag => k_is)
    (case k_Book_set_flag => k_is)
    (case a_Book_twin => k_is)
    (case i_Book_twin => k_is)
    (case l_Book_twin => k_is)
    (case c_Book_twin => k_is)
    (case k_Book_twin => k_is)
    (case a_Book_eq => k_is)
    (case i_Book_eq => k_is)
    (case l_Book_eq => k_is)
    (case c_Book_eq => k_is)
    (case k_Book_eq => k_is)
    (case a_OPERATIONS => k_is)
    (case l_OPERATIONS => k_is)
    (case z_OPERATIONS => decide +kernel)
    (case v_OPERATIONS => repeat (first | exact .nil | refine .cons ⟨_, rfl⟩ ?_))
    (case a_FLAGS => k_is)
    (case l_FLAGS => k_is)
    (case z_FLAGS => decide +kernel)
    (case v_FLAGS => repeat (first | exact .nil | refine .cons ⟨_, rfl⟩ ?_))
    (case a_MENUS => k_is)
    (case l_MENUS => k_is)
    (case y_MENUS => repeat (first | exact Ab.kl_nil | refine Ab.kl_cons ?_))
    (case g_MENUS_truth => k_is)
    (case l_MENUS_truth => k_is)
    (case z_MENUS_truth => decide +kernel)
    (case v_MENUS_truth => repeat (first | exact .nil | refine .cons ⟨_, rfl⟩ ?_))
    (case g_MENUS_size => k_is)
    (case l_MENUS_size => k_is)
    (case z_MENUS_size => decide +kernel)
    (case v_MENUS_size => repeat (first | exact .nil | refine .cons ⟨_, rfl⟩ ?_))
    (case g_MENUS_each => k_is)
    (case l_MENUS_each => k_is)
    (case z_MENUS_each => decide +kernel)
    (case v_MENUS_each => repeat (first | exact .nil | refine .cons ⟨_, rfl⟩ ?_))
    (case g_MENUS_turned => k_is)
    (case l_MENUS_turned => k_is)
    (case z_MENUS_turned => decide +kernel)
    (case v_MENUS_turned => repeat (first | exact .nil | refine .cons ⟨_, rfl⟩ ?_))
    (case g_MENUS_hash => k_is)
    (case l_MENUS_hash => k_is)
    (case z_MENUS_hash => decide +kernel)
    (case v_MENUS_hash => repeat (first | exact .nil | refine .cons ⟨_, rfl⟩ ?_))
    (case g_MENUS_call => k_is)
    (case l_MENUS_call => k_is)
    (case z_MENUS_call => decide +kernel)
    (case v_MENUS_call => repeat (first | exact .nil | refine .cons ⟨_, rfl⟩ ?_))
    (case g_MENUS_member => k_is)
    (case l_MENUS_member => k_is)
    (case z_MENUS_member => decide +kernel)
    (case v_MENUS_member => repeat (first | exact .nil | refine .cons ⟨_, rfl⟩ ?_))
    (case g_MENUS_like => k_is)
    (case l_MENUS_like => k_is)
    (case z_MENUS_like => decide +kernel)
    (case v_MENUS_like => repeat (first | exact .nil | refine .cons ⟨_, rfl⟩ ?_))
    (case g_MENUS_unlike => k_is)
    (case l_MENUS_unlike => k_is)
    (case z_MENUS_unlike => decide +kernel)
    (case v_MENUS_unlike => repeat (first | exact .nil | refine .cons ⟨_, rfl⟩ ?_))
    (case g_MENUS_before => k_is)
    (case l_MENUS_before => k_is)
    (case z_MENUS_before => decide +kernel)
    (case v_MENUS_before => repeat (first | exact .nil | refine .cons ⟨_, rfl⟩ ?_))
    (case g_MENUS_behind => k_is)
    (case l_MENUS_behind => k_is)
    (case z_MENUS_behind => decide +kernel)
    (case v_MENUS_behind => repeat (first | exact .nil | refine .cons ⟨_, rfl⟩ ?_))
    (case g_MENUS_grow => k_is)
    (case l_MENUS_grow => k_is)
    (case z_MENUS_grow => decide +kernel)
    (case v_MENUS_grow => repeat (first | exact .nil | refine .cons ⟨_, rfl⟩ ?_))
