import PyProof.Rows.All
import Wide.All
import OpenK.AllK
import Wide.FinOn
import HandS.ForMost
import PyProof.ReprReads
import PyProof.ReprRoads
import HandS.Codes
import HandS.ForExc
import HandS.ExcInit
import HandS.ExcField
import HandS.ExcIs
import KE.KExcIs
import HandS.IsInst
import HandS.WrittenGet
import HandS.Star
import HandS.Conv
import HandS.More
import HandS.Property
import HandS.OwnEq
import HandS.ClsMeth
import HandS.TupAny
import HandS.DictComp
import HandS.DeepEq
import HandS.Strs
import HandS.Small
import HandS.Walk
import HandS.Style
import PySem.Challenge.RW_answersby_k02_books_set
set_option Elab.async false
set_option linter.all false
set_option maxRecDepth 100000
set_option maxHeartbeats 8000000
/-! repr of data; defs that are called where no container is being shown -/
namespace Gk
open PySem L2 PySem.Spec PyProof.Rows

/-! ### a def's promise, kept where no list, tuple or dict is being shown -/
structure FnG (P : Program) (w : World) (K : PySem.W.Frag) (mg : Str → Option Value) (base : Heap) (CX : CXT) (k : Nat) (f : Addr) (fd : FuncData) (ps : List Str) (sp : Sp) : Prop where
  len : ∀ vs H Q E, sp vs H Q E → vs.length = ps.length
  go : ∀ (A : Around), A.guards = some [] → ∀ (outer : List Env) (s : Shared) (H : Hp) (args : Args) (us : List Value) (vs : List V) (Q : VK) (E : XK),
    Room k A → Env0 P w K mg base A outer s H → BindsTo s fd args (ps.zip us) → Vals vs us → sp vs H Q E → codeAny (model P w) A (.call (.ref f) args) (CR CX outer P w H s Q E) s

section
variable {P : Program} {w : World} {K : PySem.W.Frag} {mg : Str → Option Value} {base : Heap} {CX : CXT} {j k : Nat} {f : Addr} {fd : FuncData} {ps : List Str} {sp : Sp}
theorem FnG.up (F : FnG P w K mg base CX j f fd ps sp) (h : j ≤ k) : FnG P w K mg base CX k f fd ps sp :=
  ⟨F.len, fun A g outer s H args us vs Q E hr => F.go A g outer s H args us vs Q E (hr.mono h)⟩
end

section
variable {X : Cx} {CX : CXT} {k : Nat} {f : Addr} {fd : FuncData} {ps : List Str} {sp : Sp} {dvs : List V} {ds : List Value} {E : XK} {x : Str} {p pos : Pos} {e : Expr} {es : List Expr} {t : TA}
theorem runG {pins : List (Addr × Obj)} {σ : L2.St} {H : Hp} {s : Shared} {Q : VK} {us : List Value} {vs : List V} (F : FnG X.prog X.w X.K X.mg X.base CX k f fd ps sp) (g : X.A.guards = some [])
    (hr : Room k X.A) (hb : Binds X.K fd ps ds) (hd : Vals dvs ds) (hx : Passes CX X E) (I : Inv X pins σ H s) (r : Vals vs us) (h : sp (vs ++ dvs) H Q E) :
    wpAny (model X.prog X.w) X.A (call (.ref f) us) (EP X pins σ Q) X.xe s := by
  have rr := r.append hd
  have lens : (us ++ ds).length = ps.length := (rr.length).symm.trans (F.len _ _ _ _ h)
  have body := F.go X.A g X.stack s H ⟨us, []⟩ (us ++ ds) (vs ++ dvs) Q E hr I.env0 (hb s us I.kIn lens) rr h
  refine wpAny_call (codeAny_mono body ?_)
  intro res s' hres
  match res, hres with
  | .error e, z => exact hx pins σ H s e s' I z
  | .ok (.ret u), z => exact I.after z
  | .ok .next, z => exact z.elim
  | .ok .brk, z => exact z.elim
  | .ok .cont, z => exact z.elim
theorem pe_callG (F : FnG X.prog X.w X.K X.mg X.base CX k f fd ps sp) (g : X.A.guards = some []) (hr : Room k X.A) (hg : Gl X x) (hm : X.mg x = some (.ref f))
    (hk : PySem.W.keepIn X.K (.ref f) = true) (hb : Binds X.K fd ps ds) (hd : Vals dvs ds) (hx : Passes CX X E) (ha : PA X (e :: es) t)
    (hdb : (x == ("__debug__" : Str)) = false := by decide)
    (he : starEach (e :: es) X.env = (false, eval e X.env) :: starEach es X.env := by rfl)
    (hpl : (backTo pos (starEach es X.env)).any (·.1) = false := by rfl) :
    PE X (.Call (.Name x p) (e :: es) [] pos) (tCall sp dvs E t) := by
  refine ⟨fun pins s σ H Q I h => wpAny_Call_Name_kw (ld_glob I hg hm ?_ hdb)⟩
  have args := ha.run pos pins s σ H _ I h
  refine PySem.W.callWith_K (h₀ := X.base) I.ok.mod.kin hk (thn args ?_) he hpl
  rintro us s1 ⟨vs, H1, I1, r, q⟩
  exact ⟨I1.kIn, runG F g hr hb hd hx I1 r q⟩
end

/-! ### a def of the text, and the law's own call -/
section
variable {CX : CXT} {P : Program} {w : World} {K : PySem.W.Frag} {mg : Str → Option Value} {base : Heap}
theorem defG {k : Nat} {f : Addr} {x qual : Str} {st : Stmt} {fd : FuncData} {N ps : List Str} {sp : Sp}
    (F : Fun K x qual st f fd) (S : FnScope N ps (defScope st)) (len : ∀ vs H Q E, sp vs H Q E → vs.length = ps.length)
    (inner : ∀ (cd : Value) (A : Around), A.guards = some [] → ∀ (outer : List Env) (s : Shared) (H : Hp) (vs : List V) (Q : VK) (E : XK),
      Room k (A.deeper (envOfC qual (defScope st) s.heap.objs.size f cd)) → sp vs H Q E →
      ∃ t, PSs (cxOf CX P w K mg base N qual (defScope st) f cd A outer s H E) (defBody st) t ∧ t { nx := fun _ H' => Q .non H', rt := Q } (start N vs) H) :
    FnG P w K mg base CX (k + 1) f fd ps sp := by
  obtain ⟨oc, od, kV, doc, pm, an, cd, ct, osl, rfl, lk, hcd⟩ := F.ex
  refine ⟨len, ?_⟩
  intro A g outer s H args us vs Q E hr e0 hb r hsp
  have kept : ∀ b o, base.get? b = some o → s.heap.get? b = some o := fun b o z => (e0.bs b o z).1
  have KX : K.In s.heap := e0.mod.kin.keeps kept
  have lim : s.heap.NoLimit := e0.mod.nolimit.keeps kept
  have slots : ∀ y ∈ ps.zip us, (defScope st).names.lookup y.1 = some .local ∨
      ((defScope st).names.lookup y.1 = some .cell ∧ ((cellsFrom (s.heap.objs.size + 1) (defScope st).names []).lookup y.1).isSome = true) := by
    rintro ⟨n, v⟩ hy
    have hp := S.par n (List.of_mem_zip hy).1
    exact hp.imp id fun q => ⟨q, PySem.W.cellsFrom_some _ _ _ (.inl q)⟩
  refine codeAny_call_function hr.depth (KX _ _ lk) rfl S.co S.gen rfl (PySem.W.codeRec_of KX hcd) (hb _ _ _ _ ?_)
  refine wpAny_newFunctionEnv_cells S.kind slots ?_
  rintro env rfl s1 x
  refine ⟨lim.keeps x.toInCall.keep, codeAny_func ?_⟩
  obtain ⟨t, ht, hq⟩ := inner cd A g outer s H vs Q E (hr.deeper _) hsp
  have I := inv_start (CX := CX) (mg := mg) (E := E) S hr.hd e0 (len _ _ _ _ hsp) r x
  refine wpAny_mono (ht.run [] s1 (start N vs) H _ I hq) ?_ fun _ _ z => z
  intro fl s' hs
  match fl, hs with
  | .ret u, ⟨v, σ', H', J, rv, q⟩ => exact ⟨v, H', J.os, J.bare, J.base, J.hok, rv, q⟩
  | .next, ⟨σ', H', J, q⟩ => exact ⟨V.non, H', J.os, J.bare, J.base, J.hok, rfl, q⟩
  | .brk, ⟨_, _, _, q⟩ => exact q.elim
  | .cont, ⟨_, _, _, q⟩ => exact q.elim
/-- no exception leaves the def -/
theorem defG0 {k : Nat} {f : Addr} {x qual : Str} {st : Stmt} {fd : FuncData} {N ps : List Str} {sp : Sp}
    (F : Fun K x qual st f fd) (S : FnScope N ps (defScope st)) (len : ∀ vs H Q E, sp vs H Q E → vs.length = ps.length)
    (inner : ∀ (cd : Value) (A : Around), A.guards = some [] → ∀ (outer : List Env) (s : Shared) (H : Hp) (vs : List V) (Q : VK) (E : XK),
      Room k (A.deeper (envOfC qual (defScope st) s.heap.objs.size f cd)) → sp vs H Q E →
      ∃ t, PSs (cxOf CX0 P w K mg base N qual (defScope st) f cd A outer s H E).nox (defBody st) t ∧ t { nx := fun _ H' => Q .non H', rt := Q } (start N vs) H) :
    FnG P w K mg base CX0 (k + 1) f fd ps sp :=
  defG F S len fun cd A g outer s H vs Q E hr h => let ⟨t, a, b⟩ := inner cd A g outer s H vs Q E hr h; ⟨t, a.nox, b⟩
end

/-! ### repr -/
section
variable {X : Cx}
def rRepr (K : PySem.W.Frag) : List V → Hp → VK → Prop := fun xs H Q =>
  ∃ v d, xs = [v] ∧ Dp K H v d ∧ d.showable = true ∧ d.hasDict = false ∧ d.depth ≤ 60 ∧ d.shown.length ≤ sizeLine ∧ Q (.str d.shown) H
theorem call_reprD (hg : X.A.guards = some []) (hu : X.A.units + 64 < cLine) : CallR X (.builtin "repr") (rRepr X.K) := by
  intro pins s σ H xs us Q I r h
  obtain ⟨v, d, rfl, hd, h1, h2, h3, h4, q⟩ := h
  obtain ⟨u, rfl, ru⟩ := vals1 r
  obtain ⟨as, rd⟩ := Dp.reads I d v u hd ru
  have out : ∀ h' u' tk, (∀ b o, s.heap.get? b = some o → h'.get? b = some o) → EP X pins σ Q (.str d.shown u') { s with heap := h', toks := tk } :=
    fun h' u' tk hk => ⟨.str d.shown, H, I.kept hk, ⟨u', rfl⟩, q⟩
  cases rd with
  | none => exact P.repr_of_none (by simpa only [PyData.shown] using out s.heap s.toks (s.toks + 1) fun _ _ z => z)
  | bool b => exact P.repr_of_bool (by simpa only [PyData.shown] using out s.heap s.toks (s.toks + 1) fun _ _ z => z)
  | int i t => exact P.repr_of_int (by simpa [PyData.showable] using h1) (by simpa only [PyData.shown] using out s.heap _ _ fun _ _ z => z)
  | str x t => exact P.repr_of_str (by simpa only [PyData.shown] using out s.heap _ _ fun _ _ z => z) (by simpa only [PyData.shown] using h4)
  | list a1 a2 a3 a4 => exact repr_of_reads' (.list a1 a2 a3 a4) h1 (fun z => by rw [h2] at z; cases z) hg (by omega) (fun _ _ z => z) out h4
  | tuple a1 a2 a3 a4 => exact repr_of_reads' (.tuple a1 a2 a3 a4) h1 (fun z => by rw [h2] at z; cases z) hg (by omega) (fun _ _ z => z) out h4
  | dict a1 a2 a3 a4 a5 => simp [PyData.hasDict] at h2
end
end Gk
/-! the law's own call, by a promise of the kind FnG -/
namespace Gk
open PySem L2 PySem.Spec PyProof.Rows
abbrev AllTrue (s₁ : Shared) (r : Result) (s' : Shared) : Prop := r = .ok (.ret (.bool true)) ∧ OldK s₁.heap s'.heap ∧ s'.os = s₁.os ∧ AllBare s'.gens
section
variable {P : Program} {w : World} {K : PySem.W.Frag} {mg mb : Str → Option Value} {k : Nat} {fa a : Addr} {fd : FuncData} {x : Str} {sp : Sp} {s₁ : Shared} {vs : List Value} {ns : List Int}
/-- what is hidden by H stands at a alone, and that is the script's list -/
structure Hid (K : PySem.W.Frag) (s₁ : Shared) (a : Addr) (vs : List Value) (H : Hp) : Prop where
  only : Only H
  at_a : ∀ b, H b ≠ none → b = a
  new : H a ≠ none → K.lookup a = none
  scr : s₁.heap.get? a = some { cls := .type "list", data := .seq vs.toArray }
theorem Hid.free {H : Hp} (h : Hid K s₁ a vs H) {b : Addr} {o : Obj} (e : s₁.heap.get? b = some o) (hd : ∀ z n, o.data ≠ .seq z n) : H b = none := by
  cases q : H b with
  | none => rfl
  | some u =>
    obtain rfl : b = a := h.at_a b (by simp [q])
    rw [h.scr] at e
    cases e
    exact absurd rfl (hd _ _)
theorem Hid.nsp {H : Hp} (h : Hid K s₁ a vs H) {b : Addr} {m : Str → Option Value} : s₁.heap.Ns b m → (hidT s₁.heap H).Ns b m := by
  rintro ⟨o, es, ep, e, d, r⟩
  exact ⟨o, es, ep, hidT_get e (h.free e fun z n q => by rw [d] at q; cases q), d, r⟩
theorem Hid.kin {H : Hp} (h : Hid K s₁ a vs H) (KX : K.In s₁.heap) : K.In (hidT s₁.heap H) := by
  intro b o e
  refine hidT_get (KX b o e) ?_
  cases q : H b with
  | none => rfl
  | some u =>
    obtain rfl : b = a := h.at_a b (by simp [q])
    rw [h.new (by simp [q])] at e
    cases e
theorem run_law {H : Hp} (h : Hid K s₁ a vs H) (KX : K.In s₁.heap) (hns : s₁.heap.Ns mainGlobals mg) (hb : s₁.heap.Ns builtinsNs mb) (hbb : ∀ x : Str, x ≠ "__name__" → mb x = bootBuiltins x) (hlim : s₁.heap.NoLimit)
    (hg : s₁.gens = #[]) (hr : Room k callerA) (F : ∀ base : Heap, K.In base → base.Ns mainGlobals mg → FnG P w K mg base CX0 k fa fd [x] sp)
    (hbind : ∀ (s : Shared) (u : Value), BindsTo s fd ⟨[u], []⟩ [(x, u)]) (hok : HOk P w H s₁.heap) (hsp : sp [.ref a] H (fun v _ => v = .bl true) fun _ _ _ => False) :
    codeAny (model P w) callerA (.call (.ref fa) ⟨[.ref a], []⟩) (AllTrue s₁) s₁ := by
  obtain ⟨mc, l1, l2⟩ := hlim
  have md : Mod K mg (hidT s₁.heap H) := ⟨h.kin KX, h.nsp hns, ⟨mb, h.nsp hb, hbb⟩, ⟨mc, h.nsp l1, l2⟩⟩
  have ev : Env0 P w K mg (hidT s₁.heap H) callerA [] s₁ H :=
    ⟨rfl, md, fun b o e => of_hidT e, Nat.le_of_eq (hidT_size _ _), trivial, fun b hb => (List.not_mem_nil hb).elim, hok, .of_eq hg⟩
  have go := (F _ (h.kin KX) (h.nsp hns)).go callerA rfl [] s₁ H ⟨[.ref a], []⟩ [.ref a] [.ref a] _ _ hr ev (hbind s₁ (.ref a)) (.cons rfl .nil) hsp
  refine codeAny_mono go ?_
  intro res s' hres
  match res, hres with
  | .error e, z => exact z.elim
  | .ok .next, z => exact z.elim
  | .ok .brk, z => exact z.elim
  | .ok .cont, z => exact z.elim
  | .ok (.ret u), ⟨v, H', os, bare, un, hok', rv, q⟩ =>
    obtain rfl : v = .bl true := q
    obtain rfl : u = Value.bool true := rv
    refine ⟨rfl, OldK.of_keep ?_, os, bare⟩
    intro b o e
    rcases h.only b with z | ⟨ob, xs, z⟩
    · exact un.keep b o e z (fun m => (List.not_mem_nil m).elim) (fun m => (List.not_mem_nil m).elim)
    · obtain ⟨e1, _⟩ := hok b _ z
      obtain ⟨e2, _⟩ := hok' b _ (un.frzs b ob _ z)
      rw [e] at e1
      cases e1
      exact e2
theorem law_callG (KX : K.In s₁.heap) (hns : s₁.heap.Ns mainGlobals mg) (hb : s₁.heap.Ns builtinsNs mb) (hbb : ∀ x : Str, x ≠ "__name__" → mb x = bootBuiltins x) (hlim : s₁.heap.NoLimit) (hg : s₁.gens = #[])
    (scr : s₁.heap.get? a = some { cls := .type "list", data := .seq vs.toArray }) (hi : IntsAre vs ns) (hl : ns.length ≤ sizeLine) (hr : Room k callerA)
    (F : ∀ base : Heap, K.In base → base.Ns mainGlobals mg → FnG P w K mg base CX0 k fa fd [x] sp) (hbind : ∀ (s : Shared) (u : Value), BindsTo s fd ⟨[u], []⟩ [(x, u)])
    (hsp : ∀ H : Hp, Only H → SqL K H a (ns.map V.int) → sp [.ref a] H (fun v _ => v = .bl true) fun _ _ _ => False) :
    codeAny (model P w) callerA (.call (.ref fa) ⟨[.ref a], []⟩) (AllTrue s₁) s₁ := by
  have rv := vals_ints hi
  cases hk : K.lookup a with
  | some o =>
    have e := KX a o hk
    rw [scr] at e
    cases e
    have on : Only (fun _ => none) := fun _ => .inl rfl
    refine run_law (H := fun _ => none) ⟨on, fun b z => absurd rfl z, fun z => absurd rfl z, scr⟩ KX hns hb hbb hlim hg hr F hbind (fun b u z => nomatch z) (hsp _ on ?_)
    exact .inr ⟨_, vs.toArray, _, hk, rfl, rfl, rfl, by rw [List.size_toArray, hi.length]; exact hl, by simpa using rv⟩
  | none =>
    let L : HO := .frz { cls := .type "list", data := .seq vs.toArray } (.lst (ns.map V.int))
    have la : (fun b => if b = a then some L else none : Hp) a = some L := if_pos rfl
    have on : Only (fun b => if b = a then some L else none) := by
      intro b
      by_cases hb : b = a
      · exact .inr ⟨_, _, if_pos hb⟩
      · exact .inl (if_neg hb)
    refine run_law ⟨on, fun b z => ?_, fun _ => hk, scr⟩ KX hns hb hbb hlim hg hr F hbind (fun b u z => ?_) (hsp _ on (.inl (.inr ⟨_, la⟩)))
    · by_cases hb : b = a
      · exact hb
      · exact absurd (if_neg hb) z
    · by_cases hb : b = a
      · subst hb
        have z' := la.symm.trans z
        cases z'
        exact ⟨scr, by rw [List.length_map]; exact hl, vs, _, rv, scr⟩
      · have z' := (if_neg hb).symm.trans z
        cases z'
end
theorem walkG {l : PySem.W.OpenLaw} {n k : Nat} {q : Program} {loose : List Str} {XP : (Str → Option Value) → Heap → Prop} {YP : World → Heap → Prop} {d : DefRec} {K : Params → PySem.W.Frag} {sp : World → Sp} {x : Str}
    (hn : l.most = some n) (hn2 : n ≤ sizeLine) (hdf : d.params.defaults = []) (hr : Room k callerA) (hY : ∀ (w : World) (h : Heap), YP w h → (K w.params).In h)
    (F : ∀ (w : World) (mg : Str → Option Value) (fa : Addr) (h : Heap), (K w.params).In h → h.Ns mainGlobals mg → mg d.name = some (.ref fa) →
      ∃ fd : FuncData, (∀ (s : Shared) (u : Value), BindsTo s fd ⟨[u], []⟩ [(x, u)]) ∧
        ∀ base : Heap, (K w.params).In base → base.Ns mainGlobals mg → FnG l.prog w (K w.params) mg base CX0 k fa fd [x] (sp w))
    (hsp : ∀ (w : World) (H : Hp) (a : Addr) (ns : List Int), ns.length ≤ n → Only H → SqL (K w.params) H a (ns.map V.int) → sp w [.ref a] H (fun v _ => v = .bl true) fun _ _ _ => False) :
    PySem.W.WalkO q loose XP YP l.row.toRowW d [] (fun f vs => PySem.call f vs) := by
  refine Att.attach_call hn hdf ?_
  intro w s₀ s₁ mg mb fa o pm cd doc a vs ns G Y ho hd hcd hmg hobj hints hlen hg
  obtain ⟨fd, hb, hF⟩ := F w mg fa _ (hY w _ Y) G.T.g hmg
  exact law_callG (hY w _ Y) G.T.g G.T.b G.T.builtins G.T.nolimit hg hobj hints (Nat.le_trans hlen hn2) hr hF hb fun H hO hS => hsp w H a ns hlen hO hS
end Gk
namespace Gk
open PySem L2 PySem.Spec PyProof.Rows
/-- a def of the module's top, by its name, with its promise -/
def CalG (P : Program) (w : World) (K : PySem.W.Frag) (mg : Str → Option Value) (base : Heap) (k : Nat) (x : Str) (sp : Sp) : Prop :=
  ∃ (f : Addr) (fd : FuncData) (ps : List Str), FnG P w K mg base CX0 k f fd ps sp ∧ mg x = some (.ref f) ∧ PySem.W.keepIn K (.ref f) = true ∧ Binds K fd ps []
/-- a def as the top has left it -/
def DefAt (K : PySem.W.Frag) (mg : Str → Option Value) (x : Str) (st : Stmt) (ps : List Str) : Prop :=
  ∃ (f : Addr) (fd : FuncData), mg x = some (.ref f) ∧ Fun K x x st f fd ∧ Binds K fd ps []
theorem defAt {K : PySem.W.Frag} {h : Heap} {mg : Str → Option Value} {x : Str} {st : Stmt} {ps : List Str} {f : Addr} {oc : Value} {od an : Option Addr} {osl : Array (Option Value)} {kV doc pm cdv ct : Value} (X : K.In h) (G : h.Ns mainGlobals mg)
    (hb : ∀ (kV doc pm : Value) (an : Option Addr) (cdv ct : Value) (us : List Value), us.length = ps.length → bindArgs (PySem.W.fnOf x x (defArgs st) (defBody st) (defScope st) .none kV doc pm an cdv ct) ⟨us, []⟩ = pure (ps.zip us))
    (a : PySem.W.nsIn K mainGlobals x = some (some (.ref f)))
    (l : K.lookup f = some ⟨oc, od, .func (PySem.W.fnOf x x (defArgs st) (defBody st) (defScope st) .none kV doc pm an cdv ct), osl⟩)
    (c : PySem.W.codeIn K cdv x = true) (k : PySem.W.keepIn K (.ref f) = true) : DefAt K mg x st ps :=
  ⟨f, _, PySem.W.mg_of X G a, fun_mk l c k, (fun_mk (st := st) l c k).binds hb⟩
section
variable {P : Program} {w : World} {K : PySem.W.Frag} {mg : Str → Option Value} {base : Heap}
/-- a def by its body -/
theorem DefAt.by {x : Str} {st : Stmt} {ps N : List Str} {k : Nat} {sp : Sp} (D : DefAt K mg x st ps) (S : FnScope N ps (defScope st)) (len : ∀ vs H Q E, sp vs H Q E → vs.length = ps.length)
    (inner : ∀ (f : Addr) (cd : Value) (A : Around), A.guards = some [] → ∀ (outer : List Env) (s : Shared) (H : Hp) (vs : List V) (Q : VK) (E : XK),
      Room k (A.deeper (envOfC x (defScope st) s.heap.objs.size f cd)) → sp vs H Q E →
      ∃ t, PSs (cxOf CX0 P w K mg base N x (defScope st) f cd A outer s H E).nox (defBody st) t ∧ t { nx := fun _ H' => Q .non H', rt := Q } (start N vs) H) :
    CalG P w K mg base (k + 1) x sp := by
  obtain ⟨f, fd, hm, F, hb⟩ := D
  exact ⟨f, fd, ps, defG0 F S len (inner f), hm, F.kp, hb⟩
end
section
variable {X : Cx} {k j : Nat} {sp : Sp} {x : Str} {p pos : Pos} {e : Expr} {es : List Expr} {t : TA}
theorem pe_cG (c : CalG X.prog X.w X.K X.mg X.base k x sp) (g : X.A.guards = some []) (hr : Room j X.A) (hk : k ≤ j) (ha : PA X (e :: es) t) (hg : Gl X x := by rfl)
    (hdb : (x == ("__debug__" : Str)) = false := by decide) (he : starEach (e :: es) X.env = (false, eval e X.env) :: starEach es X.env := by rfl)
    (hpl : (backTo pos (starEach es X.env)).any (·.1) = false := by rfl) : PE X (.Call (.Name x p) (e :: es) [] pos) (tCall sp [] E0 t) := by
  obtain ⟨f, fd, ps, F, hm, hkp, hb⟩ := c
  exact pe_callG F g (hr.mono hk) hg hm hkp hb .nil pass0 ha hdb he hpl
end
end Gk
/-! readings, one construct a lemma: what a term of the layer asks, from the value -/
namespace Rd
open PySem L2 PySem.Spec PyProof.Rows Gk
section
variable {K : PySem.W.Frag} {σ : L2.St} {H : Hp} {Q : VK} {QA : List V → Hp → Prop} {QB : Bool → Hp → Prop} {QH : Hp → Prop} {D : Ends} {i j : Int} {n : Nat} {v x y : V} {ta tb te : TE} {tt tu : TT} {t u : TS} {as ar : TA} {p q : Addr} {xs ys : List V} {z s : Str} {b c : Bool}
theorem var (h : σ[n]? = some (some v)) (k : Q v H) : tVar n σ H Q := ⟨v, h, k⟩
theorem cst (k : Q v H) : tC v σ H Q := k
theorem op {r : R2} (k : ta σ H fun x H1 => tb σ H1 fun y H2 => r x y H2 Q) : tOp r ta tb σ H Q := k
theorem un {r : V → Hp → VK → Prop} (k : ta σ H fun x H1 => r x H1 Q) : tUn r ta σ H Q := k
theorem i0 {g : Int → Int → V} (k : Q (g i j) H) : rI0 g (.int i) (.int j) H Q := ⟨i, j, rfl, rfl, k⟩
theorem ic {C : Int → Int → Prop} {g : Int → Int → V} (h : C i j) (k : Q (g i j) H) : rI C g (.int i) (.int j) H Q := ⟨i, j, rfl, rfl, h, k⟩
theorem u1 {g : Int → V} (k : Q (g i) H) : rU g (.int i) H Q := ⟨i, rfl, k⟩
theorem eq (h : scal x y = true) (k : Q (.bl (decide (x = y))) H) : rEq x y H Q := ⟨h, k⟩
theorem ne (h : scal x y = true) (k : Q (.bl (!decide (x = y))) H) : rNe x y H Q := ⟨h, k⟩
theorem ixL (h : SqL K H p xs) (a : atI xs i = some v) (k : Q v H) : rIxL K (.ref p) (.int i) H Q := ⟨p, xs, i, v, rfl, rfl, h, a, k⟩
theorem ixT (h : SqT K H p xs) (a : atI xs i = some v) (k : Q v H) : rIxT K (.ref p) (.int i) H Q := ⟨p, xs, i, v, rfl, rfl, h, a, k⟩
theorem ixS {m : Nat} (h : z.length ≤ sizeLine) (a : atI z.cps.toList i = some m) (k : Q (.str ⟨#[m]⟩) H) : rIxS (.str z) (.int i) H Q := ⟨z, i, m, rfl, rfl, h, a, k⟩
theorem setL {m : Nat} (h : H p = some (.lst xs)) (a : ixN xs.length i = some m) (k : QH (upd H p (.lst (xs.set m v)))) : rSetL (.ref p) (.int i) v H QH := ⟨p, xs, i, m, rfl, rfl, h, a, k⟩
theorem inL {neg : Bool} (h : SqL K H p xs) (hx : flatV x = true) (ha : xs.all flatV = true) (k : Q (.bl (if neg then !inV x xs else inV x xs)) H) : rIn K neg x (.ref p) H Q := ⟨p, xs, rfl, .inl h, hx, ha, k⟩
theorem slL {lo hi : Option Int} (h : SqL K H p xs) (k : ∀ q, H q = none → Q (.ref q) (upd H q (.lst (cutV xs lo hi)))) : rSlL K (.ref p) lo hi H Q := ⟨p, xs, rfl, h, k⟩
theorem slS {lo hi : Option Int} (h : z.length ≤ sizeLine) (k : Q (.str (cutS z lo hi)) H) : rSlS (.str z) lo hi H Q := ⟨z, rfl, h, k⟩
theorem cat (h : H p = some (.lst xs)) (h' : H q = some (.lst ys)) (l : xs.length + ys.length ≤ sizeLine) (k : ∀ r, H r = none → Q (.ref r) (upd H r (.lst (xs ++ ys)))) : rCat (.ref p) (.ref q) H Q := ⟨p, q, xs, ys, rfl, rfl, h, h', l, k⟩
theorem sl {r : V → Option Int → Option Int → Hp → VK → Prop} {tl th : TO} (k : te σ H fun x H1 => tl σ H1 fun l H2 => th σ H2 fun u H3 => r x l u H3 Q) : tSl r te tl th σ H Q := k
theorem noPart {QO : Option Int → Hp → Prop} (k : QO none H) : tNoPart σ H QO := k
theorem part {QO : Option Int → Hp → Prop} (k : te σ H fun x H1 => ∃ i, x = .int i ∧ QO (some i) H1) : tPart te σ H QO := k
theorem int_ {R : Int → Prop} (k : R i) : ∃ i', V.int i = .int i' ∧ R i' := ⟨i, rfl, k⟩
theorem bl_ {R : Bool → Prop} (k : R b) : ∃ c, V.bl b = .bl c ∧ R c := ⟨b, rfl, k⟩
theorem nil (k : QA [] H) : tNil σ H QA := k
theorem cons (k : te σ H fun x H1 => ar σ H1 fun xs H2 => QA (x :: xs) H2) : tCons te ar σ H QA := k
theorem cb {r : List V → Hp → VK → Prop} (k : as σ H fun vs H1 => r vs H1 Q) : tCB r as σ H Q := k
theorem call {sp : Sp} {dvs : List V} {E : XK} (k : as σ H fun vs H1 => sp (vs ++ dvs) H1 Q E) : tCall sp dvs E as σ H Q := k
theorem lst (k : as σ H fun xs H1 => xs.length ≤ sizeLine ∧ ∀ p, H1 p = none → Q (.ref p) (upd H1 p (.lst xs))) : tLst as σ H Q := k
theorem tup (k : as σ H fun xs H1 => xs.length ≤ sizeLine ∧ ∀ p, H1 p = none → Q (.ref p) (upd H1 p (.tup xs))) : tTup as σ H Q := k
theorem test (k : te σ H fun x H' => ∃ k, x = .bl k ∧ QB k H') : tTest te σ H QB := k
theorem tb_ (k : te σ H fun x H' => ∃ k, x = .bl k ∧ QB k H') : tB te σ H QB := k
theorem not_ (k : tt σ H fun c H1 => QB (!c) H1) : tNot tt σ H QB := k
theorem or_ (k : tt σ H fun c H1 => if c = true then QB true H1 else tu σ H1 QB) : tOr tt tu σ H QB := k
theorem and_ (k : tt σ H fun c H1 => if c = true then tu σ H1 QB else QB false H1) : tAnd tt tu σ H QB := k
theorem orV (k : ta σ H fun x H1 => ∃ c, x = .bl c ∧ if c = true then Q (.bl true) H1 else tb σ H1 Q) : tOrV ta tb σ H Q := k
theorem andV (k : ta σ H fun x H1 => ∃ c, x = .bl c ∧ if c = true then tb σ H1 Q else Q (.bl false) H1) : tAndV ta tb σ H Q := k
theorem notV (k : ta σ H fun x H1 => ∃ c, x = .bl c ∧ Q (.bl (!c)) H1) : tNotV ta σ H Q := k
theorem tif (k : tt σ H fun c H1 => if c = true then ta σ H1 Q else tb σ H1 Q) : tIf tt ta tb σ H Q := k
theorem yes (k : QB true H) : tYes σ H QB := k
theorem next (k : D.nx σ H) : tNext D σ H := k
theorem seq (k : t { D with nx := u D } σ H) : tSeq t u D σ H := k
theorem drop (k : te σ H fun _ H1 => D.nx σ H1) : tDrop te D σ H := k
theorem ret (k : te σ H D.rt) : tRet te D σ H := k
theorem retN (k : D.rt .non H) : tRetN D σ H := k
theorem ifs (k : tt σ H fun b H1 => if b = true then t D σ H1 else u D σ H1) : tIfS tt t u D σ H := k
theorem asg {g : TG} (k : te σ H fun x H1 => g x σ H1 D.nx) : tAsg te g D σ H := k
theorem gname {QS : L2.St → Hp → Prop} (k : QS (σ.set n (some v)) H) : gName n v σ H QS := k
theorem gsub {QS : L2.St → Hp → Prop} {st : V → V → V → Hp → (Hp → Prop) → Prop} (k : ta σ H fun o H1 => tb σ H1 fun i H2 => st o i v H2 fun H3 => QS σ H3) : gSub ta tb st v σ H QS := k
theorem par {m l : Nat} (k : as σ H fun vs H1 => ∃ v w, vs = [v, w] ∧ D.nx ((σ.set m (some v)).set l (some w)) H1) : tPar m l as D σ H := k
theorem bm {T : String} {r : V → List V → Hp → VK → Prop} (k : te σ H fun x H1 => tyV K T x H1 ∧ as σ H1 fun xs H2 => r x xs H2 Q) : tBM K T r te as σ H Q := k
theorem bm0 {T : String} {r : V → List V → Hp → VK → Prop} (k : te σ H fun x H1 => tyV K T x H1 ∧ r x [] H1 Q) : tBM0 K T r te σ H Q := k
theorem app (h : H p = some (.lst xs)) (l : xs.length < sizeLine) (k : Q .non (upd H p (.lst (xs ++ [v])))) : rAppend (.ref p) [v] H Q := ⟨p, xs, v, rfl, rfl, h, l, k⟩
theorem ty_list (h : H p = some (.lst xs)) : tyV K "list" (.ref p) H := .inl ⟨rfl, xs, SqL.of h⟩
theorem int1 {R : Int → Prop} {R2 : Bool → Prop} (k : R i) : (∃ j, [V.int i] = [.int j] ∧ R j) ∨ ∃ k, [V.int i] = [.bl k] ∧ R2 k := .inl ⟨i, rfl, k⟩
theorem intB {R : Int → Prop} {R2 : Bool → Prop} (k : R2 b) : (∃ j, [V.bl b] = [.int j] ∧ R j) ∨ ∃ k, [V.bl b] = [.bl k] ∧ R2 k := .inr ⟨b, rfl, k⟩
theorem two {R : Int → Int → Prop} (k : R i j) : ∃ i' j', [V.int i, .int j] = [.int i', .int j'] ∧ R i' j' := ⟨i, j, rfl, k⟩
theorem one {R : Int → Prop} (k : R i) : ∃ i', [V.int i] = [.int i'] ∧ R i' := ⟨i, rfl, k⟩
theorem lenL {R : List V → Prop} (h : SqL K H p xs) (k : R xs) : ∃ p' ys, [V.ref p] = [.ref p'] ∧ (SqL K H p' ys ∨ SqT K H p' ys) ∧ R ys := ⟨p, xs, rfl, .inl h, k⟩
theorem lenS {R : Str → Prop} (h : z.length ≤ sizeLine) (k : R z) : ∃ z', [V.str z] = [.str z'] ∧ z'.length ≤ sizeLine ∧ R z' := ⟨z, rfl, h, k⟩
theorem andr {R : Prop} (k : R) : x = x ∧ R := ⟨rfl, k⟩
theorem str_ {R : Str → Prop} (k : R z) : ∃ c, V.str z = .str c ∧ R c := ⟨z, rfl, k⟩
theorem dec {c A B : Prop} [Decidable c] (h1 : c → A) (h2 : ¬ c → B) : if decide c = true then A else B := by
  by_cases h : c
  · rw [decide_eq_true h]; exact h1 h
  · rw [decide_eq_false h, if_neg Bool.false_ne_true]; exact h2 h
theorem ndec {c A B : Prop} [Decidable c] (h1 : ¬ c → A) (h2 : c → B) : if (!decide c) = true then A else B := by
  by_cases h : c
  · rw [decide_eq_true h]; exact h2 h
  · rw [decide_eq_false h]; exact h1 h
theorem tt_ {A B : Prop} (h : A) : if true = true then A else B := h
theorem ff_ {A B : Prop} (h : B) : if false = true then A else B := iteF h
theorem bool {b : Bool} {A B : Prop} (h1 : b = true → A) (h2 : b = false → B) : if b = true then A else B := by
  cases b with
  | true => exact h1 rfl
  | false => rw [if_neg Bool.false_ne_true]; exact h2 rfl
theorem fm {i m : Int} (m0 : 0 < m) : 0 ≤ i.fmod m ∧ i.fmod m < m := by
  rw [Int.fmod_eq_emod_of_nonneg i (Int.le_of_lt m0)]
  exact ⟨Int.emod_nonneg i (by omega), Int.emod_lt_of_pos i m0⟩
theorem atN {α : Type} {xs : List α} {i : Int} {v : α} (h0 : 0 ≤ i) (h : xs[i.toNat]? = some v) : atI xs i = some v := by
  have e : ((i.toNat : Nat) : Int) = i := Int.toNat_of_nonneg h0
  rw [← e]
  exact atI_nat h
theorem at0 {α : Type} {xs : List α} {v : α} : atI (v :: xs) 0 = some v := atN (Int.le_refl 0) rfl
theorem at_int {ns : List Int} {i : Int} (h0 : 0 ≤ i) (h : i < ((ns.map V.int).length : Int)) : ∃ c, atI (ns.map V.int) i = some (.int c) := by
  rw [List.length_map] at h
  have hk : i.toNat < ns.length := by omega
  exact ⟨ns[i.toNat], atN h0 (by simp [hk])⟩
theorem sz {n : Nat} (h : n ≤ 100000) : n ≤ sizeLine := Nat.le_trans h (by decide)
theorem szl {n : Nat} (h : n < 100000) : n < sizeLine := Nat.lt_of_lt_of_le h (by decide)
end
section
variable {X : Cx}
def rLenK (K : PySem.W.Frag) : List V → Hp → VK → Prop := fun xs H Q => ∃ p ys, xs = [.ref p] ∧ (SqL K H p ys ∨ SqT K H p ys) ∧ Q (.int ys.length) H
theorem callLen : CallR X (.builtin "len") (rLenK X.K) := call_len_seq
def rListK (K : PySem.W.Frag) : List V → Hp → VK → Prop := fun xs H Q => ∃ p ys, xs = [.ref p] ∧ (SqL K H p ys ∨ SqT K H p ys) ∧ ∀ l, H l = none → Q (.ref l) (upd H l (.lst ys))
theorem callList : CallR X (.type "list") (rListK X.K) := call_list_of
def tTru (K : PySem.W.Frag) (ta : TE) : TT := fun σ H Q => ta σ H fun x H' => ∃ k, TruV K x H' k ∧ Q k H'
theorem ptTru {K : PySem.W.Frag} {e : Expr} {ta : TE} (h : X.K = K) (p : PT X e fun σ H Q => ta σ H fun x H' => ∃ k, TruV X.K x H' k ∧ Q k H') : PT X e (tTru K ta) := by
  subst h
  exact p
variable {K : PySem.W.Frag} {σ : L2.St} {H : Hp} {Q : VK} {QB : Bool → Hp → Prop} {p : Addr} {xs : List V} {ta : TE}
theorem lenK (h : SqL K H p xs) (k : Q (.int xs.length) H) : rLenK K [.ref p] H Q := ⟨p, xs, rfl, .inl h, k⟩
theorem lenT (h : SqT K H p xs) (k : Q (.int xs.length) H) : rLenK K [.ref p] H Q := ⟨p, xs, rfl, .inr h, k⟩
theorem listK (h : SqL K H p xs) (k : ∀ l, H l = none → Q (.ref l) (upd H l (.lst xs))) : rListK K [.ref p] H Q := ⟨p, xs, rfl, .inl h, k⟩
theorem tru (k : ta σ H fun x H' => ∃ k, TruV K x H' k ∧ QB k H') : tTru K ta σ H QB := k
theorem truL {R : Bool → Prop} (h : SqL K H p xs) (k : R (!xs.isEmpty)) : ∃ k, TruV K (.ref p) H k ∧ R k := ⟨_, .inl ⟨xs, h, rfl⟩, k⟩
theorem any_ {bs : List Bool} (h : SqL K H p (bs.map V.bl)) (k : Q (.bl (bs.any id)) H) : rAny K [.ref p] H Q := ⟨p, bs, rfl, h, k⟩
theorem all_ {bs : List Bool} (h : SqL K H p (bs.map V.bl)) (k : Q (.bl (bs.all id)) H) : rAll K [.ref p] H Q := ⟨p, bs, rfl, h, k⟩
theorem repr_ {v : V} {d : PyData} (h : Dp K H v d) (h1 : d.showable = true) (h2 : d.hasDict = false) (h3 : d.depth ≤ 60) (h4 : d.shown.length ≤ sizeLine) (k : Q (.str d.shown) H) : rRepr K [v] H Q := ⟨v, d, rfl, h, h1, h2, h3, h4, k⟩
theorem eqD {x y : V} {d e : PyData} (hd : Dp K H x d) (he : Dp K H y e) (h1 : SeqAt.shaped d = true) (h2 : SeqAt.shaped e = true) (k : Q (.bl (PyData.eqv d e)) H) : rEqD K x y H Q := ⟨d, e, hd, he, h1, h2, k⟩
theorem neD {x y : V} {d e : PyData} (hd : Dp K H x d) (he : Dp K H y e) (h1 : SeqAt.shaped d = true) (h2 : SeqAt.shaped e = true) (k : Q (.bl (!PyData.eqv d e)) H) : rNeD K x y H Q := ⟨d, e, hd, he, h1, h2, k⟩
end
end Rd
set_option Elab.async false
set_option linter.all false
set_option maxRecDepth 100000
set_option maxHeartbeats 8000000
open PySem L2 Gk
local macro_rules | `(tactic| walk_at "look") => `(tactic| first
  | assumption
  | exact upd_same
  | exact SqL.of (by assumption)
  | exact SqL.of upd_same)
local macro_rules | `(tactic| walk_at "cond") => `(tactic| first | decide | (show _ ∨ _; right; split <;> decide) | (show _ ∧ _; constructor <;> omega) | (show _ ∨ _; left; constructor <;> omega) | (show _ ∨ _; right; constructor <;> omega) | (show _ ≠ _; omega) | (show _ < _; omega))
local macro_rules | `(tactic| walk_at "rd") => `(tactic| (with_reducible first
  | refine Rd.var rfl ?_ | refine Rd.cst ?_ | refine Rd.op ?_ | refine Rd.un ?_ | refine Rd.i0 ?_ | refine Rd.u1 ?_ | refine Rd.cons ?_ | refine Rd.nil ?_
  | refine Rd.seq ?_ | refine Rd.ifs ?_ | refine Rd.asg ?_ | refine Rd.gname ?_ | refine Rd.gsub ?_ | refine Rd.ret ?_ | refine Rd.retN ?_ | refine Rd.drop ?_ | refine Rd.next ?_
  | refine Rd.test ?_ | refine Rd.tb_ ?_ | refine Rd.not_ ?_ | refine Rd.or_ ?_ | refine Rd.and_ ?_ | refine Rd.orV ?_ | refine Rd.andV ?_ | refine Rd.notV ?_ | refine Rd.tif ?_ | refine Rd.yes ?_
  | refine Rd.cb ?_ | refine Rd.call ?_ | refine Rd.sl ?_ | refine Rd.noPart ?_ | refine Rd.part ?_ | refine Rd.int_ ?_ | refine Rd.bl_ ?_
  | refine Rd.eq rfl ?_ | refine Rd.ne rfl ?_ | refine Rd.lst ?_ | refine Rd.tup ?_ | refine Rd.par ?_ | refine Rd.bm ?_ | refine Rd.bm0 ?_
  | refine Rd.int1 ?_ | refine Rd.intB ?_ | refine Rd.two ?_ | refine Rd.one ?_ | refine Rd.andr ?_ | refine Rd.str_ ?_
  | (refine Rd.ic ?k1 ?_; (case k1 => with_unfolding_all walk_at "cond"))
  | (refine' Rd.ixL ?k1 ?k2 ?_; (case k1 => with_unfolding_all walk_at "look"); (case k2 => with_unfolding_all (first | rfl | exact Rd.at0)))
  | (refine' Rd.setL ?k1 ?k2 ?_; (case k1 => with_unfolding_all walk_at "look"); (case k2 => with_unfolding_all rfl))
  | (refine' Rd.lenL ?k1 ?_; (case k1 => with_unfolding_all walk_at "look"))
  | (refine' Rd.lenK ?k1 ?_; (case k1 => with_unfolding_all walk_at "look"))
  | refine Rd.tru ?_ | (refine' Rd.truL ?k1 ?_; (case k1 => with_unfolding_all walk_at "look"))))
namespace Rd
open PySem.Spec PyProof.Rows
section
variable {K : PySem.W.Frag} {σ : L2.St} {H H' : Hp} {α β : Type}
theorem sNew {p : Addr} {o : HO} (hp : H p = none) : Same H (upd H p o) := fun b u e => by
  rw [upd_ne (ne_of_none e hp)]
  exact e
theorem sMut {p : Addr} {o : HO} (h : Same H H') (hp : H p = none) : Same H (upd H' p o) := fun b u e => by
  rw [upd_ne (ne_of_none e hp)]
  exact h b u e
theorem pair_get {F : α → β → Prop} : ∀ {as : List α} {bs : List β} {i : Nat} {b : β}, Paired F as bs → bs[i]? = some b → ∃ a, as[i]? = some a ∧ F a b
  | _, _, i, b, .nil, h => by simp at h
  | a :: as, c :: bs, 0, b, .cons h hs, e => by
    obtain rfl : c = b := by simpa using e
    exact ⟨a, rfl, h⟩
  | a :: as, c :: bs, i + 1, b, .cons h hs, e => by
    have := pair_get hs (i := i) (b := b) (by simpa using e)
    simpa using this
theorem pair_len {F : α → β → Prop} : ∀ {as : List α} {bs : List β}, Paired F as bs → as.length = bs.length
  | _, _, .nil => rfl
  | _, _, .cons _ t => by simp [pair_len t]
theorem pair_imp {F G : α → β → Prop} (f : ∀ a b, F a b → G a b) : ∀ {as : List α} {bs : List β}, Paired F as bs → Paired G as bs
  | _, _, .nil => .nil
  | _, _, .cons h t => .cons (f _ _ h) (pair_imp f t)
theorem pair_map {f : α → V} : ∀ {as : List α} {ys : List V}, Paired (fun a y => y = f a) as ys → ys = as.map f
  | _, _, .nil => rfl
  | _, _, .cons h t => by rw [h, pair_map t]; rfl
/-- a relation of what is meant to a value in a heap that stays true as the heap grows -/
def Stays (B : β → V → Hp → Prop) : Prop := ∀ b x H H', Same H H' → B b x H → B b x H'
theorem take_succ {xs : List α} {i : Nat} {x : α} (h : xs[i]? = some x) : xs.take (i + 1) = xs.take i ++ [x] := by
  rw [List.take_succ, h]
  rfl
theorem sUpd {D : Addr} {o : HO} (s : Same H H') : Same (upd H D o) (upd H' D o) := fun b u e => by
  by_cases hb : b = D
  · subst hb; rw [upd_same] at e ⊢; exact e
  · rw [upd_ne hb] at e ⊢; exact s b u e
theorem upd_id {D : Addr} {o : HO} (h : H D = some o) : upd H D o = H := by
  funext b
  by_cases hb : b = D
  · subst hb; rw [upd_same, h]
  · rw [upd_ne hb]
/-- what holds of y in the heap behind, whatever the list in the making (which the heap ahead, H, does not know, and H1 does) holds -/
def Off (H H1 H2 : Hp) (B : V → Hp → Prop) (y : V) : Prop := ∀ D o, H D = none → H1 D ≠ none → B y (L2.upd H2 D o)
theorem off_old {H1 H2 : Hp} {B : V → Hp → Prop} {y : V} (hB : ∀ x H H', Same H H' → B x H → B x H') (s : Same H H2) (h : B y H) : Off H H1 H2 B y :=
  fun D o hD _ => hB _ _ _ (sMut s hD) h
theorem off_any {H1 H2 : Hp} {B : V → Prop} {y : V} (h : B y) : Off H H1 H2 (fun y _ => B y) y := fun D o hD _ => h
/-- a comprehension over a list of things -/
theorem lcL {tl te : TE} {tt : TT} {vs : List Nat} {j : Nat} {Q : VK} {a : Addr} {xs : List V} {bs : List α} (A : α → V → Hp → Prop) (B : β → V → Hp → Prop) (f : α → Bool) (g : α → β)
    (htl : ∀ R : V → Hp → Prop, R (.ref a) H → tl σ H R) (hl : SqL K H a xs) (hA : Stays A) (hB : Stays B) (pr : Paired (fun b x => A b x H) bs xs) (hz : xs.length ≤ 10000)
    (hw : ∀ x, wipe ((wipe σ vs).set j (some x)) vs = wipe σ vs)
    (turn : ∀ b x H1 (R : Bool → Hp → Prop), b ∈ bs → A b x H → A b x H1 → Same H H1 → (∀ H2, Same H1 H2 → R (f b) H2) → tt ((wipe σ vs).set j (some x)) H1 R)
    (elem : ∀ b x H1 (R : VK), b ∈ bs → f b = true → A b x H → A b x H1 → Same H H1 → (∀ y H2, Same H1 H2 → Off H H1 H2 (B (g b)) y → R y H2) → te ((wipe σ vs).set j (some x)) H1 R)
    (fin : ∀ D ys H1, H D = none → Same H H1 → H1 D = some (.lst ys) → Paired (fun c y => B c y H1) ((bs.filter f).map g) ys → Q (.ref D) H1) :
    tLc (iList K tl) (gName j) tt te vs σ H Q := by
  have hlen := pair_len pr
  refine htl _ ⟨a, rfl, ⟨xs, hl⟩, fun D hD => ?_⟩
  refine lc_list (K := K) (a := a) (xs := xs) (fun i H1 => ∃ ys, H1 D = some (.lst ys) ∧ ys.length ≤ i ∧ Same H H1 ∧ ∀ o, Paired (fun c y => B c y (upd H1 D o)) (((bs.take i).filter f).map g) ys) ?_ ?_ ?_ ?_
  · exact ⟨[], upd_same, Nat.le_refl _, sNew hD, fun _ => .nil⟩
  · rintro i H1 hi ⟨ys, _, _, s, _⟩
    exact s.seq hl
  · rintro i x H1 hx ⟨ys, hd, hy, s, pq⟩
    have hi : i < xs.length := (List.getElem?_eq_some_iff.mp hx).1
    obtain ⟨b, hb, hab⟩ := pair_get pr hx
    have mem : b ∈ bs := List.mem_of_getElem? hb
    have tk : bs.take (i + 1) = bs.take i ++ [b] := take_succ hb
    show wipe ((wipe σ vs).set j (some x)) vs = wipe σ vs ∧ _
    refine ⟨hw x, turn b x H1 _ mem hab (hA _ _ _ _ s hab) s fun H2 s2 => ?_⟩
    cases hf : f b with
    | false =>
      rw [if_neg Bool.false_ne_true]
      refine ⟨ys, s2 _ _ hd, by omega, s.trans s2, fun o => ?_⟩
      rw [tk, List.filter_append, List.filter_cons_of_neg (by simp [hf]), List.filter_nil, List.append_nil]
      exact pair_imp (fun c y => hB c y _ _ (sUpd s2)) (pq o)
    | true =>
      rw [if_pos rfl]
      refine elem b x H2 _ mem hf hab (hA _ _ _ _ (s.trans s2) hab) (s.trans s2) fun y H3 s3 hy3 => ?_
      have hd3 := s3 _ _ (s2 _ _ hd)
      have s4 : Same H H3 := (s.trans s2).trans s3
      refine ⟨ys, hd3, szl (by omega), ys ++ [y], upd_same, by rw [List.length_append]; simp; omega, sMut s4 hD, fun o => ?_⟩
      rw [tk, List.filter_append, List.filter_cons_of_pos (by simp [hf]), List.filter_nil, List.map_append, upd_upd]
      exact (pair_imp (fun c z h => hB c z _ _ (sUpd (s2.trans s3)) h) (pq o)).snoc (hy3 D o hD (by rw [s2 _ _ hd]; simp))
  · rintro H1 ⟨ys, hd, hy, s, pq⟩
    refine fin D ys H1 hD s hd ?_
    have pq := pq (.lst ys)
    rw [← hlen, List.take_length, upd_id hd] at pq
    exact pq
end
end Rd
namespace Rd
open PySem.Spec PyProof.Rows
section
variable {K : PySem.W.Frag} {σ : L2.St} {H H' : Hp} {Q : VK} {D : Ends} {z : Str}
/-! ### comprehensions and loops over ranges -/
def LcGo (J : It) (g : TG) (tt : TT) (te : TE) (vs : List Nat) (σ : L2.St) (Q : VK) (H1 : Hp) : Prop := ∀ D, H1 D = none → ∃ W : Nat → Nat → Hp → Prop, (∃ m, W 0 m (upd H1 D (.lst []))) ∧ ∀ i m H, W i m H →
  (J.stop i H ∧ Q (.ref D) H) ∨ (J.go i H ∧ ∃ Nx : Hp → Prop, (∀ H', Nx H' → ∃ m', m' < m ∧ W (i + 1) m' H') ∧ ∀ x H', J.yld i H x H' → g x (wipe σ vs) H' fun σ2 H2 => wipe σ2 vs = wipe σ vs ∧ tt σ2 H2 fun b H3 =>
    if b = true then te σ2 H3 fun y H4 => ∃ acc, H4 D = some (.lst acc) ∧ acc.length < sizeLine ∧ Nx (upd H4 D (.lst (acc ++ [y]))) else Nx H3)
theorem lcR {ta : TA} {g : TG} {tt : TT} {te : TE} {vs : List Nat} (k : ta σ H fun xs H1 => ∃ j : Int, xs = [.int j] ∧ -(2 ^ 62) ≤ j ∧ j < 2 ^ 62 ∧ LcGo (Itr 0 j.toNat) g tt te vs σ Q H1) : tLc (iRng1 ta) g tt te vs σ H Q := k
theorem rng {i : Int} {R : Prop} (h0 : 0 ≤ i) (h1 : i ≤ 100000) (k : R) : -(2 ^ 62) ≤ i ∧ i < 2 ^ 62 ∧ R := ⟨by omega, by omega, k⟩
/-- no test; each turn adds one thing -/
theorem goR {n j : Nat} {te : TE} {vs : List Nat} (Pv : Addr → Nat → List V → Hp → Prop) (h0 : ∀ D, H D = none → Pv D 0 [] (upd H D (.lst []))) (hw : ∀ x, wipe ((wipe σ vs).set j (some x)) vs = wipe σ vs) (hn : n ≤ 100000)
    (turn : ∀ D i acc H1, H D = none → i < n → acc.length = i → H1 D = some (.lst acc) → Pv D i acc H1 → ∀ R : VK, (∀ y H2, H2 D = some (.lst acc) → Pv D (i + 1) (acc ++ [y]) (upd H2 D (.lst (acc ++ [y]))) → R y H2) → te ((wipe σ vs).set j (some (.int (i : Int)))) H1 R)
    (fin : ∀ D acc H1, H D = none → acc.length = n → H1 D = some (.lst acc) → Pv D n acc H1 → Q (.ref D) H1) : LcGo (Itr 0 n) (gName j) tYes te vs σ Q H := by
  intro D hD
  refine lc_range (lo := 0) (n := n) (fun i H1 => ∃ acc, acc.length = i ∧ H1 D = some (.lst acc) ∧ Pv D i acc H1) ⟨[], rfl, upd_same, h0 D hD⟩ ?_ ?_
  · rintro i H1 hi ⟨acc, ha, hd, p⟩
    have e0 : (0 : Int) + (i : Int) = (i : Int) := Int.zero_add _
    rw [e0]
    refine ⟨hw _, ?_⟩
    refine turn D i acc H1 hD hi ha hd p _ fun y H2 h1 h2 => ?_
    exact ⟨acc, h1, szl (by omega), acc ++ [y], by simp [ha], upd_same, h2⟩
  · rintro H1 ⟨acc, ha, hd, p⟩
    exact fin D acc H1 hD ha hd p
def ForGo (J : It) (g : TG) (tb : TS) (D : Ends) (σ : L2.St) (H1 : Hp) : Prop := ∃ W : Nat → Nat → L2.St → Hp → Prop, (∃ m, W 0 m σ H1) ∧ ∀ i m σ H, W i m σ H →
  (J.stop i H ∧ D.nx σ H) ∨ (J.go i H ∧ ∃ N : L2.St → Hp → Prop, (∀ σ' H', N σ' H' → ∃ m', m' < m ∧ W (i + 1) m' σ' H') ∧ ∀ x H', J.yld i H x H' → g x σ H' fun σ2 H2 => tb { D with nx := N, ct := N, bk := D.nx } σ2 H2)
theorem forR {ta : TA} {g : TG} {tb : TS} (k : ta σ H fun xs H1 => ∃ j : Int, xs = [.int j] ∧ -(2 ^ 62) ≤ j ∧ j < 2 ^ 62 ∧ ForGo (Itr 0 j.toNat) g tb D σ H1) : tFor (iRng1 ta) g tb D σ H := k
theorem forGo {n j : Nat} {tb : TS} (Pv : Nat → L2.St → Hp → Prop) (h0 : Pv 0 σ H)
    (turn : ∀ i σ1 H1, i < n → Pv i σ1 H1 → tb { D with nx := Pv (i + 1), ct := Pv (i + 1), bk := D.nx } (σ1.set j (some (.int (i : Int)))) H1) (fin : ∀ σ1 H1, Pv n σ1 H1 → D.nx σ1 H1) : ForGo (Itr 0 n) (gName j) tb D σ H :=
  for_range (lo := 0) (n := n) Pv h0 (fun i σ1 H1 hi p => by
    show tb _ (σ1.set j (some (.int (0 + (i : Int))))) H1
    rw [Int.zero_add]
    exact turn i σ1 H1 hi p) fin
theorem adds {a b : Str} {R : Str → Str → Prop} (h : a.length + b.length ≤ 100000) (k : R a b) : ∃ i j, V.str a = .str i ∧ V.str b = .str j ∧ i.length + j.length ≤ sizeLine ∧ R i j := ⟨a, b, rfl, rfl, sz h, k⟩
theorem gtup {n : Nat} {t : TGs} {a : Addr} {xs : List V} {QS : L2.St → Hp → Prop} (h : SqT K H a xs) (hl : xs.length = n) (k : t xs σ H QS) : gTup K n t (.ref a) σ H QS := ⟨a, xs, rfl, h, hl, k⟩
theorem gcons {v : V} {r : List V} {t : TG} {u : TGs} {QS : L2.St → Hp → Prop} (k : t v σ H fun σ' H' => u r σ' H' QS) : gCons t u (v :: r) σ H QS := ⟨v, r, rfl, k⟩
theorem gnil {QS : L2.St → Hp → Prop} (k : QS σ H) : gNil [] σ H QS := ⟨rfl, k⟩
theorem cut {t u : TS} (Mid : L2.St → Hp → Prop) (h1 : t { D with nx := Mid } σ H) (h2 : ∀ σ' H', Mid σ' H' → u D σ' H') : C8.tCut t u D σ H := ⟨Mid, h1, h2⟩
/-- a method of a text -/
theorem m1 {r : V → List V → Hp → VK → Prop} {to te : TE} (k : to σ H fun x H1 => (∃ a, x = .str a) ∧ te σ H1 fun y H2 => r x [y] H2 Q) : tM1 r to te σ H Q := k
theorem isStr {R : Prop} (k : R) : (∃ a, V.str z = .str a) ∧ R := ⟨⟨z, rfl⟩, k⟩
end
end Rd
namespace W6
open L2 TL
/-! ### texts with a bound -/
structure W (n : Nat) (w : Str) : Prop where
  len : w.length ≤ n
  low : ∀ c ∈ tl w, c < 1000
theorem tl_len (w : Str) : (tl w).length = w.length := by show w.cps.toList.length = w.cps.size; simp
theorem W.app {n m : Nat} {a b : Str} (ha : W n a) (hb : W m b) : W (n + m) (a ++ b) := by
  have e : tl (a ++ b) = tl a ++ tl b := by show (a.cps ++ b.cps).toList = _; simp
  refine ⟨?_, fun c hc => ?_⟩
  · rw [← tl_len, e, List.length_append, tl_len, tl_len]
    exact Nat.add_le_add ha.len hb.len
  · rw [e, List.mem_append] at hc
    exact hc.elim (ha.low c) (hb.low c)
theorem W.cut {n : Nat} {a : Str} (ha : W n a) (lo hi : Option Int) : W n (cutS a lo hi) :=
  ⟨Nat.le_trans (cutS_length a lo hi) ha.len, fun c hc => ha.low c (by
    have hc : c ∈ ((a.cps.toList.drop (HT.sIx a.length 0 lo)).take (HT.sIx a.length a.length hi - HT.sIx a.length 0 lo)) := by simpa [cutS] using hc
    exact List.mem_of_mem_drop (List.mem_of_mem_take hc))⟩
theorem joinL_nil : ∀ ps : List (List Nat), joinL [] ps = ps.flatten
  | [] => rfl
  | [p] => by simp [joinL]
  | p :: q :: r => by rw [joinL, joinL_nil (q :: r)]; simp
theorem W.join {cs : List Str} (h : ∀ c ∈ cs, W 1 c) : W cs.length (Txt.join "" cs) := by
  have e : tl (Txt.join "" cs) = (cs.map tl).flatten := by
    rw [join_eq, tl_join]
    exact joinL_nil _
  refine ⟨?_, fun c hc => ?_⟩
  · rw [← tl_len, e]
    clear e
    induction cs with
    | nil => simp
    | cons a cs ih =>
      rw [List.map_cons, List.flatten_cons, List.length_append, List.length_cons, tl_len]
      have := ih fun c hc => h c (List.mem_cons_of_mem _ hc)
      have := (h a List.mem_cons_self).len
      omega
  · rw [e, List.mem_flatten] at hc
    obtain ⟨l, hl, hc⟩ := hc
    obtain ⟨s, hs, rfl⟩ := List.mem_map.mp hl
    exact (h s hs).low c hc
theorem W.mono {n m : Nat} {a : Str} (h : W n a) (l : n ≤ m) : W m a := ⟨Nat.le_trans h.len l, h.low⟩
theorem W.sum {cs : List Str} (h : ∀ c ∈ cs, W 1 c) : (cs.map (·.length)).sum ≤ cs.length := by
  induction cs with
  | nil => exact Nat.le_refl _
  | cons a cs ih =>
    rw [List.map_cons, List.sum_cons, List.length_cons]
    have := ih fun c hc => h c (List.mem_cons_of_mem _ hc)
    have := (h a List.mem_cons_self).len
    omega
theorem W.sign {n : Nat} {z : Str} {i : Int} (h : W n z) (h0 : 0 ≤ i) (h1 : i < (z.length : Int)) : ∃ c, atI z.cps.toList i = some c ∧ W 1 ⟨#[c]⟩ := by
  have l : i.toNat < z.cps.toList.length := by
    have e : z.cps.toList.length = z.length := tl_len z
    omega
  refine ⟨z.cps.toList[i.toNat], Rd.atN h0 (List.getElem?_eq_getElem l), Nat.le_refl _, fun c hc => ?_⟩
  have e : c = z.cps.toList[i.toNat] := by simpa using hc
  rw [e]
  exact h.low _ (List.getElem_mem l)
end W6
local macro_rules | `(tactic| walk_at "look") => `(tactic| first
  | assumption
  | exact upd_same
  | exact SqL.of (by assumption)
  | exact SqL.of upd_same)
local macro_rules | `(tactic| walk_at "cond") => `(tactic| first | decide | (show _ ∨ _; right; split <;> decide) | (show _ ∧ _; constructor <;> omega) | (show _ ∨ _; left; constructor <;> omega) | (show _ ∨ _; right; constructor <;> omega) | (show _ ≠ _; omega) | (show _ < _; omega))
local macro_rules | `(tactic| walk_at "rd") => `(tactic| (with_reducible first
  | refine Rd.var rfl ?_ | refine Rd.cst ?_ | refine Rd.op ?_ | refine Rd.un ?_ | refine Rd.i0 ?_ | refine Rd.u1 ?_ | refine Rd.cons ?_ | refine Rd.nil ?_
  | refine Rd.seq ?_ | refine Rd.ifs ?_ | refine Rd.asg ?_ | refine Rd.gname ?_ | refine Rd.gsub ?_ | refine Rd.ret ?_ | refine Rd.retN ?_ | refine Rd.drop ?_ | refine Rd.next ?_
  | refine Rd.test ?_ | refine Rd.tb_ ?_ | refine Rd.not_ ?_ | refine Rd.or_ ?_ | refine Rd.and_ ?_ | refine Rd.orV ?_ | refine Rd.andV ?_ | refine Rd.notV ?_ | refine Rd.tif ?_ | refine Rd.yes ?_
  | refine Rd.cb ?_ | refine Rd.call ?_ | refine Rd.sl ?_ | refine Rd.noPart ?_ | refine Rd.part ?_ | refine Rd.int_ ?_ | refine Rd.bl_ ?_
  | refine Rd.eq rfl ?_ | refine Rd.ne rfl ?_ | refine Rd.lst ?_ | refine Rd.tup ?_ | refine Rd.par ?_ | refine Rd.bm ?_ | refine Rd.bm0 ?_ | refine Rd.m1 ?_ | refine Rd.isStr ?_ | refine Rd.lcR ?_ | refine Rd.forR ?_ | refine Rd.gcons ?_ | refine Rd.gnil ?_
  | refine Rd.int1 ?_ | refine Rd.intB ?_ | refine Rd.two ?_ | refine Rd.one ?_ | refine Rd.andr ?_ | refine Rd.str_ ?_
  | (refine Rd.ic ?k1 ?_; (case k1 => with_unfolding_all walk_at "cond"))
  | (refine' Rd.ixL ?k1 ?k2 ?_; (case k1 => with_unfolding_all walk_at "look"); (case k2 => with_unfolding_all (first | rfl | exact Rd.at0)))
  | (refine' Rd.setL ?k1 ?k2 ?_; (case k1 => with_unfolding_all walk_at "look"); (case k2 => with_unfolding_all rfl))
  | (refine' Rd.lenL ?k1 ?_; (case k1 => with_unfolding_all walk_at "look"))
  | (refine' Rd.lenK ?k1 ?_; (case k1 => with_unfolding_all walk_at "look"))
  | refine Rd.tru ?_ | (refine' Rd.truL ?k1 ?_; (case k1 => with_unfolding_all walk_at "look"))))

namespace Ex
open PySem.Spec PyProof.Rows
/-! ### an own error with one field, f: def __init__(self, f): self.f = f -/
def spInit (C : Addr) (f : Str) : Sp := fun vs H Q _ => ∃ (a : Addr) (v : V), vs = [.ref a, v] ∧ H a = some (exo a C none) ∧ ∀ dx, H dx = none → dx ≠ a → Q .non (upd (upd H dx (exd dx [(f, v)])) a (exo a C (some dx)))
structure ErrC (K : PySem.W.Frag) (mg : Str → Option Value) (x f : Str) (C : Addr) : Prop where
  t : OexC K C
  xf : XfC K C
  ic : ExcC K C
  no : PySem.W.findIn K (.ref C) f = some none
  g : mg x = some (.ref C)
  te : PySem.W.exmOne K (.ref C) (.ref C) = some true
/-- its __init__ as a def that keeps its promise -/
def InitOk (P : Program) (w : World) (K : PySem.W.Frag) (mg : Str → Option Value) (base : Heap) (f : Str) (C : Addr) : Prop :=
  ∃ (fI : Addr) (fd : FuncData), PySem.W.findIn K (.ref C) "__init__" = some (some (.ref fI)) ∧ PySem.W.typeIn K (.ref fI) = some (.type "function") ∧ FnOk P w K mg base CX0 1 fI fd ["self", f] (spInit C f) ∧ Binds K fd ["self", f] []
theorem made_heap {H : Hp} {a d : Addr} {f : Str} {v : V} {C : Addr} (ha : H a = none) (hda : d ≠ a) :
    upd (L2.del (upd (upd (upd H a (exo a C none)) d (exd d [(f, v)])) a (exo a C (some d))) a) d (.xd [(f, v)]) = upd H d (.xd [(f, v)]) := by
  funext b
  by_cases hb : b = d
  · subst hb; rw [upd_same, upd_same]
  · rw [upd_ne hb, upd_ne hb]
    by_cases hba : b = a
    · subst hba; rw [del_same, ha]
    · rw [del_ne hba, upd_ne hba, upd_ne hb, upd_ne hba]
section
variable {X : Cx} {σ : L2.St} {H : Hp}
theorem pmkE {x f : Str} {C : Addr} {k : Nat} {e : Expr} {es : List Expr} {p pos : Pos} {ta : TA} (T : ErrC X.K X.mg x f C) (M : InitOk X.prog X.w X.K X.mg X.base f C) (hr : Room k X.A) (hk : 2 ≤ k) (ha : PA X (e :: es) ta) (hg : Gl X x := by rfl)
    (hdb : (x == ("__debug__" : Str)) = false := by decide) (he : starEach (e :: es) X.env = (false, eval e X.env) :: starEach es X.env := by rfl) (hpl : (backTo pos (starEach es X.env)).any (·.1) = false := by rfl) :
    PMk X (.Call (.Name x p) (e :: es) [] pos) (tMkO C (spInit C f) [] ta) := by
  obtain ⟨fI, fd, iC, tI, F, hb⟩ := M
  exact pmk_oex T.t iC tI F (hr.mono hk) hb .nil pass0 hg T.g ha hdb he hpl
theorem mk {C : Addr} {sp : Sp} {dvs : List V} {ta : TA} {Q : XK} (k : ta σ H fun vs H1 => vs.length ≤ 1000 ∧ ∀ a, H1 a = none → sp (.ref a :: (vs ++ dvs)) (upd H1 a (exo a C none)) (fun v H2 => v = .non ∧ ∃ (d : Addr) (fs : List (Str × V)), H2 a = some (exo a C (some d)) ∧ H2 d = some (exd d fs) ∧ H1 d = none ∧ Q (.ref C) (some d) (upd (L2.del (H2) a) d (.xd fs))) (fun _ _ _ => False)) :
    tMkO C sp dvs ta σ H Q := k
theorem made {C : Addr} {f : Str} {v : V} {Q : XK} (h : ∀ d, H d = none → Q (.ref C) (some d) (upd H d (.xd [(f, v)]))) :
    [v].length ≤ 1000 ∧ ∀ a, H a = none → spInit C f (.ref a :: ([v] ++ [])) (upd H a (exo a C none)) (fun u H2 => u = .non ∧ ∃ (d : Addr) (fs : List (Str × V)), H2 a = some (exo a C (some d)) ∧ H2 d = some (exd d fs) ∧ H d = none ∧ Q (.ref C) (some d) (upd (L2.del H2 a) d (.xd fs))) (fun _ _ _ => False) := by
  refine ⟨by simp, fun a ha => ⟨a, v, rfl, upd_same, fun d hd hda => ⟨rfl, d, [(f, v)], upd_same, ?_, ?_, ?_⟩⟩⟩
  · rw [upd_ne hda, upd_same]
  · rw [upd_ne hda] at hd; exact hd
  · rw [upd_ne hda] at hd
    rw [made_heap ha hda]
    exact h d hd
end
/-! ### defs that may raise -/
def CalX (P : Program) (w : World) (K : PySem.W.Frag) (mg : Str → Option Value) (base : Heap) (k : Nat) (x : Str) (sp : Sp) : Prop :=
  ∃ (f : Addr) (fd : FuncData) (ps : List Str), FnG P w K mg base (L2.CX P w) k f fd ps sp ∧ mg x = some (.ref f) ∧ PySem.W.keepIn K (.ref f) = true ∧ Binds K fd ps []
section
variable {P : Program} {w : World} {K : PySem.W.Frag} {mg : Str → Option Value} {base : Heap}
theorem byX {x : Str} {st : Stmt} {ps N : List Str} {k : Nat} {sp : Sp} (D : DefAt K mg x st ps) (S : FnScope N ps (defScope st)) (len : ∀ vs H Q E, sp vs H Q E → vs.length = ps.length)
    (inner : ∀ (f : Addr) (cd : Value) (A : Around), A.guards = some [] → ∀ (outer : List Env) (s : Shared) (H : Hp) (vs : List V) (Q : VK) (E : XK),
      Room k (A.deeper (envOfC x (defScope st) s.heap.objs.size f cd)) → sp vs H Q E →
      ∃ t, PSs (cxOf (L2.CX P w) P w K mg base N x (defScope st) f cd A outer s H E) (defBody st) t ∧ t { nx := fun _ H' => Q .non H', rt := Q } (start N vs) H) :
    CalX P w K mg base (k + 1) x sp := by
  obtain ⟨f, fd, hm, F, hb⟩ := D
  exact ⟨f, fd, ps, defG F S len (inner f), hm, F.kp, hb⟩
end
section
variable {X : Cx} {k j : Nat} {sp : Sp} {x : Str} {p pos : Pos} {e : Expr} {es : List Expr} {t : TA}
/-- called in a def that lets the same out -/
theorem pe_x {E : XK} (c : CalX X.prog X.w X.K X.mg X.base k x sp) (g : X.A.guards = some []) (hr : Room j X.A) (hk : k ≤ j) (tk : Takes X fun cls d _ H => E cls d H) (ha : PA X (e :: es) t) (hg : Gl X x := by rfl)
    (hdb : (x == ("__debug__" : Str)) = false := by decide) (he : starEach (e :: es) X.env = (false, eval e X.env) :: starEach es X.env := by rfl)
    (hpl : (backTo pos (starEach es X.env)).any (·.1) = false := by rfl) : PE X (.Call (.Name x p) (e :: es) [] pos) (tCall sp [] E t) := by
  obtain ⟨f, fd, ps, F, hm, hkp, hb⟩ := c
  exact pe_callG F g (hr.mono hk) hg hm hkp hb .nil (passes_call tk fun _ _ _ _ h => h) ha hdb he hpl
/-- called where nothing is raised -/
theorem pe_x0 (c : CalX X.prog X.w X.K X.mg X.base k x sp) (g : X.A.guards = some []) (hr : Room j X.A) (hk : k ≤ j) (ha : PA X (e :: es) t) (hg : Gl X x := by rfl)
    (hdb : (x == ("__debug__" : Str)) = false := by decide) (he : starEach (e :: es) X.env = (false, eval e X.env) :: starEach es X.env := by rfl)
    (hpl : (backTo pos (starEach es X.env)).any (·.1) = false := by rfl) : PE X (.Call (.Name x p) (e :: es) [] pos) (tCall sp [] E0 t) := by
  obtain ⟨f, fd, ps, F, hm, hkp, hb⟩ := c
  refine pe_callG F g (hr.mono hk) hg hm hkp hb .nil (fun pins σ H s u s' I z => ?_) ha hdb he hpl
  obtain ⟨_, _, _, _, _, _, _, _, _, _, _, _, z⟩ := z
  exact z.elim
/-- called in a try -/
theorem pe_xS {W : WX} (c : CalX X.prog X.w X.K X.mg X.base k x sp) (g : X.A.guards = some []) (hr : Room j X.A) (hk : k ≤ j) (tk : Takes X W) (ha : PA X (e :: es) t) (hg : Gl X x := by rfl)
    (hdb : (x == ("__debug__" : Str)) = false := by decide) (he : starEach (e :: es) X.env = (false, eval e X.env) :: starEach es X.env := by rfl)
    (hpl : (backTo pos (starEach es X.env)).any (·.1) = false := by rfl) : PE X (.Call (.Name x p) (e :: es) [] pos) (tCallS sp (WE W) t) := by
  obtain ⟨f, fd, ps, F, hm, hkp, hb⟩ := c
  refine ⟨fun pins s σ H Q I h => wpAny_Call_Name_kw (ld_glob I hg hm ?_ hdb)⟩
  refine PySem.W.callWith_K (h₀ := X.base) I.ok.mod.kin hkp (thn (ha.run pos pins s σ H _ I h) ?_) he hpl
  rintro us s1 ⟨vs, H1, I1, r, q⟩
  refine ⟨I1.kIn, ?_⟩
  have lens : us.length = ps.length := (r.length).symm.trans (F.len _ _ _ _ q)
  have body := F.go X.A g X.stack s1 H1 ⟨us, []⟩ us vs Q (WE W σ) (hr.mono hk) I1.env0 (by simpa using hb s1 us I1.kIn (by simpa using lens)) r q
  refine wpAny_call (codeAny_mono body ?_)
  intro res s' hres
  match res, hres with
  | .error e, z => exact passAt tk σ pins H1 s1 e s' I1 z
  | .ok (.ret u), z => exact I1.after z
  | .ok .next, z => exact z.elim
  | .ok .brk, z => exact z.elim
  | .ok .cont, z => exact z.elim
end
end Ex
namespace PySem.W
open PySem PySem.Calls PyProof.Rows
theorem clsIn_obj {K : Frag} {D : Addr} (h : hasDictIn K D = true) : ∃ c d cd sl, K.lookup D = some ⟨c, d, .cls cd, sl⟩ := by
  obtain ⟨cd, hc, _⟩ := any_some h
  unfold clsIn at hc
  split at hc
  · rename_i c d cd' sl ho
    exact ⟨c, d, cd', sl, ho⟩
  · cases hc
/-- an instance of an own exception class, with whatever dict, as isinstance asks it -/
theorem kitxD {K : Frag} {x D : Addr} {ox : Obj} {od : Option Obj} (C : L2.ExcC K D) : KitX K (.ref x) (.ref D) (fun h => InstAt h x ox D od) where
  ty := fun _ _ _ I => I.type
  it := fun _ _ X _ => by
    obtain ⟨c, d, cd, sl, ho⟩ := clsIn_obj C.hd
    intro A' Q' E' s' k q
    unfold isType loadHead
    exact wpAny_bind (wpAny_loadPart (k _ _ (X _ _ ho)) (wpAny_pure q))
  ne := fun h tp dd its n sl X htp => by
    obtain ⟨c, d, cd, sl', ho⟩ := clsIn_obj C.hd
    cases e : (Value.ref D == .ref tp) with
    | false => rfl
    | true =>
      obtain rfl : D = tp := Value.ref.inj (beq_iff_eq.mp e)
      have z := (X _ _ ho).symm.trans htp
      cases z
  ca := fun X I k => kx_classE X I C.hg C.hk C.hs (findObj_dataE (by obtain ⟨cd, hc, _⟩ := any_some C.hd; rw [hc]; rfl) C.ha C.hn C.ht) C.hm k
end PySem.W
namespace Ex
open PySem.Spec PyProof.Rows
/-- isinstance(e, c), e the exception that the suite holds, with its dict -/
def rIsD (K : PySem.W.Frag) (C a : Addr) (cls : Value) (d : Option Addr) : List V → Hp → VK → Prop := fun xs H Q => ∃ (c : V) (cv : Value) (b : Bool) (dd : Addr) (fs : List (Str × V)), xs = [.ref a, c] ∧ ClsV c cv ∧ cls = .ref C ∧ d = some dd ∧ H dd = some (.xd fs) ∧ PySem.W.kitOne K (.ref C) cv = some b ∧ Q (.bl b) H
theorem call_isD {X : Cx} {a C : Addr} {oe : Obj} {cls : Value} {d : Option Addr} {pn : List (Addr × Obj)} (T : ExcC X.K C) (hz : Zc cls d oe) (hf : ∃ vs, oe.data = .fields vs) : CallR (X.suite a ((a, oe) :: pn)) (.builtin "isinstance") (rIsD X.K C a cls d) := by
  intro pins s σ H xs us Q I r h
  obtain ⟨c, cv, b, dd, fs, rfl, kc, ec, ed, ea, e, q⟩ := h
  obtain ⟨u, t, rfl, ru, rt⟩ := vals2 r
  obtain rfl : u = Value.ref a := ru
  obtain rfl := kc.eq rt
  subst ec ed
  obtain ⟨hget, _⟩ := I.pin (a, oe) (List.mem_append.mpr (.inl List.mem_cons_self))
  obtain ⟨vs, hv⟩ := hf
  have hx : ObjOk X.prog X.w H s.heap dd (.xd fs) := I.hok dd _ ea
  obtain ⟨mA, hns, hr⟩ := hx
  obtain ⟨od, ho, hl⟩ := lookIn_ns hns
  have J : PySem.W.InstAt s.heap a oe C (some od) := ⟨hget, hz.1, by unfold PySem.W.notCls; rw [hv] <;> rfl, by rw [hz.2]; exact ho⟩
  exact PySem.W.kia_one (PySem.W.kitxD T) I.kIn J e (fun z => nomatch z) fun tk => ⟨.bl b, H, I.kept (t' := tk) fun _ _ z => z, rfl, q⟩
end Ex
namespace Gk
open PySem.Spec PyProof.Rows
section
variable {X : Cx}
def rReprX (K : PySem.W.Frag) : List V → Hp → VK → Prop := fun xs H Q => rRepr K xs H Q ∨ ∃ p, xs = [.ref p] ∧ H p = some (.dK []) ∧ Q (.str "{}") H
theorem call_reprX (hg : X.A.guards = some []) (hu : X.A.units + 64 < cLine) : CallR X (.builtin "repr") (rReprX X.K) := by
  intro pins s σ H xs us Q I r h
  rcases h with h | ⟨p, rfl, hp, q⟩
  · exact call_reprD hg hu pins s σ H xs us Q I r h
  · obtain ⟨u, rfl, ru⟩ := vals1 r
    obtain rfl : u = Value.ref p := ru
    obtain ⟨_, ns, vs, kv, dof⟩ := dk_of I.hok hp
    obtain rfl : vs = [] := by cases kv; rfl
    obtain ⟨o, es, ep, h1, h2, h3, _, h4, _⟩ := dof
    have he : es.toList = [] := by
      cases hz : es.toList with
      | nil => rfl
      | cons a l => rw [hz] at h4; cases h4
    have rd : Reads s.heap (.ref p) (.dict []) (p :: [] ++ []) := .dict h1 h2.1 h3 (by rw [he]; exact .nil) (by rw [he]; exact .nil)
    have e : (PyData.dict []).shown = "{}" := by decide +kernel
    have out : ∀ h' u' tk, (∀ b o, s.heap.get? b = some o → h'.get? b = some o) → EP X pins σ Q (.str (PyData.dict []).shown u') { s with heap := h', toks := tk } :=
      fun h' u' tk hk => ⟨.str "{}", H, I.kept hk, ⟨u', by rw [e]⟩, q⟩
    refine repr_of_reads' rd (by rfl) (fun _ m => ?_) hg (by show _ + (PyData.depth (.dict []) + 1) < _; have : PyData.depth (.dict []) = 1 := rfl; omega) (fun _ _ z => z) out (by rw [e]; decide +kernel)
    have : sysModules = p := by simpa using m
    rw [← this] at ns
    simp at ns
end
end Gk
namespace Gk
open PySem.Spec PyProof.Rows
section
variable {X : Cx} {k j : Nat} {sp : Sp} {x : Str} {p pos : Pos}
/-- a def without arguments -/
theorem pe_cG0 (c : CalG X.prog X.w X.K X.mg X.base k x sp) (g : X.A.guards = some []) (hr : Room j X.A) (hk : k ≤ j) (hg : Gl X x := by rfl) (hdb : (x == ("__debug__" : Str)) = false := by decide) :
    PE X (.Call (.Name x p) [] [] pos) (tCall sp [] E0 tNil) := by
  obtain ⟨f, fd, ps, F, hm, hkp, hb⟩ := c
  refine ⟨fun pins s σ H Q I h => wpAny_Call_Name_kw (ld_glob I hg hm ?_ hdb)⟩
  exact PySem.W.callWith_K0 I.kIn hkp (runG (us := []) F g (hr.mono hk) hb .nil pass0 I .nil h)
end
end Gk
namespace Ob
open PySem.Spec PyProof.Rows
/-! ### own classes: defs that keep their promise where no container is being shown -/
section
variable {X : Cx} {CX : CXT} {k : Nat} {f C : Addr} {fd : FuncData} {ps : List Str} {sp : Sp} {E : XK}
/-- nothing is raised there -/
theorem px0 : Passes (L2.CX X.prog X.w) X E0 := fun pins σ H s u s' I z => by
  obtain ⟨_, _, _, _, _, _, _, _, _, _, _, _, z⟩ := z
  exact z.elim
/-- the same goes out -/
theorem pxE {E : XK} (tk : Takes X fun cls d _ H => E cls d H) : Passes (L2.CX X.prog X.w) X E := passes_call tk fun _ _ _ _ h => h
theorem flow {pins : List (Addr × Obj)} {σ : L2.St} {H : Hp} {s : Shared} {Q : VK} {r : Result} {s' : Shared} (hx : Passes CX X E) (I : Inv X pins σ H s) (h : CR CX X.stack X.prog X.w H s Q E r s') : wants (EP X pins σ Q) X.xe r s' := by
  match r, h with
  | .error e, z => exact hx pins σ H s e s' I z
  | .ok (.ret u), z => exact I.after z
  | .ok .next, z => exact z.elim
  | .ok .brk, z => exact z.elim
  | .ok .cont, z => exact z.elim
/-- the call of such a def, A somewhere at this body or one step further in -/
theorem goG {A : Around} {H : Hp} {s : Shared} {Q : VK} {us : List Value} {vs : List V} (F : FnG X.prog X.w X.K X.mg X.base CX k f fd ps sp) (g : A.guards = some []) (hr : Room k A)
    (e0 : Env0 X.prog X.w X.K X.mg X.base A X.stack s H) (kn : X.K.In s.heap) (hb : Binds X.K fd ps []) (r : Vals vs us) (h : sp vs H Q E) :
    codeAny (model X.prog X.w) A (.call (.ref f) ⟨us, []⟩) (CR CX X.stack X.prog X.w H s Q E) s := by
  have lens : (us ++ []).length = ps.length := by rw [List.append_nil]; exact (r.length).symm.trans (F.len _ _ _ _ h)
  have b := hb s us kn lens
  rw [List.append_nil] at b
  exact F.go A g X.stack s H ⟨us, []⟩ us vs Q E hr e0 b r h
/-- a method m of the class at C -/
def MCal (P : Program) (w : World) (K : PySem.W.Frag) (mg : Str → Option Value) (base : Heap) (CX : CXT) (C : Addr) (k : Nat) (m : Str) (sp : Sp) : Prop :=
  ∃ (f : Addr) (fd : FuncData) (ps : List Str), FnG P w K mg base CX k f fd ps sp ∧ Meth K C m f ∧ Binds K fd ps []
section
variable {j : Nat} {m : Str} {o e : Expr} {es : List Expr} {apos pos : Pos} {ta : TE} {t : TA}
theorem meth {pl : Sem Bool} (he : PE X o ta) (c : L2.Cls X.K C) (M : MCal X.prog X.w X.K X.mg X.base CX C k m sp) (g : X.A.guards = some []) (hr : Room j X.A) (hk : k ≤ j) (hx : Passes CX X E) (ha : PA X (e :: es) t)
    (hst : starEach (e :: es) X.env = (false, eval e X.env) :: starEach es X.env := by rfl) (hpl : (backTo pos (starEach es X.env)).any (·.1) = false := by rfl)
    (ht : eval (.Call (.Attribute o m apos) (e :: es) [] pos) X.env = (do
      let ov ← eval o X.env
      standAt apos.atName
      let (f, first) ← holding [ov] (getMethod ov m pl)
      callWith pos f first (backTo pos (starEach (e :: es) X.env)) (backToKw pos (keywordEach [] X.env))) := by rfl) : PE X (.Call (.Attribute o m apos) (e :: es) [] pos) (tMeth C m sp [] E ta t) := by
  obtain ⟨f, fd, ps, F, hm, hb⟩ := M
  refine ⟨fun pins s σ H Q I h => PySem.W.methodCall_KW (pl := pl) (thn (he.run pins s σ H _ I h) fun u s1 ⟨x, H1, I1, rx, a, dx, fs, ex, ea, l, q⟩ => ?_) ht⟩
  subst ex
  obtain rfl : u = Value.ref a := rx
  refine getmeth_ok I1 ea c hm l (PySem.W.callWith_K (first := [.ref a]) (h₀ := X.base) I.ok.mod.kin hm.kp (thn (ha.run pos pins s1 σ H1 _ I1 q) fun us s2 ⟨vs, H2, I2, r, q2⟩ => ⟨I2.kIn, wpAny_call ?_⟩) hst hpl)
  have q2 : sp (V.ref a :: (vs ++ [])) H2 Q E := q2
  rw [List.append_nil] at q2
  exact codeAny_mono (goG F g (hr.mono hk) I2.env0 I2.kIn hb (.cons (show RelV (.ref a) (.ref a) from rfl) r) q2) fun r s' z => flow hx I2 z
theorem meth0 {pl : Sem Bool} (he : PE X o ta) (c : L2.Cls X.K C) (M : MCal X.prog X.w X.K X.mg X.base CX C k m sp) (g : X.A.guards = some []) (hr : Room j X.A) (hk : k ≤ j) (hx : Passes CX X E)
    (ht : eval (.Call (.Attribute o m apos) [] [] pos) X.env = (do
      let ov ← eval o X.env
      standAt apos.atName
      let (f, first) ← holding [ov] (getMethod ov m pl)
      callWith pos f first (backTo pos (starEach [] X.env)) (backToKw pos (keywordEach [] X.env))) := by rfl) : PE X (.Call (.Attribute o m apos) [] [] pos) (tMeth C m sp [] E ta tNil) := by
  obtain ⟨f, fd, ps, F, hm, hb⟩ := M
  refine ⟨fun pins s σ H Q I h => PySem.W.methodCall_KW (pl := pl) (thn (he.run pins s σ H _ I h) fun u s1 ⟨x, H1, I1, rx, a, dx, fs, ex, ea, l, q⟩ => ?_) ht⟩
  subst ex
  obtain rfl : u = Value.ref a := rx
  refine getmeth_ok I1 ea c hm l (PySem.W.callWith_K0 (first := [.ref a]) I1.kIn hm.kp (wpAny_call ?_))
  exact codeAny_mono (goG F g (hr.mono hk) I1.env0 I1.kIn hb (.cons (show RelV (.ref a) (.ref a) from rfl) .nil) q) fun r s' z => flow hx I1 z
end
/-- C() -/
def MkCal (P : Program) (w : World) (K : PySem.W.Frag) (mg : Str → Option Value) (base : Heap) (CX : CXT) (C : Addr) (k : Nat) (x : Str) (sp : Sp) : Prop :=
  ∃ (f : Addr) (fd : FuncData) (ps : List Str), FnG P w K mg base CX k f fd ps sp ∧ Mk K C f ∧ Binds K fd ps [] ∧ mg x = some (.ref C)
theorem guards_make {A : Around} {us : List Value} {kw : List (Str × Value)} : (A.under (.builtin "type.__call__" ⟨.ref C :: us, kw⟩)).guards = A.guards := by
  first
  | rfl
  | simp [Around.under, Code.isGuard, guardIds]
theorem runMk {pins : List (Addr × Obj)} {σ : L2.St} {H : Hp} {s : Shared} {Q : VK} {us : List Value} {vs : List V} (M : Mk X.K C f) (F : FnG X.prog X.w X.K X.mg X.base CX k f fd ps sp) (g : X.A.guards = some []) (hr : Room (k + 1) X.A) (hb : Binds X.K fd ps [])
    (hx : Passes CX X E) (I : Inv X pins σ H s) (r : Vals vs us)
    (h : ∀ x dx, H x = none → H dx = none → dx ≠ x → sp (.ref x :: (vs ++ [])) (upd (upd H dx (.own x)) x (.ins C dx [])) (fun v H2 => v = .non ∧ Q (.ref x) H2) E) :
    wpAny (model X.prog X.w) X.A (call (.ref C) us) (EP X pins σ Q) X.xe s := by
  have hq := h (s.heap.objs.size + 1) s.heap.objs.size (I.hok.fresh (Nat.le_succ _)) (I.hok.fresh (Nat.le_refl _)) (Nat.ne_of_lt (Nat.lt_succ_self _))
  rw [List.append_nil] at hq
  have I2 := Inv.made (C := C) I
  have run := goG F (A := X.A.under (.builtin "type.__call__" ⟨.ref C :: us, []⟩)) (guards_make.trans g) (hr.make C us []) (I2.env0.make C us []) I2.kIn hb (.cons (show RelV (.ref (s.heap.objs.size + 1)) (.ref (s.heap.objs.size + 1)) from rfl) r) hq
  refine wpAny_call (make_map (f := f) I.kIn M.makes M.init (beq_iff_eq.mp M.fn) (codeAny_mono run fun r s' hq' => ?_))
  match r, hq' with
  | .error e, z => exact hx pins σ _ _ e s' I2 z
  | .ok .next, z => exact z.elim
  | .ok .brk, z => exact z.elim
  | .ok .cont, z => exact z.elim
  | .ok (.ret u), z =>
    obtain ⟨v, H', I3, rv, ev, q3⟩ := I2.after z
    subst ev
    exact ⟨rv, ⟨V.ref (s.heap.objs.size + 1), H', I3, rfl, q3⟩⟩
section
variable {j : Nat} {x : Str} {e : Expr} {es : List Expr} {p pos : Pos} {t : TA}
theorem make (M : MkCal X.prog X.w X.K X.mg X.base CX C k x sp) (gd : X.A.guards = some []) (hr : Room j X.A) (hk : k + 1 ≤ j) (hx : Passes CX X E) (ha : PA X (e :: es) t) (hg : Gl X x := by rfl)
    (hdb : (x == ("__debug__" : Str)) = false := by decide) (he : starEach (e :: es) X.env = (false, eval e X.env) :: starEach es X.env := by rfl) (hpl : (backTo pos (starEach es X.env)).any (·.1) = false := by rfl) :
    PE X (.Call (.Name x p) (e :: es) [] pos) (tMake C sp [] E t) := by
  obtain ⟨f, fd, ps, F, M, hb, hm⟩ := M
  refine ⟨fun pins s σ H Q I h => wpAny_Call_Name_kw (ld_glob I hg hm ?_ hdb)⟩
  exact PySem.W.callWith_K (h₀ := X.base) I.ok.mod.kin M.kp (thn (ha.run pos pins s σ H _ I h) fun us s1 ⟨vs, H1, I1, r, q⟩ => ⟨I1.kIn, runMk M F gd (hr.mono hk) hb hx I1 r q⟩) he hpl
theorem make0 (M : MkCal X.prog X.w X.K X.mg X.base CX C k x sp) (gd : X.A.guards = some []) (hr : Room j X.A) (hk : k + 1 ≤ j) (hx : Passes CX X E) (hg : Gl X x := by rfl)
    (hdb : (x == ("__debug__" : Str)) = false := by decide) : PE X (.Call (.Name x p) [] [] pos) (tMake C sp [] E tNil) := by
  obtain ⟨f, fd, ps, F, M, hb, hm⟩ := M
  refine ⟨fun pins s σ H Q I h => wpAny_Call_Name_kw (ld_glob I hg hm ?_ hdb)⟩
  exact PySem.W.callWith_K0 I.kIn M.kp (runMk (us := []) M F gd (hr.mono hk) hb hx I .nil h)
end
/-- a property, read -/
def PCal (P : Program) (w : World) (K : PySem.W.Frag) (mg : Str → Option Value) (base : Heap) (CX : CXT) (C : Addr) (k : Nat) (m : Str) (sp : Sp) : Prop :=
  ∃ (p f : Addr) (fd : FuncData) (ps : List Str), FnG P w K mg base CX k f fd ps sp ∧ PropOf K C m p f ∧ Binds K fd ps []
theorem prop {m : Str} {e : Expr} {pos : Pos} {ta : TE} {j : Nat} (he : PE X e ta) (c : L2.Cls X.K C) (M : PCal X.prog X.w X.K X.mg X.base CX C k m sp) (g : X.A.guards = some []) (hr : Room j X.A) (hk : k + 1 ≤ j) (hx : Passes CX X.nox E)
    (hab : attributeBase e m X.env (eval e X.env) = eval e X.env := by rfl) : PE X (.Attribute e m pos) (tProp C sp [] E ta) := by
  obtain ⟨p, f, fd, ps, F, hp, hb⟩ := M
  refine ⟨fun pins s σ H Q I h => attr_of hab (thn (he.run pins s σ H _ I h) fun u s1 ⟨x, H1, I1, rx, a, dx, fs, ex, ea, q⟩ => ?_)⟩
  subst ex
  obtain rfl : u = Value.ref a := rx
  obtain ⟨mA, O, _, _, _, _⟩ := ins_get I1.hok ea
  obtain ⟨od, J, _⟩ := O.look
  obtain ⟨rest, hrec⟩ := hp.rec_
  have I3 := I1.tok (s1.toks + 1)
  have hc : (PySem.W.clsIn X.K C).isSome = true := by
    obtain ⟨cd, hc, _⟩ := PySem.W.any_some c.hd
    rw [hc]
    rfl
  refine PySem.W.get_bind I1.kIn J (PySem.W.plainGet_of (c.get m)).1 (PySem.W.findObj_data hc hp.at_ hp.get hp.tak) (PySem.W.plainGet_of (c.get m)).2 (wpAny_call (PySem.W.prop_get (s := { s1 with toks := s1.toks + 1 }) I1.kIn hrec ?_))
  refine codeAny_mono (goG F (A := X.A.in1) g (hr.mono hk).in1 I3.env0.in1 I3.kIn hb (.cons (show RelV (.ref a) (.ref a) from rfl) .nil) q) fun r s' z => ?_
  match r, z with
  | .error er, z => exact (show False from hx pins σ H1 { s1 with toks := s1.toks + 1 } er s' (I3.wish _) z).elim
  | .ok .next, z => exact z.elim
  | .ok .brk, z => exact z.elim
  | .ok .cont, z => exact z.elim
  | .ok (.ret u), z =>
    obtain ⟨v, H', I4, rv, q3⟩ := I3.after z
    show wpAny _ _ (handedOut u) _ _ _
    rw [PySem.W.handedOut_of (handed_of rv)]
    exact wpAny_pure ⟨v, H', I4, rv, q3⟩
/-! ### static methods, read off the class -/
structure CSta (K : PySem.W.Frag) (C : Addr) (mc : Value) (m : Str) (p g : Addr) : Prop where
  rd : PySem.W.readsIn K C mc = true
  ga : PySem.W.specialIn K (.ref C) "__getattribute__" = some (some (.builtin "type.__getattribute__"))
  at_ : PySem.W.findCls K (.ref C) mc m = some (.get (.builtin "staticmethod.__get__") (.ref p) .none (.ref C))
  rc : ∃ rest, PySem.W.recIn K p "staticmethod" = some (.ref g :: rest)
  kp : PySem.W.keepIn K (.ref g) = true
def SCal (P : Program) (w : World) (K : PySem.W.Frag) (mg : Str → Option Value) (base : Heap) (CX : CXT) (C : Addr) (k : Nat) (m : Str) (sp : Sp) : Prop :=
  ∃ (p f : Addr) (fd : FuncData) (ps : List Str) (mc : Value), FnG P w K mg base CX k f fd ps sp ∧ CSta K C mc m p f ∧ Binds K fd ps []
def tStat (C : Addr) (sp : Sp) (E : XK) (ta : TE) : TE := fun σ H Q => ta σ H fun x H1 => x = .ref C ∧ sp [] H1 Q E
theorem stat0 {m : Str} {o : Expr} {apos pos : Pos} {ta : TE} {j : Nat} {pl : Sem Bool} (he : PE X o ta) (M : SCal X.prog X.w X.K X.mg X.base CX C k m sp) (g : X.A.guards = some []) (hr : Room j X.A) (hk : k ≤ j) (hx : Passes CX X E)
    (ht : eval (.Call (.Attribute o m apos) [] [] pos) X.env = (do
      let ov ← eval o X.env
      standAt apos.atName
      let (f, first) ← holding [ov] (getMethod ov m pl)
      callWith pos f first (backTo pos (starEach [] X.env)) (backToKw pos (keywordEach [] X.env))) := by rfl) : PE X (.Call (.Attribute o m apos) [] [] pos) (tStat C sp E ta) := by
  obtain ⟨p, f, fd, ps, mc, F, cs, hb⟩ := M
  obtain ⟨rest, hp⟩ := cs.rc
  refine ⟨fun pins s σ H Q I h => PySem.W.methodCall_KW (pl := pl) (thn (he.run pins s σ H _ I h) fun u s1 ⟨x, H1, I1, rx, ex, q⟩ => ?_) ht⟩
  subst ex
  obtain rfl : u = Value.ref C := rx
  have I2 := I1.tok (s1.toks + 1)
  refine PySem.W.method_cls I1.kIn cs.ga (PySem.W.cls_bind I1.kIn cs.rd cs.at_ (wpAny_call (PySem.W.sm_get (s := { s1 with toks := s1.toks + 1 }) I1.kIn hp (PySem.W.handed_on rfl ?_))))
  refine PySem.W.callWith_K0 (first := []) I2.kIn cs.kp (wpAny_call ?_)
  exact codeAny_mono (goG F g (hr.mono hk) I2.env0 I2.kIn hb .nil q) fun r s' z => flow hx I2 z
end
end Ob
/-! special methods of own classes, called by signs: x[k], x[k] = v, len(x), ==, != -/
namespace Ow
open PySem.Spec PyProof.Rows PySem.W
/-- the method m of the class at C is the def at g -/
structure SpM (K : Frag) (C : Addr) (m : Str) (g : Addr) : Prop where
  at_ : findIn K (.ref C) m = some (some (.ref g))
  fn : typeIn K (.ref g) = some (.type "function")
/-- instances of the class at C are no deques -/
def NoDq (K : Frag) (C : Addr) : Prop := subIn K (.ref C) (.type "collections.deque") = some false
section
variable {prog : Program} {w : World} {A : Around} {E : Value → Shared → Prop} {s : Shared} {a C g : Addr} {K : Frag} {m : Str} {o : Obj}
theorem special (hk : K.In s.heap) (ho : s.heap.get? a = some o) (hc : o.cls = .ref C) (h : SpM K C m g) {args : List Value} {Q : Option Value → Shared → Prop}
    (k : wpAny (model prog w) A (call (.ref g) (.ref a :: args)) (fun v => Q (some v)) E s) : wpAny (model prog w) A (callSpecial? (.ref a) m args) Q E s := by
  unfold callSpecial? specialOf
  refine wpAny_bind (wpAny_bind (wpAny_typeOf_ref ho ?_))
  rw [hc]
  refine looks_findIn (M := model prog w) hk h.at_ A _ E s (fun _ _ e => e) ?_
  refine wpAny_holding ?_
  refine wpAny_bind (bind_fn (M := model prog w) hk (.ref a) h.fn A _ E s (fun _ _ e => e) ?_)
  exact wpAny_bind (wpAny_mono k (fun v s' q => wpAny_pure q) fun _ _ z => z)
theorem seqKey (hk : K.In s.heap) (ho : s.heap.get? a = some o) (hc : o.cls = .ref C) (hd : NoDq K C) {i : Value} {Q : Value → Shared → Prop} (q : Q i s) : wpAny (model prog w) A (sequenceKey (.ref a) i m) Q E s := by
  unfold sequenceKey
  refine wpAny_bind (wpAny_typeOf_ref ho ?_)
  rw [hc]
  show wpAny _ _ (List.anyM (fun n => isSubtype (.ref C) (.type n)) ["collections.deque"] >>= _) _ _ _
  refine wpAny_bind ?_
  show wpAny _ _ (isSubtype (.ref C) (.type "collections.deque") >>= _) _ _ _
  refine wpAny_bind (looks_subIn (M := model prog w) hk hd A _ E s (fun _ _ e => e) ?_)
  exact wpAny_pure (wpAny_pure q)
theorem get_own (hk : K.In s.heap) (ho : s.heap.get? a = some o) (hc : o.cls = .ref C) (hd : NoDq K C) (h : SpM K C "__getitem__" g) {i : Value} {Q : Value → Shared → Prop}
    (k : wpAny (model prog w) A (call (.ref g) [.ref a, i]) Q E s) : wpAny (model prog w) A (getItem (.ref a) i) Q E s := by
  unfold getItem
  refine wpAny_holding ?_
  refine wpAny_bind (seqKey hk ho hc hd ?_)
  refine wpAny_bind (special hk ho hc h ?_)
  exact wpAny_mono k (fun v s' q => wpAny_pure q) fun _ _ z => z
theorem set_own (hk : K.In s.heap) (ho : s.heap.get? a = some o) (hc : o.cls = .ref C) (hd : NoDq K C) (h : SpM K C "__setitem__" g) {i v : Value} {Q : Unit → Shared → Prop}
    (k : wpAny (model prog w) A (call (.ref g) [.ref a, i, v]) (fun _ => Q ()) E s) : wpAny (model prog w) A (setItem (.ref a) i v) Q E s := by
  unfold setItem
  refine wpAny_holding ?_
  refine wpAny_bind (seqKey hk ho hc hd ?_)
  refine wpAny_bind (special hk ho hc h ?_)
  exact wpAny_mono k (fun v s' q => wpAny_pure q) fun _ _ z => z
end
section
open L2
variable {X : Cx} {CX : CXT} {k : Nat} {g C : Addr} {fd : FuncData} {ps : List Str} {sp : Sp} {E : XK}
/-- a def called one step further in (by a built-in) -/
theorem runG1 {dvs : List V} {ds : List Value} {pins : List (Addr × Obj)} {σ : L2.St} {H : Hp} {s : Shared} {Q : VK} {us : List Value} {vs : List V} (F : FnG X.prog X.w X.K X.mg X.base CX k g fd ps sp) (gd : X.A.guards = some []) (hr : Room (k + 1) X.A)
    (hb : Binds X.K fd ps ds) (hd : Vals dvs ds) (hx : Passes CX X E) (I : Inv X pins σ H s) (r : Vals vs us) (h : sp (vs ++ dvs) H Q E) : wpAny (model X.prog X.w) X.A.in1 (call (.ref g) us) (EP X pins σ Q) X.xe s := by
  have rr := r.append hd
  have lens := (rr.length).symm.trans (F.len (vs ++ dvs) H Q E h)
  have body := F.go X.A.in1 gd X.stack s H ⟨us, []⟩ (us ++ ds) (vs ++ dvs) Q E hr.in1 I.env0.in1 (hb s us I.kIn lens) rr h
  refine wpAny_call (codeAny_mono body ?_)
  intro res s' hres
  match res, hres with
  | .error e, z => exact hx pins σ H s e s' I z
  | .ok (.ret u), z => exact I.after z
  | .ok .next, z => exact z.elim
  | .ok .brk, z => exact z.elim
  | .ok .cont, z => exact z.elim
/-- what a method called by a sign asks of its class -/
structure SpC (K : Frag) (C : Addr) (m : Str) (g : Addr) : Prop where
  sp : SpM K C m g
  dq : NoDq K C
  fi : fnIn K g = true
theorem instAt {pins : List (Addr × Obj)} {σ : L2.St} {H : Hp} {s : Shared} (I : Inv X pins σ H s) {a dx : Addr} {fs : List (Str × V)} (ha : H a = some (.ins C dx fs)) : ∃ od, W.InstAt s.heap a (W.instObj C dx) C (some od) := by
  obtain ⟨_, _, _, ho, mA, hns, _⟩ := I.hok a _ ha
  obtain ⟨od, hd, _⟩ := lookIn_ns hns
  exact ⟨od, ho, rfl, rfl, hd⟩
def tGetO (C : Addr) (sp : Sp) (E : XK) (ta tb : TE) : TE := fun σ H Q => ta σ H fun x H1 => tb σ H1 fun y H2 => ∃ a dx fs, x = .ref a ∧ H2 a = some (.ins C dx fs) ∧ sp [.ref a, y] H2 Q E
theorem pe_getO {a b : Expr} {ta tb : TE} {pos : Pos} (S : SpC X.K C "__getitem__" g) (F : FnG X.prog X.w X.K X.mg X.base CX k g fd ps sp) (gd : X.A.guards = some []) (hr : Room (k + 1) X.A) (hb : Binds X.K fd ps []) (hx : Passes CX X E) (ha : PE X a ta) (hb' : PE X b tb)
    (hs : ∀ (o i : Value), subscripted b true o i = runValue (.builtin "lifetime.subscript" ⟨[o, i], []⟩)) : PE X (.Subscript a b pos) (tGetO C sp E ta tb) := by
  refine ⟨fun pins s σ H Q I h => Subscript_ (binT ha hb' I h fun v u s2 x y H2 I2 rx ry q => ?_)⟩
  obtain ⟨p, dx, fs, rfl, hp, q⟩ := q
  obtain rfl : v = Value.ref p := rx
  obtain ⟨m, fr⟩ := I2.fr
  obtain ⟨od, J⟩ := instAt I2 hp
  have isf : isFn X.K (.ref g) = true := by show (typeIn X.K (.ref g) == some (.type "function")) = true; rw [S.sp.fn] <;> rfl
  exact sub_K fr I2.ok.mod.kin J S.sp.at_ S.fi isf (runG1 (dvs := []) F gd hr hb .nil hx I2 (.cons (show RelV (.ref p) (.ref p) from rfl) (.cons ry .nil)) q) (hs _ _)
def rSetO (C : Addr) (sp : Sp) (E : XK) : TSet := fun o i v H Q => ∃ a dx fs, o = .ref a ∧ H a = some (.ins C dx fs) ∧ sp [.ref a, i, v] H (fun _ H' => Q H') E
theorem set_ownR (S : SpC X.K C "__setitem__" g) (F : FnG X.prog X.w X.K X.mg X.base CX k g fd ps sp) (gd : X.A.guards = some []) (hr : Room k X.A) (hb : Binds X.K fd ps []) (hx : Passes CX X E) : PSet X (rSetO C sp E) := by
  intro pins s σ H o i v ov iv u Q I ro ri rv h
  obtain ⟨p, dx, fs, rfl, hp, q⟩ := h
  obtain rfl : ov = Value.ref p := ro
  obtain ⟨_, _, _, ho, _⟩ := I.hok p _ hp
  refine set_own I.kIn ho rfl S.dq S.sp ?_
  refine wpAny_mono (runG (dvs := []) F gd hr hb .nil hx I (.cons (show RelV (.ref p) (.ref p) from rfl) (.cons ri (.cons rv .nil))) q) ?_ (fun _ _ z => z)
  rintro r s' ⟨w, H', I', _, q'⟩
  exact ⟨H', I', q'⟩
end
end Ow
/-! == and != of an instance of an own class, by its own __eq__, and len by its own __len__ -/
namespace Ob
open PySem.Spec PyProof.Rows
section
variable {prog : Program} {w : World} {A : Around} {E : Value → Shared → Prop} {s : Shared} {K : PySem.W.Frag} {x C f L : Addr} {tb b : Value} {h₀ : Heap} {m : Str → Option Value} {ox : Obj} {od : Option Obj}
/-- the outcome of == as != asks it -/
def NeBack (Q : Value → Shared → Prop) (v : Value) (s' : Shared) : Prop := ∃ c : Bool, v = .bool c ∧ Q (.bool (!c)) s'
theorem ne_entry {Q : Fin → Shared → Prop} (hu : A.units < cLine) (X : K.In s.heap) (I : PySem.W.InstAt s.heap x ox C od) (hs : PySem.W.findIn K (.ref C) "__eq__" = some (some (.ref f))) (hf : PySem.W.isFn K (.ref f) = true)
    (h : wpAny (model prog w) A (call (.ref f) [.ref x, b]) (fun v s' => ∃ c : Bool, v = .bool c ∧ Q (.done (.ret (.bool (!c)))) s') E s) : wpAny (model prog w) A (Builtin.«object.__ne__» ⟨[.ref x, b], []⟩) Q E s := by
  unfold Builtin.«object.__ne__»
  refine wpAny_bind (wpAny_pure (wpAny_bind (wpAny_cRoomFor hu ?_)))
  refine wpAny_bind (PySem.W.ifBound_K X I hs hf (wpAny_mono h (fun v s' z => ?_) fun _ _ e => e))
  obtain ⟨c, rfl, q⟩ := z
  show wpAny _ _ (truthy (.bool c) >>= fun r => ret (.bool (!r))) _ _ _
  exact wpAny_bind (wpAny_truthy_bool (wpAny_pure q))
theorem ne_call {Q : Value → Shared → Prop} (hu : A.units + 1 < cLine) (X : K.In s.heap) (I : PySem.W.InstAt s.heap x ox C od) (hs : PySem.W.findIn K (.ref C) "__eq__" = some (some (.ref f))) (hf : PySem.W.isFn K (.ref f) = true) (hm : PySem.W.mroIn K C (.type "object") = some true)
    (h : wpAny (model prog w) A.in1 (call (.ref f) [.ref x, b]) (NeBack Q) E s) : wpAny (model prog w) A (call (.builtin "object.__ne__") [.ref x, b]) Q E s := by
  have sub : PySem.W.Looks (model prog w) s.heap (isInstance (.ref x) (.type "object")) true := I.type.andThen (PySem.W.looks_mroIn X hm)
  refine wpAny_call (codeAny_call_builtin F.cmp_object.ne.plain F.cmpEntry_ne (PySem.W.check_slot F.cmpKind_ne F.cmpSplit_ne sub (F.cmpArgs_ne _ _) ?_))
  exact ne_entry (A := A.in1) hu X I hs hf (wpAny_mono h (fun v s' z => z) fun _ _ e => e)
theorem ne_K {Q : Value → Shared → Prop} (hu : A.units + 1 < cLine) (X : K.In s.heap) (I : PySem.W.InstAt s.heap x ox C od) (hb : PySem.W.Looks (model prog w) s.heap (typeOf b) tb) (hn : PySem.W.notFirst K C tb = true)
    (hne : PySem.W.findIn K (.ref C) "__ne__" = some (some (.builtin "object.__ne__"))) (hs : PySem.W.findIn K (.ref C) "__eq__" = some (some (.ref f))) (hf : PySem.W.isFn K (.ref f) = true) (hm : PySem.W.mroIn K C (.type "object") = some true)
    (h : wpAny (model prog w) A.in1 (call (.ref f) [.ref x, b]) (NeBack Q) E s) : wpAny (model prog w) A (richCompare .NotEq (.ref x) b) Q E s := by
  have bnd : wpAny (model prog w) A (callSpecialIfBound? (.ref x) "__ne__" [b]) (fun r s' => ∃ c : Bool, r = some (.bool (!c)) ∧ Q (.bool (!c)) s') E s := by
    simp only [callSpecialIfBound?, bindSpecialIfBound?]
    refine wpAny_holding (wpAny_bind (wpAny_bind (wpAny_bind (I.type.here ((PySem.W.looks_findIn X hne).here ?_)))))
    simp only [F.cmp_object.ne.bind]
    refine wpAny_bind (wpAny_askSetting (wpAny_ite ?_))
    have fin : wpAny (model prog w) A (call (.builtin "object.__ne__") ([.ref x] ++ [b]) >>= fun v => pure (some v)) (fun r s' => ∃ c : Bool, r = some (.bool (!c)) ∧ Q (.bool (!c)) s') E s :=
      wpAny_bind (ne_call hu X I hs hf hm (wpAny_mono h (fun v s' ⟨c, e, q⟩ => ⟨c, e, wpAny_pure ⟨c, rfl, q⟩⟩) fun _ _ e => e))
    split
    · exact wpAny_bind (wpAny_pure (wpAny_pure fin))
    · exact wpAny_tryCatch (wpAny_bind (wpAny_pure (wpAny_pure fin)))
  have one : wpAny (model prog w) A (tryCompare (.ref x) "__ne__" b) (fun r s' => ∃ c : Bool, r = some (.bool (!c)) ∧ Q (.bool (!c)) s') E s := by
    unfold tryCompare
    refine wpAny_bind (wpAny_mono bnd (fun r s' z => ?_) fun _ _ e => e)
    obtain ⟨c, rfl, q⟩ := z
    exact wpAny_pure ⟨c, rfl, q⟩
  have hu0 : A.units < cLine := Nat.lt_of_succ_lt hu
  unfold richCompare
  simp only [oneThing_ref]
  refine wpAny_holding (wpAny_bind (wpAny_cRoomFor hu0 (wpAny_bind (I.type.here (wpAny_bind (hb.here ?_))))))
  split
  · rename_i q
    have e : PySem.W.subIn K tb (.ref C) = some false := (Bool.or_eq_true_iff.mp hn).elim (fun e => by rw [beq_iff_eq.mp e] at q; simp at q) (fun e => beq_iff_eq.mp e)
    refine wpAny_bind ((PySem.W.looks_subIn X e).here ?_)
    simp only [Bool.false_eq_true, if_false]
    refine wpAny_bind (wpAny_mono one (fun r s' z => ?_) fun _ _ e => e)
    obtain ⟨c, rfl, hq⟩ := z
    exact wpAny_pure hq
  · refine wpAny_bind (wpAny_pure ?_)
    simp only [Bool.false_eq_true, if_false]
    refine wpAny_bind (wpAny_mono one (fun r s' z => ?_) fun _ _ e => e)
    obtain ⟨c, rfl, hq⟩ := z
    exact wpAny_pure hq
end
section
variable {X : Cx} {CX : CXT} {k j : Nat} {C : Addr} {sp : Sp} {E : XK}
/-- the own == of the class at C -/
def EqCal (P : Program) (w : World) (K : PySem.W.Frag) (mg : Str → Option Value) (base : Heap) (CX : CXT) (C : Addr) (k : Nat) (sp : Sp) : Prop :=
  ∃ (f : Addr) (fd : FuncData) (ps : List Str), FnG P w K mg base CX k f fd ps sp ∧ PySem.W.findIn K (.ref C) "__eq__" = some (some (.ref f)) ∧ PySem.W.isFn K (.ref f) = true ∧ Binds K fd ps []
/-- what it promises must be a truth value -/
def rEqO (K : PySem.W.Frag) (C : Addr) (sp : Sp) (neg : Bool) : R2 := fun x y H Q => ∃ (a dx : Addr) (fs : List (Str × V)) (t : Value), x = .ref a ∧ H a = some (.ins C dx fs) ∧ TyX K H y t ∧ PySem.W.notFirst K C t = true ∧
  sp [.ref a, y] H (fun v H' => ∃ c : Bool, v = .bl c ∧ Q (.bl (if neg = true then !c else c)) H') E0
theorem op_eqO (M : EqCal X.prog X.w X.K X.mg X.base CX C k sp) (g : X.A.guards = some []) (hr : Room j X.A) (hk : k ≤ j) (hx : Passes CX X E0) : OpR X (compareOp .Eq) (rEqO X.K C sp false) := by
  obtain ⟨f, fd, ps, F, hs, hf, hb⟩ := M
  intro pins s σ H x y v u Q I rx ry h
  obtain ⟨a, dx, fs, t, rfl, ha, ty, hn, q⟩ := h
  obtain rfl : v = Value.ref a := rx
  obtain ⟨od, J⟩ := Ow.instAt I ha
  obtain ⟨m, hF⟩ := I.fr
  obtain ⟨Pk, Z, pk, _⟩ := kit_of I ry ty
  refine PySem.W.cmp_K (op := .Eq) (tb := t) hr.units0 hF I.ok.mod.kin J (Z.ty _ _ I.kIn pk) hn hs hf (wpAny_call (codeAny_mono (goG F g (hr.mono hk) I.env0 I.kIn hb (.cons (show RelV (.ref a) (.ref a) from rfl) (.cons ry .nil)) q) fun r s' z => ?_))
  match r, z with
  | .error er, z => exact hx pins σ H s er s' I z
  | .ok .next, z => exact z.elim
  | .ok .brk, z => exact z.elim
  | .ok .cont, z => exact z.elim
  | .ok (.ret u'), z =>
    obtain ⟨v, H', I', rv, c, rfl, q'⟩ := I.after z
    obtain rfl : u' = Value.bool c := rv
    exact ⟨.bl c, H', I', rfl, q'⟩
theorem op_neO (M : EqCal X.prog X.w X.K X.mg X.base CX C k sp) (hne : PySem.W.findIn X.K (.ref C) "__ne__" = some (some (.builtin "object.__ne__"))) (hm : PySem.W.mroIn X.K C (.type "object") = some true)
    (g : X.A.guards = some []) (hr : Room j X.A) (hk : k + 1 ≤ j) (hx : Passes CX X E0) : OpR X (compareOp .NotEq) (rEqO X.K C sp true) := by
  obtain ⟨f, fd, ps, F, hs, hf, hb⟩ := M
  intro pins s σ H x y v u Q I rx ry h
  obtain ⟨a, dx, fs, t, rfl, ha, ty, hn, q⟩ := h
  obtain rfl : v = Value.ref a := rx
  obtain ⟨od, J⟩ := Ow.instAt I ha
  obtain ⟨Pk, Z, pk, _⟩ := kit_of I ry ty
  refine ne_K (tb := t) (by have := hr.un; omega) I.kIn J (Z.ty _ _ I.kIn pk) hn hne hs hf hm (wpAny_call (codeAny_mono (goG F (A := X.A.in1) g (hr.mono hk).in1 I.env0.in1 I.kIn hb (.cons (show RelV (.ref a) (.ref a) from rfl) (.cons ry .nil)) q) fun r s' z => ?_))
  match r, z with
  | .error er, z => exact hx pins σ H s er s' I z
  | .ok .next, z => exact z.elim
  | .ok .brk, z => exact z.elim
  | .ok .cont, z => exact z.elim
  | .ok (.ret u'), z =>
    obtain ⟨v, H', I', rv, c, rfl, q'⟩ := I.after z
    obtain rfl : u' = Value.bool c := rv
    exact ⟨c, rfl, .bl (!c), H', I', rfl, q'⟩
/-- the own len -/
def LenCal (P : Program) (w : World) (K : PySem.W.Frag) (mg : Str → Option Value) (base : Heap) (CX : CXT) (C : Addr) (k : Nat) (sp : Sp) : Prop :=
  ∃ (f : Addr) (fd : FuncData) (ps : List Str), FnG P w K mg base CX k f fd ps sp ∧ PySem.W.findIn K (.ref C) "__len__" = some (some (.ref f)) ∧ PySem.W.isFn K (.ref f) = true ∧ Binds K fd ps []
def rLenO (C : Addr) (sp : Sp) : List V → Hp → VK → Prop := fun xs H Q => ∃ (a dx : Addr) (fs : List (Str × V)), xs = [.ref a] ∧ H a = some (.ins C dx fs) ∧ sp [.ref a] H (fun v H' => ∃ n : Int, v = .int n ∧ 0 ≤ n ∧ n < 2 ^ 63 ∧ Q (.int n) H') E0
theorem call_lenO (M : LenCal X.prog X.w X.K X.mg X.base CX C k sp) (g : X.A.guards = some []) (hr : Room j X.A) (hk : k + 1 ≤ j) (hx : Passes CX X E0) : CallR X (.builtin "len") (rLenO C sp) := by
  obtain ⟨f, fd, ps, F, hs, hf, hb⟩ := M
  intro pins s σ H xs us Q I r h
  obtain ⟨a, dx, fs, rfl, ha, q⟩ := h
  obtain ⟨u, rfl, ru⟩ := vals1 r
  obtain rfl : u = Value.ref a := ru
  obtain ⟨od, J⟩ := Ow.instAt I ha
  obtain ⟨m, hF⟩ := I.fr
  refine PySem.W.len_K hF I.ok.mod.kin J hs hf (wpAny_call (codeAny_mono (goG F (A := X.A.in1) g (hr.mono hk).in1 I.env0.in1 I.kIn hb (.cons (show RelV (.ref a) (.ref a) from rfl) .nil) q) fun r s' z => ?_))
  match r, z with
  | .error er, z => exact hx pins σ H s er s' I z
  | .ok .next, z => exact z.elim
  | .ok .brk, z => exact z.elim
  | .ok .cont, z => exact z.elim
  | .ok (.ret u'), z =>
    obtain ⟨v, H', I', rv, n, rfl, h0, h1, q'⟩ := I.after z
    obtain ⟨t, rfl⟩ := (show ∃ t, u' = Value.int n t from rv)
    exact ⟨⟨h0, h1⟩, .int n, H', I'.tok _, ⟨_, rfl⟩, q'⟩
end
end Ob
/-! == and != of dicts whose values are data, or dicts again: both outcomes -/
namespace Ob
open PySem.Spec PyProof.Rows
section
variable {prog : Program} {w : World} {Ky : Type} [DecidableEq Ky] {knd : KeyKind prog w Ky} {A : Around} {s : Shared} {a b : Addr} {ka kb : List (Ky × Value)} {r : Bool}
theorem neP_dicts (ha : (a == sysModules) = false) (hb : (b == sysModules) = false) (da : s.heap.DictOf knd a ka) (db : s.heap.DictOf knd b kb) (hu : A.units < cLine) (hits : ka.length = kb.length → PySem.W.KeqHitsP prog w A.in1 s kb ka r)
    (E Q : Value → Shared → Prop) (h : Q (.bool (!(ka.length == kb.length && r))) s) : wpAny (model prog w) A (richCompare .NotEq (.ref a) (.ref b)) Q E s := by
  refine wpAny_richCompare_same_room (op := .NotEq) da.typeIs db.typeIs PySem.F.slot_dict_ne ?_ hu
  refine wpAny_call_entry PySem.F.slot_dict_ne da.typeIs PySem.F.entry_dict_ne ?_ (PySem.F.args_dict_ne_2 _ _)
  show wpAny _ _ (Builtin.Dict.dictSlotArgs "__ne__" ⟨[.ref a, .ref b], []⟩ >>= fun p => _) _ _ s
  unfold Builtin.Dict.dictSlotArgs
  refine wpAny_bind (wpAny_bind (wpAny_notOrdered_dict da.typeIs (show wpAny _ _ (pure (Value.ref a, Value.ref b)) _ _ s from wpAny_pure ?_)))
  refine wpAny_bind (wpAny_isInstance (T := "dict") db.typeIs PySem.F.sub_dict_dict ?_)
  rw [show (!true) = false from rfl, if_neg Bool.false_ne_true]
  refine wpAny_bind (wpAny_pure (wpAny_bind (wpAny_pure (wpAny_bind (PySem.W.samePairsP ha hb da db hits ?_)))))
  exact wpAny_pure ⟨_, rfl, (fun x => nomatch x), by simpa using h⟩
end
/-- what the values under the keys of ks say, one after another, by those in ls -/
inductive HitF (F : V → V → Bool → Prop) (ls : List (Key × V)) : List (Key × V) → Bool → Prop
  | nil : HitF F ls [] true
  | miss {k : Key} {v : V} {r : List (Key × V)} : valV ls k = none → HitF F ls ((k, v) :: r) false
  | hit {k : Key} {v y : V} {r : List (Key × V)} {e b : Bool} : valV ls k = some y → F v y e → HitF F ls r b → HitF F ls ((k, v) :: r) (e && b)
def EqB (K : PySem.W.Frag) (H : Hp) : Nat → V → V → Bool → Prop
  | 0 => fun x y b => ∃ d e, Dp K H x d ∧ Dp K H y e ∧ SeqAt.shaped d = true ∧ SeqAt.shaped e = true ∧ b = PyData.eqv d e
  | n + 1 => fun x y b => (∃ d e, Dp K H x d ∧ Dp K H y e ∧ SeqAt.shaped d = true ∧ SeqAt.shaped e = true ∧ b = PyData.eqv d e) ∨
      ∃ a c ks ls r, x = .ref a ∧ y = .ref c ∧ a ≠ c ∧ H a = some (.dK ks) ∧ H c = some (.dK ls) ∧ HitF (EqB K H n) ls ks r ∧ b = (ks.length == ls.length && r)
theorem hitF_run {P : Program} {w : World} {A : Around} {s : Shared} {F : V → V → Bool → Prop} (ih : ∀ x y b v u, F x y b → RelV x v → RelV y u → SeqAt.EqP P w A s v u b) {ls : List (Key × V)} {vb : List (Key × Value)} (rb : KV ls vb) :
    ∀ {ks : List (Key × V)} {va : List (Key × Value)} {r : Bool}, KV ks va → HitF F ls ks r → PySem.W.KeqHitsP P w A s vb va r
  | [], _, _, .nil, .nil => .nil
  | (k, v) :: ks, (k', u) :: va, _, .cons h t, z => by
    obtain ⟨h1, h2⟩ := h
    obtain rfl : k = k' := h1
    have lk : RelO (valV ls k) (valueAt vb k) := rb.val k
    cases z with
    | miss hn =>
      rw [hn] at lk
      exact .miss (RelO.none_of lk)
    | hit hy hf hr =>
      rw [hy] at lk
      obtain ⟨y', ey, ry⟩ := lk.some_of
      exact .hit ey (ih _ _ _ _ _ hf h2 ry) (hitF_run ih rb t hr)
section
variable {X : Cx} {pins : List (Addr × Obj)} {σ : L2.St} {H : Hp} {s : Shared}
theorem eqB_run (I : Inv X pins σ H s) : ∀ (n : Nat) (A : Around), A.units + n + 66 < cLine → ∀ (x y : V) (b : Bool) (v u : Value), EqB X.K H n x y b → RelV x v → RelV y u → SeqAt.EqP X.prog X.w A s v u b := by
  have dat : ∀ (A : Around), A.units + 64 < cLine → ∀ (x y : V) (b : Bool) (v u : Value), (∃ d e, Dp X.K H x d ∧ Dp X.K H y e ∧ SeqAt.shaped d = true ∧ SeqAt.shaped e = true ∧ b = PyData.eqv d e) → RelV x v → RelV y u → SeqAt.EqP X.prog X.w A s v u b := by
    rintro A hu x y b v u ⟨d, e, hd, he, sd, se, rfl⟩ rx ry
    obtain ⟨as, r1⟩ := Dp.reads I d x v hd rx
    obtain ⟨bs, r2⟩ := Dp.reads I e y u he ry
    exact (SeqAt.eqAt_reads d e A s v u as bs r1 r2 (SeqAt.canLay_of_shaped sd) (SeqAt.canLay_of_shaped se) (SeqAt.room_of_shaped sd hu)).eqP
  intro n
  induction n with
  | zero => exact fun A hu x y b v u h rx ry => dat A (by omega) x y b v u h rx ry
  | succ n ih =>
    intro A hu x y b v u h rx ry
    rcases h with h | ⟨a, c, ks, ls, r, rfl, rfl, ne, ha, hc, hf, rfl⟩
    · exact dat A (by omega) x y b v u h rx ry
    · obtain rfl : v = Value.ref a := rx
      obtain rfl : u = Value.ref c := ry
      obtain ⟨_, ya, va, ra, da⟩ := (show ObjOk X.prog X.w H s.heap a (.dK ks) from I.hok a _ ha)
      obtain ⟨_, yb, vb, rb, db⟩ := (show ObjOk X.prog X.w H s.heap c (.dK ls) from I.hok c _ hc)
      have hit := hitF_run (ih A.in1 (by show A.units + 1 + n + 66 < cLine; omega)) rb ra hf
      have e1 : va.length = ks.length := (Paired.length ra).symm
      have e2 : vb.length = ls.length := (Paired.length rb).symm
      exact SeqAt.eqP_refs ne fun E Q q => PySem.W.rcP_dicts ya yb da db (by omega) (fun _ => hit) E Q (by rw [e1, e2]; exact q)
end
section
variable {X : Cx}
def rEqX (K : PySem.W.Frag) (neg : Bool) : R2 := fun x y H Q => ∃ a c ks ls r, x = .ref a ∧ y = .ref c ∧ H a = some (.dK ks) ∧ H c = some (.dK ls) ∧ HitF (EqB K H 2) ls ks r ∧ Q (.bl (if neg = true then !(ks.length == ls.length && r) else ks.length == ls.length && r)) H
theorem op_eqX (hu : X.A.units + 80 < cLine) : OpR X (compareOp .Eq) (rEqX X.K false) := by
  intro pins s σ H x y v u Q I rx ry h
  obtain ⟨a, c, ks, ls, r, rfl, rfl, ha, hc, hf, q⟩ := h
  obtain rfl : v = Value.ref a := rx
  obtain rfl : u = Value.ref c := ry
  obtain ⟨_, ya, va, ra, da⟩ := (show ObjOk X.prog X.w H s.heap a (.dK ks) from I.hok a _ ha)
  obtain ⟨_, yb, vb, rb, db⟩ := (show ObjOk X.prog X.w H s.heap c (.dK ls) from I.hok c _ hc)
  have hit := hitF_run (eqB_run I 2 X.A.in1 (by show X.A.units + 1 + 2 + 66 < cLine; omega)) rb ra hf
  have e1 : va.length = ks.length := (Paired.length ra).symm
  have e2 : vb.length = ls.length := (Paired.length rb).symm
  exact PySem.W.rcP_dicts ya yb da db (by omega) (fun _ => hit) _ _ ⟨_, H, I, (by rw [e1, e2]; rfl), q⟩
theorem op_neX (hu : X.A.units + 80 < cLine) : OpR X (compareOp .NotEq) (rEqX X.K true) := by
  intro pins s σ H x y v u Q I rx ry h
  obtain ⟨a, c, ks, ls, r, rfl, rfl, ha, hc, hf, q⟩ := h
  obtain rfl : v = Value.ref a := rx
  obtain rfl : u = Value.ref c := ry
  obtain ⟨_, ya, va, ra, da⟩ := (show ObjOk X.prog X.w H s.heap a (.dK ks) from I.hok a _ ha)
  obtain ⟨_, yb, vb, rb, db⟩ := (show ObjOk X.prog X.w H s.heap c (.dK ls) from I.hok c _ hc)
  have hit := hitF_run (eqB_run I 2 X.A.in1 (by show X.A.units + 1 + 2 + 66 < cLine; omega)) rb ra hf
  have e1 : va.length = ks.length := (Paired.length ra).symm
  have e2 : vb.length = ls.length := (Paired.length rb).symm
  exact neP_dicts ya yb da db (by omega) (fun _ => hit) _ _ ⟨_, H, I, (by rw [e1, e2]; rfl), q⟩
end
end Ob
/-! len(set(t)) of a tuple of texts: how many different ones -/
namespace Ss
open PySem.Spec PyProof.Rows
/-- how many different texts are among the first i -/
def dcN (xs : List Str) : Nat → Nat
  | 0 => 0
  | i + 1 => if (xs.take i).any (· == xs.getD i Str.empty) = true then dcN xs i else dcN xs i + 1
theorem dcN_le (xs : List Str) : ∀ i, dcN xs i ≤ i
  | 0 => Nat.le_refl _
  | i + 1 => by
    have := dcN_le xs i
    show (if (xs.take i).any (· == xs.getD i Str.empty) = true then dcN xs i else dcN xs i + 1) ≤ i + 1
    split <;> omega
theorem any_eq {xs : List Str} {x : Str} : xs.any (· == x) = true ↔ x ∈ xs := by
  rw [List.any_eq_true]
  exact ⟨fun ⟨y, m, e⟩ => by rw [← beq_iff_eq.mp e]; exact m, fun m => ⟨x, m, beq_self_eq_true x⟩⟩
theorem getD_at {xs : List Str} {i : Nat} (h : i < xs.length) : xs.getD i Str.empty = xs[i] := by
  rw [List.getD_eq_getElem?_getD, List.getElem?_eq_getElem h] <;> rfl
theorem dcN_nodup {xs : List Str} (nd : xs.Nodup) : ∀ i, i ≤ xs.length → dcN xs i = i
  | 0, _ => rfl
  | i + 1, h => by
    show (if (xs.take i).any (· == xs.getD i Str.empty) = true then dcN xs i else dcN xs i + 1) = i + 1
    have hi : i < xs.length := h
    have ne : ¬ (xs.take i).any (· == xs.getD i Str.empty) = true := fun z => by
      rw [any_eq, getD_at hi] at z
      obtain ⟨j, hj, e⟩ := List.mem_iff_getElem.mp z
      rw [List.getElem_take] at e
      rw [List.length_take] at hj
      have := (List.getElem_inj nd).mp e
      omega
    rw [if_neg ne, dcN_nodup nd i (Nat.le_of_lt hi)]
theorem nodup_dcN {xs : List Str} : ∀ i, i ≤ xs.length → dcN xs i = i → (xs.take i).Nodup
  | 0, _, _ => by simp
  | i + 1, h, e => by
    have hi : i < xs.length := h
    have e' : (if (xs.take i).any (· == xs.getD i Str.empty) = true then dcN xs i else dcN xs i + 1) = i + 1 := e
    have le := dcN_le xs i
    by_cases c : (xs.take i).any (· == xs.getD i Str.empty) = true
    · rw [if_pos c] at e'; omega
    · rw [if_neg c] at e'
      have ih := nodup_dcN i (Nat.le_of_lt hi) (by omega)
      have nm : xs[i] ∉ xs.take i := fun z => c (by rw [any_eq, getD_at hi]; exact z)
      rw [List.take_add_one, List.getElem?_eq_getElem hi]
      rw [List.nodup_append]
      refine ⟨ih, by simp, fun a ha b hb z => ?_⟩
      have hb : b = xs[i] := by simpa using hb
      subst z hb
      exact nm ha
theorem dc_iff {xs : List Str} : dcN xs xs.length = xs.length ↔ xs.Nodup := by
  refine ⟨fun e => ?_, fun nd => dcN_nodup nd _ (Nat.le_refl _)⟩
  have := nodup_dcN xs.length (Nat.le_refl _) e
  rwa [List.take_length] at this
section
variable {P : Program} {w : World} {A : Around} {E : Value → Shared → Prop} {s : Shared}
theorem upd_texts {I : Addr} {fp wr : List Addr} {G : Array GenState → Array GenState → Prop} {n : Nat} {Pv : Nat → Value → Prop} {St : Nat → Shared → Prop} {R : Result → Shared → Prop} (W : WalksS P w A.in1 I fp wr G n Pv St) (S : Addr) (hSf : S ∉ fp)
    (xs : List Str) (hn : n ≤ xs.length) (hb : n + 1 < scanBound) (hval : ∀ i v, Pv i v → ∃ t, v = .str (xs.getD i Str.empty) t) : ∀ (k i : Nat) (s : Shared), n - i = k → i ≤ n → St i s → s.heap.SetOf (PySem.strKind P w) S (fun z => (xs.take i).any (· == z)) (dcN xs i) →
      (∀ s', Moved (S :: wr) G s s' → s'.heap.SetOf (PySem.strKind P w) S (fun z => (xs.take n).any (· == z)) (dcN xs n) → R (.ok (.ret .none)) s') → codeAny (model P w) A (.builtin "set.update.loop" ⟨[.ref S, .ref I], []⟩) R s := by
  have hSw : S ∉ wr := fun h => hSf (W.sub _ h)
  have more : ∀ b ∈ wr, b ∈ S :: wr := fun b hb => List.mem_cons_of_mem _ hb
  have stay : ∀ {s1 s2 : Shared} {G' : Array GenState → Array GenState → Prop} {p : Str → Bool} {c : Nat}, Moved wr G' s1 s2 → s1.heap.SetOf (PySem.strKind P w) S p c → s2.heap.SetOf (PySem.strKind P w) S p c := fun hm ⟨o, es, ep, t, ho, rest⟩ => ⟨o, es, ep, t, hm.heap S _ hSw ho, rest⟩
  intro k
  induction k with
  | zero =>
    intro i s hk hi hst hS hR
    obtain rfl : i = n := by omega
    refine codeAny_builtin F.entry_set_update_loop ?_
    rw [Around.under_plainId F.plain_set_update_loop _]
    exact (show wpAny _ A.in1 (pyNext (.ref I) >>= _) _ _ s from wpAny_bind (W.done s _ _ hst fun s' hm => (show wpAny _ A.in1 (ret Value.none) _ _ s' from wpAny_pure (hR s' (hm.mono more) (stay hm hS)))))
  | succ k ih =>
    intro i s hk hi hst hS hR
    have hlt : i < n := by omega
    refine codeAny_builtin F.entry_set_update_loop ?_
    rw [Around.under_plainId F.plain_set_update_loop _]
    refine (show wpAny _ A.in1 (pyNext (.ref I) >>= _) _ _ s from wpAny_bind (W.item i s _ _ hlt hst fun v s' hP hst' hm => ?_))
    obtain ⟨t, rfl⟩ := hval i v hP
    have hS1 := stay hm hS
    refine (show wpAny _ A.in1 (holding [Value.str (xs.getD i Str.empty) t] (setAdd S (.str (xs.getD i Str.empty) t)) >>= _) _ _ s' from wpAny_bind (wpAny_holding ?_))
    unfold setAdd
    refine wpAny_holding (wpAny_bind ((PySem.strKind P w).pyHash (k := xs.getD i Str.empty) (strKind_is _ _ _ _) ?_))
    have hle := dcN_le xs i
    refine wpAny_setAddHashed_of (knd := PySem.strKind P w) (s := { s' with toks := s'.toks + 1 }) (strKind_is _ _ _ _) rfl hS1 (by omega) fun h' hsb hS2 => ?_
    have hS3 : h'.SetOf (PySem.strKind P w) S (fun z => (xs.take (i + 1)).any (· == z)) (dcN xs (i + 1)) := by
      refine SetOf_congr hS2 (fun z => ?_) rfl
      have hx : i < xs.length := by omega
      show ((xs.take i).any (· == z) || decide (z = xs.getD i Str.empty)) = (xs.take (i + 1)).any (· == z)
      rw [List.take_add_one, List.getElem?_eq_getElem hx, getD_at hx, List.any_append]
      congr 1
      show decide (z = xs[i]) = ((xs[i] == z) || false)
      rw [Bool.or_false, Bool.eq_iff_iff, decide_eq_true_iff, beq_iff_eq]
      exact eq_comm
    refine wpAny_pure ⟨plainId_quiet F.plain_set_update_loop _, ih (i + 1) _ (by omega) hlt (W.frame _ s' _ _ hst' (Nat.le_succ _) fun b hb o e => ?_) hS3 fun s'' hm2 hS4 => ?_⟩
    · exact (hsb.2 b (fun h : b = S => hSf (by rw [← h]; exact hb))).trans e
    · refine hR s'' (Moved.trans W.gtrans ((hm.mono more).then_heap (Nat.le_succ _) fun b o hb e => ?_) hm2) hS4
      exact (hsb.2 b (fun h : b = S => hb (by rw [h]; exact List.mem_cons_self))).trans e
abbrev setO (led : Bool) : Obj := { cls := .type "set", dict := none, data := .set #[] 0 (.fresh 0 0 led) }
set_option maxHeartbeats 8000000 in
theorem set_texts {l : Addr} {items : Array Value} {xs : List Str} {Q : Value → Shared → Prop} (hh : A.handled = none) (hl : s.heap.IsTuple l items) (hi : StrsAre items.toList xs) (hb : xs.length + 1 < scanBound)
    (h : ∀ (h' : Heap) (tk : Nat), h'.SetOf (PySem.strKind P w) s.heap.objs.size (fun z => xs.any (· == z)) (dcN xs xs.length) → (∀ b o, b < s.heap.objs.size → s.heap.get? b = some o → h'.get? b = some o) → Q (.ref s.heap.objs.size) { s with heap := h', toks := tk }) :
    wpAny (model P w) A (call (.type "set") [.ref l]) Q E s := by
  obtain ⟨c, tl, hmro⟩ := F.called_set.mro
  have hmade := F.called_set.made; have hsub := F.called_set.sub
  refine wpAny_call (codeAny_of_tree (show wpAny _ _ (callAny (.type "set") _) _ _ _ from wpAny_pure ⟨Code.quiet_builtin _ (by decide +kernel), codeAny_builtin F.entry_type_call ?_⟩))
  rw [Around.under_plain (weight_type_call_type "set" [.ref l] []) rfl]
  have h1 := F.called_set.notType; have h2 := F.called_set.canCreate; have hct := F.typeCall_set_1 (.ref l)
  repeat (any_goals (first | assumption | wp_step))
  have hsz : xs.length = items.size := by rw [← StrsAre.len_eq hi, Array.length_toList]
  refine codeAny_mono (code_set_new_1 (.ref l) (E := E) (Q₁ := fun obj s₁ => ∃ led : Bool, obj = .ref s.heap.objs.size ∧ s₁ = { s with heap := s.heap.push (setO led) }) fun led => ⟨led, rfl, rfl⟩) fun r s₁ hr => ?_
  match r, hr with
  | .error e, hr => exact hr
  | .ok .next, hr => exact hr.elim
  | .ok .brk, hr => exact hr.elim
  | .ok .cont, hr => exact hr.elim
  | .ok (.ret obj), hr =>
    obtain ⟨led, rfl, rfl⟩ := hr
    have hS : (s.heap.push (setO led)).get? s.heap.objs.size = some (setO led) := Heap.get?_push_size _ rfl
    have hT : Shared.TypeIs { s with heap := s.heap.push (setO led) } (.ref s.heap.objs.size) "set" := ⟨_, hS, rfl⟩
    have hli := F.called_set.init.lookup; have hbi := F.called_set.init.bind (.ref s.heap.objs.size)
    repeat (any_goals (first | assumption | wp_step))
    refine codeAny_mono (codeAny_call_builtin (R := wants (fun r s₂ => r = .none ∧ ∃ h' tk, s₂ = { s with heap := h', toks := tk } ∧ h'.SetOf (PySem.strKind P w) s.heap.objs.size (fun z => xs.any (· == z)) (dcN xs xs.length) ∧ (∀ b o, b < s.heap.objs.size → s.heap.get? b = some o → h'.get? b = some o)) E)
      F.called_set.init.plain F.entry_set_init (check_set_init_1 hT ?_)) fun r₂ s₂ hr₂ => ?_
    · obtain ⟨⟨ocls, odict, odata, oslots⟩, hol, hcl, nl, hdl⟩ := hl
      simp only at hcl hdl
      subst hcl hdl
      have hol' : (s.heap.push (setO led)).get? l = some { cls := .type "tuple", dict := odict, data := .seq items nl, slots := oslots } := Heap.get?_push_of_some _ hol
      have hsls := F.sub_tuple_set; have hslf := F.sub_tuple_frozenset; have hne : (Value.type "tuple" == Value.type "dict") = false := by decide
      have hl1 : (s.heap.push (setO led)).IsTuple l items := ⟨_, hol', rfl, nl, rfl⟩
      unfold Builtin.«set.__init__» noKeywords Builtin.Frozenset.updateFrom
      generalize hPI : pyIter = PI
      wp_walk
      subst hPI
      refine wpAny_pyIter_tuple hl1 (wpAny_bind (wpAny_runValue ?_))
      have hlS : l < s.heap.objs.size := Heap.lt_size hol
      have pz : (s.heap.push (setO led)).objs.size = s.heap.objs.size + 1 := Heap.size_push ..
      have hh3 : A.in1.in1.in1.handled = none := by simp [hh]
      have hneI : l ≠ (s.heap.push (setO led)).objs.size := by rw [Heap.size_push]; exact Nat.ne_of_lt (Nat.lt_succ_of_lt hlS)
      have hSf : s.heap.objs.size ∉ [(s.heap.push (setO led)).objs.size, l] := by
        rw [Heap.size_push]; simp only [List.mem_cons, List.not_mem_nil, or_false, not_or]
        exact ⟨Nat.ne_of_lt (Nat.lt_succ_self _), Nat.ne_of_gt hlS⟩
      have hval : ∀ (i : Nat) (v : Value), items[i]? = some v → ∃ t, v = .str (xs.getD i Str.empty) t := fun i v hv => SS.strs_at hi i v (by rw [Array.getElem?_toList]; exact hv)
      refine upd_texts ((Walks.tuple hh3 _ l hneI items).toS) s.heap.objs.size hSf xs (by omega) (by omega) hval (items.size - 0) 0 _ (by omega) (Nat.zero_le _) ⟨⟨_, Heap.get?_push_size _ rfl, rfl, rfl⟩, (hl1.push _)⟩ ?hS0 ?hR
      case hS0 =>
        have hget : ((s.heap.push (setO led)).push { cls := .type "tuple_iterator", data := .fields #[.ref l, .int 0 0] }).get? s.heap.objs.size = some (setO led) := Heap.get?_push_of_some _ hS
        exact SetOf_congr ((setObjOf_fresh (knd := PySem.strKind P w) led).setOf hget (by unfold scanBound; omega)) (fun _ => rfl) rfl
      case hR =>
        intro s' hm hS'
        obtain ⟨h', g', d', tk', os'⟩ := s'
        obtain rfl : g' = s.gens := hm.gens
        obtain rfl : d' = s.drawn := hm.drawn
        obtain rfl : os' = s.os := hm.os
        refine (show wpAny _ _ _ _ _ _ from wpAny_pure (show wpAny _ _ (ret Value.none) _ _ _ from wpAny_pure ⟨rfl, h', tk', rfl, ?_, fun b o hb e => ?_⟩))
        · rw [← hsz, List.take_length] at hS'
          exact hS'
        · refine hm.heap b o ?_ (Heap.get?_push_of_some _ (Heap.get?_push_of_some _ e))
          rw [Heap.size_push]; simp only [List.mem_cons, List.not_mem_nil, or_false, not_or]
          exact ⟨Nat.ne_of_lt hb, Nat.ne_of_lt (Nat.lt_succ_of_lt hb)⟩
    · match r₂, hr₂ with
      | .error e, hr₂ => exact hr₂
      | .ok .next, hr₂ => exact hr₂.elim
      | .ok .brk, hr₂ => exact hr₂.elim
      | .ok .cont, hr₂ => exact hr₂.elim
      | .ok (.ret r), hr₂ =>
        obtain ⟨rfl, h', tk, rfl, hS', hk'⟩ := hr₂
        repeat (any_goals (first | assumption | wp_step))
        exact h _ _ hS' hk'
end
section
variable {X : Cx}
def tLenSetT (K : PySem.W.Frag) (ta : TE) : TE := fun σ H Q => ta σ H fun x H1 => ∃ (l : Addr) (xs : List Str), x = .ref l ∧ SqT K H1 l (xs.map V.str) ∧ xs.length ≤ 1000 ∧ Q (.int (dcN xs xs.length : Nat)) H1
theorem pe_lenSetT {a : Expr} {ta : TE} {p p2 q pos : Pos} (hc : X.calm = true) (hm : X.mg "len" = none) (hm2 : X.mg "set" = none) (ha : PE X a ta) (hg : Gl X "len" := by rfl) (hg2 : Gl X "set" := by rfl)
    (na : starEach [a] X.env = (false, eval a X.env) :: starEach [] X.env := by rfl) : PE X (.Call (.Name "len" p) [.Call (.Name "set" p2) [a] [] q] [] pos) (tLenSetT X.K ta) := by
  refine ⟨fun pins s σ H Q I h => Call_ (ld_blt I hg hm boot_len (callWith_builtin1 (args_cons ?_ rfl) rfl rfl))⟩
  refine Call_ (ld_blt I hg2 hm2 boot_set (callWith_type1 (args_cons (thn (ha.run pins s σ H _ I h) fun v s1 ⟨x, H1, I1, r1, q1⟩ => args_nil ?_) na) na rfl))
  obtain ⟨l, xs, rfl, hq, hl, q1⟩ := q1
  cases r1
  obtain ⟨its, r, pl, hz⟩ := I1.tuple hq
  have sb : (1000 : Nat) + 1 < scanBound := by decide +kernel
  refine set_texts (I1.ok.hd hc) pl (by simpa using strsAre_of r) (by omega) fun h' tk hS hk => args_nil ?_
  obtain ⟨o, es, ep, t, ho, hex, hd, _, _, _, hf, hn⟩ := hS
  have I2 : Inv X pins σ H1 { s1 with heap := h', toks := tk } := I1.kept fun b o e => hk b o (Heap.lt_size e) e
  have le := dcN_le xs xs.length
  exact call_len_set ho hex hd hf (by rw [hn] <;> omega) ⟨.int (dcN xs xs.length : Nat), H1, I2.tok _, ⟨_, by rw [hn]⟩, q1⟩
end
end Ss
namespace Rd
open PySem.Spec PyProof.Rows
section
variable {K : PySem.W.Frag} {σ : L2.St} {H H' : Hp} {α β : Type}
theorem tupS {a : Addr} {xs : List V} (s : Same H H') (h : SqT K H a xs) : SqT K H' a xs := h.imp (fun r => r.imp (s _ _) (fun ⟨o, e⟩ => ⟨o, s _ _ e⟩)) id
theorem lcW {tl te : TE} {g : TG} {tt : TT} {vs : List Nat} {Q : VK} (k : tl σ H fun x H1 => tLc (iTup K (tC x)) g tt te vs σ H1 Q) : tLc (iTup K tl) g tt te vs σ H Q := k
/-- a comprehension over a tuple of things -/
theorem lcT {tl te : TE} {tt : TT} {vs : List Nat} {j : Nat} {Q : VK} {a : Addr} {xs : List V} {bs : List α} (A : α → V → Hp → Prop) (B : β → V → Hp → Prop) (f : α → Bool) (g : α → β)
    (htl : ∀ R : V → Hp → Prop, R (.ref a) H → tl σ H R) (hl : SqT K H a xs) (hA : Stays A) (hB : Stays B) (pr : Paired (fun b x => A b x H) bs xs) (hz : xs.length ≤ 10000)
    (hw : ∀ x, wipe ((wipe σ vs).set j (some x)) vs = wipe σ vs)
    (turn : ∀ b x H1 (R : Bool → Hp → Prop), b ∈ bs → A b x H → A b x H1 → Same H H1 → (∀ H2, Same H1 H2 → R (f b) H2) → tt ((wipe σ vs).set j (some x)) H1 R)
    (elem : ∀ b x H1 (R : VK), b ∈ bs → f b = true → A b x H → A b x H1 → Same H H1 → (∀ y H2, Same H1 H2 → Off H H1 H2 (B (g b)) y → R y H2) → te ((wipe σ vs).set j (some x)) H1 R)
    (fin : ∀ D ys H1, H D = none → Same H H1 → H1 D = some (.lst ys) → Paired (fun c y => B c y H1) ((bs.filter f).map g) ys → Q (.ref D) H1) :
    tLc (iTup K tl) (gName j) tt te vs σ H Q := by
  have hlen := pair_len pr
  refine htl _ ⟨a, rfl, ⟨xs, hl⟩, fun D hD => ?_⟩
  refine lc_tup (K := K) (a := a) (xs := xs) (fun i H1 => ∃ ys, H1 D = some (.lst ys) ∧ ys.length ≤ i ∧ Same H H1 ∧ ∀ o, Paired (fun c y => B c y (upd H1 D o)) (((bs.take i).filter f).map g) ys) ?_ ?_ ?_ ?_
  · exact ⟨[], upd_same, Nat.le_refl _, sNew hD, fun _ => .nil⟩
  · rintro i H1 hi ⟨ys, _, _, s, _⟩
    exact tupS s hl
  · rintro i x H1 hx ⟨ys, hd, hy, s, pq⟩
    have hi : i < xs.length := (List.getElem?_eq_some_iff.mp hx).1
    obtain ⟨b, hb, hab⟩ := pair_get pr hx
    have mem : b ∈ bs := List.mem_of_getElem? hb
    have tk : bs.take (i + 1) = bs.take i ++ [b] := take_succ hb
    show wipe ((wipe σ vs).set j (some x)) vs = wipe σ vs ∧ _
    refine ⟨hw x, turn b x H1 _ mem hab (hA _ _ _ _ s hab) s fun H2 s2 => ?_⟩
    cases hf : f b with
    | false =>
      rw [if_neg Bool.false_ne_true]
      refine ⟨ys, s2 _ _ hd, by omega, s.trans s2, fun o => ?_⟩
      rw [tk, List.filter_append, List.filter_cons_of_neg (by simp [hf]), List.filter_nil, List.append_nil]
      exact pair_imp (fun c y => hB c y _ _ (sUpd s2)) (pq o)
    | true =>
      rw [if_pos rfl]
      refine elem b x H2 _ mem hf hab (hA _ _ _ _ (s.trans s2) hab) (s.trans s2) fun y H3 s3 hy3 => ?_
      have hd3 := s3 _ _ (s2 _ _ hd)
      have s4 : Same H H3 := (s.trans s2).trans s3
      refine ⟨ys, hd3, szl (by omega), ys ++ [y], upd_same, by rw [List.length_append]; simp; omega, sMut s4 hD, fun o => ?_⟩
      rw [tk, List.filter_append, List.filter_cons_of_pos (by simp [hf]), List.filter_nil, List.map_append, upd_upd]
      exact (pair_imp (fun c z h => hB c z _ _ (sUpd (s2.trans s3)) h) (pq o)).snoc (hy3 D o hD (by rw [s2 _ _ hd]; simp))
  · rintro H1 ⟨ys, hd, hy, s, pq⟩
    refine fin D ys H1 hD s hd ?_
    have pq := pq (.lst ys)
    rw [← hlen, List.take_length, upd_id hd] at pq
    exact pq
end
end Rd
namespace Dt
open PyProof.Rows W6
def dS (r : List Str) : PyData := .list (r.map PyData.str)
def dR (rows : List (List Str)) : PyData := .list (rows.map dS)
def dO : Option (List Str) → PyData
  | none => .none
  | some l => dS l
/-- texts as the laws make them -/
structure Ts (r : List Str) : Prop where
  n : r.length ≤ 100
  w : ∀ w ∈ r, W 100 w
structure Rs (rows : List (List Str)) : Prop where
  n : rows.length ≤ 100
  r : ∀ r ∈ rows, Ts r
theorem strOk_of {n : Nat} {w : Str} (h : W n w) : PyData.strOk w = true := by
  unfold PyData.strOk
  rw [Array.all_eq_true']
  intro c hc
  have := h.low c (by simpa using hc)
  exact decide_eq_true (by omega)
theorem lay_strs : ∀ {r : List Str}, (∀ w ∈ r, W 100 w) → PyData.canLayAll0 (r.map PyData.str) = true
  | [], _ => rfl
  | a :: r, h => by
    have := strOk_of (h a (by simp))
    simp [PyData.canLayAll0, PyData.canLay0, this, lay_strs (r := r) fun w hw => h w (by simp [hw])]
theorem lay_rows : ∀ {rows : List (List Str)}, (∀ r ∈ rows, Ts r) → PyData.canLayAll0 (rows.map dS) = true
  | [], _ => rfl
  | a :: r, h => by
    have := lay_strs (h a (by simp)).w
    simp [PyData.canLayAll0, PyData.canLay0, dS, this]
    exact lay_rows (rows := r) fun w hw => h w (by simp [hw])
theorem dep_strs : ∀ r : List Str, PyData.depthAll (r.map PyData.str) ≤ 1
  | [] => by simp [PyData.depthAll]
  | a :: r => by simp [PyData.depthAll, PyData.depth]; exact dep_strs r
theorem dep_rows : ∀ rows : List (List Str), PyData.depthAll (rows.map dS) ≤ 2
  | [] => by simp [PyData.depthAll]
  | a :: r => by
    have := dep_rows r
    have := dep_strs a
    simp [PyData.depthAll, PyData.depth, dS]
    omega
theorem shaped_dS {r : List Str} (h : ∀ w ∈ r, W 100 w) : SeqAt.shaped (dS r) = true := by
  have := dep_strs r
  simp [SeqAt.shaped, dS, PyData.canLay0, lay_strs h, PyData.depth]
  omega
theorem shaped_dR {r : List (List Str)} (h : ∀ x ∈ r, Ts x) : SeqAt.shaped (dR r) = true := by
  have := dep_rows r
  simp [SeqAt.shaped, dR, PyData.canLay0, lay_rows h, PyData.depth]
  omega
theorem shaped_dO {o : Option (List Str)} (h : ∀ l, o = some l → ∀ w ∈ l, W 100 w) : SeqAt.shaped (dO o) = true := by
  cases o with
  | none => rfl
  | some l => exact shaped_dS (h l rfl)
theorem show_strs : ∀ r : List Str, PyData.showableAll (r.map PyData.str) = true
  | [] => rfl
  | a :: r => by simp [PyData.showableAll, PyData.showable, show_strs r]
theorem show_rows : ∀ rows : List (List Str), PyData.showableAll (rows.map dS) = true
  | [] => rfl
  | a :: r => by simp [PyData.showableAll, PyData.showable, dS, show_strs]; exact show_rows r
theorem nodict_strs : ∀ r : List Str, PyData.hasDictAll (r.map PyData.str) = false
  | [] => rfl
  | a :: r => by simp [PyData.hasDictAll, PyData.hasDict, nodict_strs r]
theorem nodict_rows : ∀ rows : List (List Str), PyData.hasDictAll (rows.map dS) = false
  | [] => rfl
  | a :: r => by simp [PyData.hasDictAll, PyData.hasDict, dS, nodict_strs]; exact nodict_rows r
theorem show_dR (r : List (List Str)) : (dR r).showable = true := by simp [dR, PyData.showable, show_rows]
theorem nodict_dR (r : List (List Str)) : (dR r).hasDict = false := by simp [dR, PyData.hasDict, nodict_rows]
theorem deep_dR (r : List (List Str)) : (dR r).depth ≤ 60 := by
  have := dep_rows r
  simp [dR, PyData.depth]
  omega
theorem show_dO (o : Option (List Str)) : (dO o).showable = true := by
  cases o with
  | none => rfl
  | some l => simp [dO, dS, PyData.showable, show_strs]
theorem nodict_dO (o : Option (List Str)) : (dO o).hasDict = false := by
  cases o with
  | none => rfl
  | some l => simp [dO, dS, PyData.hasDict, nodict_strs]
theorem deep_dO (o : Option (List Str)) : (dO o).depth ≤ 60 := by
  cases o with
  | none => simp [dO, PyData.depth]
  | some l =>
    have := dep_strs l
    simp [dO, dS, PyData.depth]
    omega
theorem from_le : ∀ (ts : List Str) (k : Nat) (acc : Str), (textFrom k acc ts).length ≤ acc.length + (ts.map fun t => t.length + 2).sum
  | [], k, acc => Nat.le_refl _
  | t :: r, k, acc => by
    have ih := from_le r (k + 1) (acc ++ (if k > 0 then ", " else "" : String) ++ t)
    have e : (acc ++ (if k > 0 then ", " else "" : String) ++ t).length ≤ acc.length + 2 + t.length := by
      rw [strLen_append, strLen_append]
      have : (Str.ofString (if k > 0 then ", " else "")).length ≤ 2 := by split <;> decide +kernel
      omega
    rw [List.map_cons, List.sum_cons]
    show (textFrom (k + 1) _ r).length ≤ _
    omega
theorem list_le {ts : List Str} {m : Nat} (h : ∀ t ∈ ts, t.length + 2 ≤ m) : (listText ts).length ≤ 2 + ts.length * m := by
  have s : ∀ l : List Str, (∀ t ∈ l, t.length + 2 ≤ m) → (l.map fun t => t.length + 2).sum ≤ l.length * m := by
    intro l
    induction l with
    | nil => intro _; simp
    | cons a l ih =>
      intro h
      have h1 := h a (by simp)
      have h2 := ih fun t ht => h t (by simp [ht])
      simp only [List.map_cons, List.sum_cons, List.length_cons, Nat.succ_mul]
      omega
  have a := from_le ts 0 "["
  have b := s ts h
  have e : (listText ts).length = (textFrom 0 "[" ts).length + 1 := by
    unfold listText
    rw [strLen_append]
    rfl
  have e1 : Str.length "[" = 1 := by decide +kernel
  omega
theorem shownAll_map : ∀ ds : List PyData, PyData.shownAll ds = ds.map PyData.shown
  | [] => rfl
  | d :: ds => by rw [PyData.shownAll, shownAll_map ds]; rfl
theorem shown_str {w : Str} (h : W 100 w) : (PyData.shown (.str w)).length ≤ 1002 := by
  have := StrLaws.reprText_len w fun c hc => Nat.lt_of_lt_of_le (h.low c hc) (by decide)
  have := h.len
  rw [PyData.shown]
  omega
theorem shown_dS {r : List Str} (h : Ts r) : (dS r).shown.length ≤ 100402 := by
  unfold dS
  rw [PyData.shown, shownAll_map]
  have := list_le (ts := (r.map PyData.str).map PyData.shown) (m := 1004) (by
    intro t ht
    simp only [List.map_map, List.mem_map, Function.comp] at ht
    obtain ⟨w, hw, rfl⟩ := ht
    have := shown_str (h.w w hw)
    omega)
  rw [List.length_map, List.length_map] at this
  have := h.n
  omega
theorem shown_dR {rows : List (List Str)} (h : Rs rows) : (dR rows).shown.length ≤ sizeLine := by
  unfold dR
  rw [PyData.shown, shownAll_map]
  have := list_le (ts := (rows.map dS).map PyData.shown) (m := 100404) (by
    intro t ht
    simp only [List.map_map, List.mem_map, Function.comp] at ht
    obtain ⟨w, hw, rfl⟩ := ht
    have := shown_dS (h.r w hw)
    omega)
  rw [List.length_map, List.length_map] at this
  have := h.n
  have e : sizeLine = 16777216 := sizeLine_eq
  omega
theorem eqv_strs : ∀ a b : List Str, PyData.eqvAll (a.map PyData.str) (b.map PyData.str) = decide (a = b)
  | [], [] => rfl
  | [], _ :: _ => by simp [PyData.eqvAll]
  | _ :: _, [] => by simp [PyData.eqvAll]
  | x :: a, y :: b => by
    have ih := eqv_strs a b
    simp only [List.map_cons, PyData.eqvAll, PyData.eqv, ih]
    by_cases e : x = y
    · subst e; simp
    · simp [e]
theorem eqv_dS (a b : List Str) : PyData.eqv (dS a) (dS b) = decide (a = b) := by
  show PyData.eqv (.list _) (.list _) = _
  rw [PyData.eqv, eqv_strs]
theorem eqv_rows : ∀ a b : List (List Str), PyData.eqvAll (a.map dS) (b.map dS) = decide (a = b)
  | [], [] => rfl
  | [], _ :: _ => by simp [PyData.eqvAll]
  | _ :: _, [] => by simp [PyData.eqvAll]
  | x :: a, y :: b => by
    have ih := eqv_rows a b
    simp only [List.map_cons, PyData.eqvAll, eqv_dS, ih]
    by_cases e : x = y
    · subst e; simp
    · simp [e]
theorem eqv_dR (a b : List (List Str)) : PyData.eqv (dR a) (dR b) = decide (a = b) := by
  show PyData.eqv (.list _) (.list _) = _
  rw [PyData.eqv, eqv_rows]
theorem eqv_dO (a b : Option (List Str)) : PyData.eqv (dO a) (dO b) = decide (a = b) := by
  cases a with
  | none =>
    cases b with
    | none => rfl
    | some l => show PyData.eqv .none (.list _) = _; simp [PyData.eqv]
  | some k =>
    cases b with
    | none => show PyData.eqv (.list _) .none = _; simp [PyData.eqv]
    | some l => rw [show dO (some k) = dS k from rfl, show dO (some l) = dS l from rfl, eqv_dS]; simp
section
variable {K : PySem.W.Frag} {H : Hp}
theorem dp_strs : ∀ r : List Str, DpAll K H (r.map V.str) (r.map PyData.str)
  | [] => .nil
  | a :: r => .cons (.str a) (dp_strs r)
theorem dp_S {p : Addr} {r : List Str} (h : SqL K H p (r.map V.str)) : Dp K H (.ref p) (dS r) := .lst h (dp_strs r)
end
theorem shown_dO {o : Option (List Str)} (h : ∀ l, o = some l → Ts l) : (dO o).shown.length ≤ sizeLine := by
  cases o with
  | none => show (PyData.shown .none).length ≤ _; rw [PyData.shown]; exact Nat.le_trans (by decide +kernel : Str.length "None" ≤ 4) (by decide)
  | some l => exact Nat.le_trans (shown_dS (h l rfl)) (by decide)
end Dt
namespace Od2
open PySem.Spec PyProof.Rows
def rDictD : List V → Hp → VK → Prop := fun xs H Q => ∃ (a : Addr) (kvs : List (Key × V)), xs = [.ref a] ∧ L2.Rd H a (.dK kvs) ∧ ∀ p, H p = none → Q (.ref p) (upd H p (.dK kvs))
theorem call_dict {X : Cx} : CallR X (.type "dict") rDictD := call_dictD
end Od2
namespace Ob
open PySem.Spec PyProof.Rows
section
variable {X : Cx} {CX : CXT} {k j : Nat} {C : Addr} {sp : Sp} {E : XK}
/-- x[k] and x[k] = v of the class at C -/
def GetCal (P : Program) (w : World) (K : PySem.W.Frag) (mg : Str → Option Value) (base : Heap) (CX : CXT) (C : Addr) (k : Nat) (m : Str) (sp : Sp) : Prop :=
  ∃ (g : Addr) (fd : FuncData) (ps : List Str), FnG P w K mg base CX k g fd ps sp ∧ Ow.SpC K C m g ∧ Binds K fd ps []
theorem getO {a b : Expr} {ta tb : TE} {pos : Pos} (M : GetCal X.prog X.w X.K X.mg X.base CX C k "__getitem__" sp) (g : X.A.guards = some []) (hr : Room j X.A) (hk : k + 1 ≤ j) (hx : Passes CX X E) (ha : PE X a ta) (hb : PE X b tb)
    (hs : ∀ (o i : Value), subscripted b true o i = runValue (.builtin "lifetime.subscript" ⟨[o, i], []⟩)) : PE X (.Subscript a b pos) (Ow.tGetO C sp E ta tb) := by
  obtain ⟨f, fd, ps, F, S, bd⟩ := M
  exact Ow.pe_getO S F g (hr.mono hk) bd hx ha hb hs
theorem setO (M : GetCal X.prog X.w X.K X.mg X.base CX C k "__setitem__" sp) (g : X.A.guards = some []) (hr : Room j X.A) (hk : k ≤ j) (hx : Passes CX X E) : PSet X (Ow.rSetO C sp E) := by
  obtain ⟨f, fd, ps, F, S, bd⟩ := M
  exact Ow.set_ownR S F g (hr.mono hk) bd hx
end
/-- what of the text an own class has -/
structure CF (K : PySem.W.Frag) (mg : Str → Option Value) (x : Str) (C : Addr) : Prop where
  cl : L2.Cls K C
  g : mg x = some (.ref C)
  ne : PySem.W.findIn K (.ref C) "__ne__" = some (some (.builtin "object.__ne__"))
  ob : PySem.W.mroIn K C (.type "object") = some true
/-- a method as the top has left it -/
def MethAt (K : PySem.W.Frag) (x qual : Str) (st : Stmt) (ps : List Str) (f : Addr) (fd : FuncData) : Prop := Fun K x qual st f fd ∧ Binds K fd ps []
section
variable {P : Program} {w : World} {K : PySem.W.Frag} {mg : Str → Option Value} {base : Heap}
theorem byG {x qual : Str} {st : Stmt} {ps N : List Str} {f : Addr} {fd : FuncData} {k : Nat} {sp : Sp} (D : MethAt K x qual st ps f fd) (S : FnScope N ps (defScope st)) (len : ∀ vs H Q E, sp vs H Q E → vs.length = ps.length)
    (inner : ∀ (cd : Value) (A : Around), A.guards = some [] → ∀ (outer : List Env) (s : Shared) (H : Hp) (vs : List V) (Q : VK) (E : XK),
      Room k (A.deeper (envOfC qual (defScope st) s.heap.objs.size f cd)) → sp vs H Q E →
      ∃ t, PSs (cxOf CX0 P w K mg base N qual (defScope st) f cd A outer s H E).nox (defBody st) t ∧ t { nx := fun _ H' => Q .non H', rt := Q } (start N vs) H) : FnG P w K mg base CX0 (k + 1) f fd ps sp :=
  defG0 D.1 S len inner
theorem byGX {x qual : Str} {st : Stmt} {ps N : List Str} {f : Addr} {fd : FuncData} {k : Nat} {sp : Sp} (D : MethAt K x qual st ps f fd) (S : FnScope N ps (defScope st)) (len : ∀ vs H Q E, sp vs H Q E → vs.length = ps.length)
    (inner : ∀ (cd : Value) (A : Around), A.guards = some [] → ∀ (outer : List Env) (s : Shared) (H : Hp) (vs : List V) (Q : VK) (E : XK),
      Room k (A.deeper (envOfC qual (defScope st) s.heap.objs.size f cd)) → sp vs H Q E →
      ∃ t, PSs (cxOf (L2.CX P w) P w K mg base N qual (defScope st) f cd A outer s H E) (defBody st) t ∧ t { nx := fun _ H' => Q .non H', rt := Q } (start N vs) H) : FnG P w K mg base (L2.CX P w) (k + 1) f fd ps sp :=
  defG D.1 S len inner
end
end Ob
namespace Ab
open PySem L2 Gk
def top (i : Nat) : Stmt := PySem.Challenge.pw_answersby_k02_books_set.main.body.getD i (.Pass ⟨0, 0, 0, 0⟩)
def clsBody : Stmt → List Stmt
  | .ClassDef _ _ _ b _ _ _ _ _ _ _ => b
  | _ => []
def meth (i j : Nat) : Stmt := (clsBody (top i)).getD j (.Pass ⟨0, 0, 0, 0⟩)
structure Txt (K : PySem.W.Frag) (mg : Str → Option Value) : Prop where
  int : mg "int" = none
  len : mg "len" = none
  max : mg "max" = none
  min : mg "min" = none
  isinstance : mg "isinstance" = none
  range : mg "range" = none
  list : mg "list" = none
  dict : mg "dict" = none
  tuple : mg "tuple" = none
  set : mg "set" = none
  str : mg "str" = none
  bool : mg "bool" = none
  repr : mg "repr" = none
  all : mg "all" = none

theorem one_ {n : Nat} (h : n + 64 < cLine) : n + 1 < cLine := by omega
theorem un80 {k : Nat} {A : Around} (r : Room k A) : A.units + 80 < cLine := by have := r.un; omega
/-! ### tables -/
def tab (l : List Str) (f : Str → V) : List (Key × V) := l.map fun o => (.inr o, f o)
theorem val_tab (l : List Str) (f : Str → V) {o : Str} (h : o ∈ l) : valV (tab l f) (.inr o) = some (f o) := by
  induction l with
  | nil => cases h
  | cons a l ih =>
    by_cases e : a = o
    · subst e
      simp [valV, tab]
    · have hm : o ∈ l := (List.mem_cons.mp h).resolve_left fun z => e z.symm
      have := ih hm
      simp only [valV, tab, List.map_cons] at this ⊢
      rw [List.find?_cons_of_neg (by simpa using e)]
      exact this
theorem none_tab (l : List Str) (f : Str → V) {o : Str} (h : o ∉ l) : valV (tab l f) (.inr o) = none := by
  induction l with
  | nil => rfl
  | cons a l ih =>
    have e : a ≠ o := fun z => h (by rw [z]; exact List.mem_cons_self)
    have := ih fun z => h (List.mem_cons_of_mem _ z)
    simp only [valV, tab, List.map_cons] at this ⊢
    rw [List.find?_cons_of_neg (by simpa using e)]
    exact this
def put (f : Str → V) (o : Str) (v : V) : Str → V := fun x => if x = o then v else f x
theorem put_tab (l : List Str) (f : Str → V) {o : Str} (v : V) (h : o ∈ l) : putK (tab l f) (.inr o) v = tab l (put f o v) := by
  have e : ((tab l f).any fun kv => decide (kv.1 = .inr o)) = true := by
    rw [List.any_eq_true]
    exact ⟨(.inr o, f o), List.mem_map.mpr ⟨o, h, rfl⟩, by simp⟩
  rw [putK, if_pos e]
  simp only [tab, List.map_map]
  refine List.map_congr_left fun x _ => ?_
  by_cases c : x = o
  · subst c; simp [put]
  · simp [put, c]
theorem putK_new (l : List Str) (f : Str → V) {o : Str} (v : V) (h : o ∉ l) : putK (tab l f) (.inr o) v = tab l f ++ [(.inr o, v)] := by
  have e : ¬ ((tab l f).any fun kv => decide (kv.1 = .inr o)) = true := by
    rw [List.any_eq_true]
    rintro ⟨kv, hm, hk⟩
    obtain ⟨x, hx, rfl⟩ := List.mem_map.mp hm
    have : x = o := by simpa using hk
    exact h (this ▸ hx)
  rw [putK, if_neg e]
theorem tab_snoc (l : List Str) (f : Str → V) (o : Str) : tab l f ++ [(.inr o, f o)] = tab (l ++ [o]) f := by simp [tab]
theorem tab_congr {l : List Str} {f g : Str → V} (h : ∀ o ∈ l, f o = g o) : tab l f = tab l g := List.map_congr_left fun o ho => by rw [h o ho]
theorem tab_len (l : List Str) (f : Str → V) : (tab l f).length = l.length := List.length_map ..
/-- the tables of the document -/
def ops : List Str := ["truth", "size", "each", "turned", "hash", "call", "member", "like", "unlike", "before", "behind", "grow"]
def menus : List (Str × List Str) := [("truth", ["truth", "length"]), ("size", ["length"]), ("each", ["walk", "item"]), ("turned", ["back", "count"]), ("hash", ["hash"]), ("call", ["call"]), ("member", ["has", "walk", "item"]), ("like", ["own", "turned"]),
  ("unlike", ["own", "like", "turned", "turned_like"]), ("before", ["own", "turned"]), ("behind", ["own", "turned"]), ("grow", ["grow", "plus"])]
def menu (o : Str) : List Str := (menus.lookup o).getD []
def flagsW : List Str := ["bars_hash", "ends_same", "ends_true"]
/-! ### heaps that go on -/
theorem sqT_same {K : PySem.W.Frag} {H H' : Hp} {p : Addr} {xs : List V} (s : Same H H') (h : SqT K H p xs) : SqT K H' p xs := Rd.tupS s h
/-- what stands at a is no tuple -/
def NoTup (H : Hp) (a : Addr) : Prop := ∀ u, H a = some u → (∀ xs, u ≠ .tup xs) ∧ ∀ o xs, u ≠ .frz o (.tup xs)
theorem sqT_upd {K : PySem.W.Frag} {H : Hp} {a p : Addr} {z : HO} {xs : List V} (n : NoTup H a) (h : SqT K H p xs) : SqT K (upd H a z) p xs := by
  rcases h with (h | ⟨o, h⟩) | h
  · refine .inl (.inl ?_)
    rw [upd_ne (fun e => by subst e; exact (n _ h).1 _ rfl)]
    exact h
  · refine .inl (.inr ⟨o, ?_⟩)
    rw [upd_ne (fun e => by subst e; exact (n _ h).2 _ _ rfl)]
    exact h
  · exact .inr h
theorem nt_dK {H : Hp} {a : Addr} {kvs : List (Key × V)} (h : H a = some (.dK kvs)) : NoTup H a := fun u e => by
  rw [h] at e; cases e; exact ⟨fun _ => by simp, fun _ _ => by simp⟩
theorem nt_lst {H : Hp} {a : Addr} {xs : List V} (h : H a = some (.lst xs)) : NoTup H a := fun u e => by
  rw [h] at e; cases e; exact ⟨fun _ => by simp, fun _ _ => by simp⟩
theorem nt_ins {H : Hp} {a C dx : Addr} {fs : List (Str × V)} (h : H a = some (.ins C dx fs)) : NoTup H a := fun u e => by
  rw [h] at e; cases e; exact ⟨fun _ => by simp, fun _ _ => by simp⟩
theorem nt_none {H : Hp} {a : Addr} (h : H a = none) : NoTup H a := fun u e => by rw [h] at e; cases e
theorem tup_ty {K : PySem.W.Frag} {H : Hp} {p : Addr} {xs : List V} (h : SqT K H p xs) : TyX K H (.ref p) (.type "tuple") := by
  rcases h with (h | ⟨o, h⟩) | ⟨o, its, n, h, c, _⟩
  · exact .base (.tup h)
  · exact .fTuple h
  · exact .kTuple h c
end Ab
namespace Ab
open PySem.Spec PyProof.Rows
def isStr : V → Bool
  | .str _ => true
  | _ => false
def isBl : V → Bool
  | .bl _ => true
  | _ => false
/-- a value's own kind, as isinstance tells it -/
structure Kd (K : PySem.W.Frag) (H : Hp) (v : V) (tn : String) : Prop where
  ty : TyX K H v (.type tn)
  s : kitB tn "str" = some (isStr v)
  b : kitB tn "bool" = some (isBl v)
def isIn (v : V) (ws : List Str) : Bool := match v with
  | .str s => decide (s ∈ ws)
  | _ => false
theorem isIn_str {v : V} {ws : List Str} (h : isIn v ws = true) : ∃ s, v = .str s ∧ s ∈ ws := by
  cases v <;> first | (rename_i s; exact ⟨s, rfl, of_decide_eq_true h⟩) | cases h
theorem isi {K : PySem.W.Frag} {H : Hp} {v : V} {tn c : String} {b : Bool} {Q : VK} (h : TyX K H v (.type tn)) (k : kitB tn c = some b) (q : Q (.bl b) H) : rIsi K [v, .ty c] H Q :=
  ⟨v, .ty c, .type tn, .type c, b, rfl, .ty c, h, kit_ty k, q⟩
theorem inT {K : PySem.W.Frag} {H : Hp} {x : V} {p : Addr} {xs : List V} {Q : VK} {neg : Bool} (h : SqT K H p xs) (hx : flatV x = true) (ha : xs.all flatV = true) (k : Q (.bl (if neg then !inV x xs else inV x xs)) H) : rIn K neg x (.ref p) H Q := ⟨p, xs, rfl, .inr h, hx, ha, k⟩
theorem inV_str (w : Str) (l : List Str) : inV (.str w) (l.map V.str) = decide (w ∈ l) := by
  induction l with
  | nil => rfl
  | cons a l ih =>
    show (eqV (.str a) (.str w) || inV (.str w) (l.map V.str)) = _
    rw [ih]
    show ((a == w) || _) = _
    by_cases e : a = w
    · subst e; simp
    · have e' : ¬ w = a := fun z => e z.symm
      simp [e, e']
theorem flat_strs (l : List Str) : (l.map V.str).all flatV = true := by
  rw [List.all_eq_true]
  intro x hx
  obtain ⟨s, _, rfl⟩ := List.mem_map.mp hx
  rfl
theorem tyX_mono {K : PySem.W.Frag} {H H' : Hp} {v : V} {t : Value} (s : Same H H') (h : TyX K H v t) : TyX K H' v t := by
  cases h with
  | base b =>
    refine .base ?_
    cases b with
    | non => exact .non
    | bl x => exact .bl x
    | int x => exact .int x
    | str x => exact .str x
    | flt x => exact .flt x
    | lst e => exact .lst (s _ _ e)
    | frz e => exact .frz (s _ _ e)
    | tup e => exact .tup (s _ _ e)
    | dK e => exact .dK (s _ _ e)
    | dT e => exact .dT (s _ _ e)
    | ins e a b c d f => exact .ins (s _ _ e) a b c d f
  | byt b => exact .byt b
  | set e => exact .set (s _ _ e)
  | kList e c => exact .kList e c
  | kTuple e c => exact .kTuple e c
  | kDict e c => exact .kDict e c
  | fTuple e => exact .fTuple (s _ _ e)
  | fDict e => exact .fDict (s _ _ e)
theorem Kd.mono {K : PySem.W.Frag} {H H' : Hp} {v : V} {tn : String} (s : Same H H') (k : Kd K H v tn) : Kd K H' v tn := ⟨tyX_mono s k.ty, k.s, k.b⟩
section
variable {K : PySem.W.Frag} {H : Hp}
theorem kd_str (z : Str) : Kd K H (.str z) "str" := ⟨.base (.str z), (by show kitB "str" "str" = some true; decide +kernel), (by show kitB "str" "bool" = some false; decide +kernel)⟩
theorem kd_int (i : Int) : Kd K H (.int i) "int" := ⟨.base (.int i), rfl, rfl⟩
theorem kd_bl (b : Bool) : Kd K H (.bl b) "bool" := ⟨.base (.bl b), rfl, rfl⟩
theorem kd_non : Kd K H .non "NoneType" := ⟨.base .non, rfl, rfl⟩
theorem kd_lst {p : Addr} {xs : List V} (h : H p = some (.lst xs)) : Kd K H (.ref p) "list" := ⟨.base (.lst h), rfl, rfl⟩
theorem kd_tup {p : Addr} {xs : List V} (h : SqT K H p xs) : Kd K H (.ref p) "tuple" := ⟨tup_ty h, rfl, rfl⟩
end
section
variable {P : Program} {w : World} {K : PySem.W.Frag} {mg : Str → Option Value} {base : Heap}
abbrev sIs_one_of : Stmt := top 6
abbrev nIs_one_of : List Str := ["value", "words"]
theorem scIs_one_of : FnScope nIs_one_of ["value", "words"] (defScope sIs_one_of) := ⟨rfl, rfl, rfl, by decide +kernel, rfl, by decide +kernel, by decide +kernel⟩
def spOneOf (K : PySem.W.Frag) : Sp := fun vs H Q _ => ∃ (v : V) (p : Addr) (tn : String) (ws : List Str), vs = [v, .ref p] ∧ Kd K H v tn ∧ SqT K H p (ws.map V.str) ∧ Q (.bl (isIn v ws)) H
theorem ok_one_of (T : Txt K mg) (D : DefAt K mg "is_one_of" sIs_one_of ["value", "words"]) : CalG P w K mg base 1 "is_one_of" (spOneOf K) := by
  refine D.by scIs_one_of (fun vs H Q E h => ?_) (fun f cd A hg outer s H vs Q E hr h => ?_)
  · obtain ⟨v, p, tn, ws, rfl, _⟩ := h
    rfl
  · obtain ⟨v, p, tn, ws, rfl, k, hp, q⟩ := h
    refine ⟨_, (pss_one (ps_ret (pe_and (pe_callB (r := rIsi K) call_isi (by rfl) T.isinstance (by decide +kernel) (pa_cons (pv 0) (pa_cons (pe_bltn (v := .ty "str") (by rfl) T.str (by decide +kernel) rfl) pa_nil))) (pe_one (pe_cmpR (r := rIn K false) op_in_seq (pv 0) (pv 1) (by rfl)))))), ?_⟩
    repeat walk_at "rd"
    refine isi k.ty k.s ?_
    repeat walk_at "rd"
    refine Rd.bool (fun c => ?_) (fun c => ?_)
    · obtain ⟨z, rfl⟩ : ∃ z, v = .str z := by cases v <;> first | exact ⟨_, rfl⟩ | cases c
      repeat walk_at "rd"
      refine inT hp rfl (flat_strs _) ?_
      have e : (if (false : Bool) = true then !inV (.str z) (ws.map V.str) else inV (.str z) (ws.map V.str)) = decide (z ∈ ws) := by rw [inV_str]; rfl
      rw [e]
      exact q
    · have e : isIn v ws = false := by cases v <;> first | rfl | cases c
      rw [e] at q
      exact q
/-- the error of the class at C with the field f = v goes out -/
def Out (C : Addr) (f : Str) (v : V) (H : Hp) (E : XK) : Prop := ∀ H1, Same H H1 → ∀ d, H1 d = none → E (.ref C) (some d) (upd H1 d (.xd [(f, v)]))
theorem Out.at {C : Addr} {f : Str} {v : V} {H H1 : Hp} {E : XK} (o : Out C f v H E) (s : Same H H1) : Out C f v H1 E := fun H2 s2 => o H2 (s.trans s2)
abbrev sCheck_flag : Stmt := top 7
abbrev nCheck_flag : List Str := ["value"]
theorem scCheck_flag : FnScope nCheck_flag ["value"] (defScope sCheck_flag) := ⟨rfl, rfl, rfl, by decide +kernel, rfl, by decide +kernel, by decide +kernel⟩
def spFlag (K : PySem.W.Frag) (C : Addr) : Sp := fun vs H Q E => ∃ (v : V) (tn : String), vs = [v] ∧ Kd K H v tn ∧ (isBl v = true → Q .non H) ∧ (isBl v = false → Out C "value" v H E)
theorem ok_check_flag (T : Txt K mg) {C : Addr} (T_NoFlag : Ex.ErrC K mg "NoFlag" "value" C) (M_NoFlag : Ex.InitOk P w K mg base "value" C) (D : DefAt K mg "check_flag" sCheck_flag ["value"]) : Ex.CalX P w K mg base 3 "check_flag" (spFlag K C) := by
  refine Ex.byX D scCheck_flag (fun vs H Q E h => ?_) (fun f cd A hg outer s H vs Q E hr h => ?_)
  · obtain ⟨v, tn, rfl, _⟩ := h
    rfl
  · obtain ⟨v, tn, rfl, k, q1, q2⟩ := h
    refine ⟨_, (pss_one (ps_if (pt_not (pt_val (pe_callB (r := rIsi K) call_isi (by rfl) T.isinstance (by decide +kernel) (pa_cons (pv 0) (pa_cons (pe_bltn (v := .ty "bool") (by rfl) T.bool (by decide +kernel) rfl) pa_nil)))))
  (pss_one (ps_raise rfl (takes_of rfl rfl rfl rfl) (Ex.pmkE T_NoFlag M_NoFlag hr (by decide) (pa_cons (pv 0) pa_nil))))
  pss_nil)), ?_⟩
    repeat walk_at "rd"
    refine isi k.ty k.b ?_
    repeat walk_at "rd"
    refine Rd.bool (fun c => ?_) (fun c => ?_)
    · have c' : isBl v = false := by simpa using c
      refine Ex.mk ?_
      repeat walk_at "rd"
      exact Ex.made (q2 c' H (Same.refl _))
    · have c' : isBl v = true := by simpa using c
      repeat walk_at "rd"
      exact q1 c'
abbrev sCheck_operation : Stmt := top 10
abbrev nCheck_operation : List Str := ["operation"]
theorem scCheck_operation : FnScope nCheck_operation ["operation"] (defScope sCheck_operation) := ⟨rfl, rfl, rfl, by decide +kernel, rfl, by decide +kernel, by decide +kernel⟩
def spCheck (K : PySem.W.Frag) (C : Addr) (ws : List Str) : Sp := fun vs H Q E => ∃ (v : V) (tn : String), vs = [v] ∧ Kd K H v tn ∧ (isIn v ws = true → Q .non H) ∧ (isIn v ws = false → Out C "value" v H E)
theorem ok_check_operation (T : Txt K mg) {C p_OPERATIONS : Addr} {ws : List Str} (g_OPERATIONS : mg "OPERATIONS" = some (.ref p_OPERATIONS)) (tM : ∀ H, SqT K H p_OPERATIONS (ws.map V.str)) (T_NoName : Ex.ErrC K mg "NoName" "value" C) (M_NoName : Ex.InitOk P w K mg base "value" C)
    (D : DefAt K mg "check_operation" sCheck_operation ["operation"]) (CIs_one_of : CalG P w K mg base 1 "is_one_of" (spOneOf K)) : Ex.CalX P w K mg base 3 "check_operation" (spCheck K C ws) := by
  refine Ex.byX D scCheck_operation (fun vs H Q E h => ?_) (fun f cd A hg outer s H vs Q E hr h => ?_)
  · obtain ⟨v, tn, rfl, _⟩ := h
    rfl
  · obtain ⟨v, tn, rfl, k, q1, q2⟩ := h
    refine ⟨_, (pss_one (ps_if (pt_not (pt_val (pe_cG CIs_one_of hg hr (by decide) (pa_cons (pv 0) (pa_cons (pe_glob (v := .ref p_OPERATIONS) (by rfl) g_OPERATIONS rfl) pa_nil)))))
  (pss_one (ps_raise rfl (takes_of rfl rfl rfl rfl) (Ex.pmkE T_NoName M_NoName hr (by decide) (pa_cons (pv 0) pa_nil))))
  pss_nil)), ?_⟩
    repeat walk_at "rd"
    refine ⟨v, p_OPERATIONS, tn, ws, rfl, k, tM H, ?_⟩
    repeat walk_at "rd"
    refine Rd.bool (fun c => ?_) (fun c => ?_)
    · have c' : isIn v ws = false := by simpa using c
      refine Ex.mk ?_
      repeat walk_at "rd"
      exact Ex.made (q2 c' H (Same.refl _))
    · have c' : isIn v ws = true := by simpa using c
      repeat walk_at "rd"
      exact q1 c'
/-! ### ways -/
/-- the texts among values -/
def strsOf : List V → List Str
  | [] => []
  | .str s :: l => s :: strsOf l
  | _ :: l => strsOf l
theorem strs_of_in {ws : List Str} : ∀ {xs : List V}, (xs.all fun x => isIn x ws) = true → xs = (strsOf xs).map V.str
  | [], _ => rfl
  | x :: l, h => by
    rw [List.all_cons, Bool.and_eq_true] at h
    obtain ⟨s, rfl, _⟩ := isIn_str h.1
    show _ = V.str s :: (strsOf l).map V.str
    rw [← strs_of_in h.2]
def waysOk (op : Str) (xs : List V) : Bool := (xs.all fun x => isIn x (menu op)) && decide ((strsOf xs).Nodup)
abbrev sAre_ways : Stmt := top 14
abbrev nAre_ways : List Str := ["operation", "value", "way"]
theorem scAre_ways : FnScope nAre_ways ["operation", "value"] (defScope sAre_ways) := ⟨rfl, rfl, rfl, by decide +kernel, rfl, by decide +kernel, by decide +kernel⟩
def MenusAt (K : PySem.W.Frag) (w : World) (p : Addr) (gM : Str → Addr) : Prop := ∀ o ∈ ops, KDct K w p o (.ref (gM o)) ∧ ∀ H, SqT K H (gM o) ((menu o).map V.str)
def spWays (K : PySem.W.Frag) : Sp := fun vs H Q _ => ∃ (op : Str) (v : V), vs = [.str op, v] ∧ op ∈ ops ∧
  ((∃ tn, TyX K H v (.type tn) ∧ kitB tn "tuple" = some false ∧ Q (.bl false) H) ∨ ∃ (p : Addr) (xs : List V), v = .ref p ∧ SqT K H p xs ∧ xs.length ≤ 1000 ∧ (∀ x ∈ xs, ∀ H', Same H H' → ∃ tn, Kd K H' x tn) ∧ ∀ H', Same H H' → Q (.bl (waysOk op xs)) H')
theorem ok_are_ways (T : Txt K mg) {p_MENUS : Addr} {gM : Str → Addr} (g_MENUS : mg "MENUS" = some (.ref p_MENUS)) (tM : MenusAt K w p_MENUS gM) (D : DefAt K mg "are_ways" sAre_ways ["operation", "value"])
    (CIs_one_of : CalG P w K mg base 1 "is_one_of" (spOneOf K)) : CalG P w K mg base 2 "are_ways" (spWays K) := by
  refine D.by scAre_ways (fun vs H Q E h => ?_) (fun f cd A hg outer s H vs Q E hr h => ?_)
  · obtain ⟨op, v, rfl, _⟩ := h
    rfl
  · obtain ⟨op, v, rfl, ho, h⟩ := h
    refine ⟨_, (pss_cons (ps_if (pt_not (pt_val (pe_callB (r := rIsi K) call_isi (by rfl) T.isinstance (by decide +kernel) (pa_cons (pv 1) (pa_cons (pe_bltn (v := .ty "tuple") (by rfl) T.tuple (by decide +kernel) rfl) pa_nil)))))
  (pss_one (ps_ret pe_bl))
  pss_nil)
  (pss_cons (ps_if (pt_not (pt_val (pe_callB (r := rAll K) (cr_all rfl) (by rfl) T.all (by decide +kernel) (pa_cons (pe_lc (wi := iTup K _) (own := [("way", 2)]) (g := gName 2) (by rfl) scAre_ways.nd (pi_tup (pv 1)) (blkOk_by (N := nAre_ways) (sc := defScope sAre_ways) (by decide +kernel)) (fun _ _ _ _ _ => pg_name (i := 2) scAre_ways.nd rfl (Or.inl rfl)) (fun _ _ _ _ _ => pts_nil) (fun _ _ _ _ _ => (pe_cG CIs_one_of hg hr (by decide) (pa_cons (pv 2) (pa_cons (pe_ix (r := rIxD K w) ix_kdict (pe_glob (v := .ref p_MENUS) (by rfl) g_MENUS rfl) (pv 0) (fun _ _ => rfl)) pa_nil))))) pa_nil))))
  (pss_one (ps_ret pe_bl))
  pss_nil)
  (pss_one (ps_ret (pe_cmpR op_eq (Ss.pe_lenSetT rfl T.len T.set (pv 1)) (pe_callB (r := Rd.rLenK K) Rd.callLen (by rfl) T.len PySem.boot_len (pa_cons (pv 1) pa_nil)) (nomark _)))))), ?_⟩
    repeat walk_at "rd"
    rcases h with ⟨tn, ty, kt, q⟩ | ⟨p, xs, rfl, hp, hl, hk, q⟩
    · refine isi ty kt ?_
      repeat walk_at "rd"
      exact Rd.tt_ (by repeat walk_at "rd"; exact q)
    · refine isi (tup_ty hp) (by show kitB "tuple" "tuple" = some true; decide +kernel) ?_
      repeat walk_at "rd"
      refine Rd.ff_ ?_
      repeat walk_at "rd"
      refine Rd.lcT (tl := tVar 1) (a := p) (H := H) (xs := xs) (bs := xs) (fun b x _ => x = b) (fun (b : Bool) y _ => y = .bl b) (fun _ => true) (fun x => isIn x (menu op)) (fun R k => Rd.var rfl k) hp (fun _ _ _ _ _ h => h) (fun _ _ _ _ _ h => h) ?_ (by omega) (fun _ => rfl) ?_ ?_ ?_
      · clear hl hk q hp
        induction xs with
        | nil => exact .nil
        | cons a l ih => exact .cons rfl ih
      · intro b x H1 R _ _ _ _ k
        repeat walk_at "rd"
        exact k _ (Same.refl _)
      · rintro b x H1 R hm _ _ rfl s1 k
        repeat walk_at "rd"
        refine ⟨p_MENUS, op, _, rfl, rfl, (tM op ho).1, ?_⟩
        obtain ⟨tn, kd⟩ := hk x hm H1 s1
        refine ⟨x, gM op, tn, menu op, rfl, kd, (tM op ho).2 H1, ?_⟩
        exact k _ H1 (Same.refl _) (Rd.off_any rfl)
      · intro Dd ys H1 hD s1 hd pr
        have e : ys = (xs.map fun x => isIn x (menu op)).map V.bl := by
          rw [List.filter_eq_self.mpr (fun _ _ => rfl)] at pr
          exact Rd.pair_map pr
        rw [e] at hd
        repeat walk_at "rd"
        refine Rd.all_ (SqL.of hd) ?_
        repeat walk_at "rd"
        have ea : (xs.map fun x => isIn x (menu op)).all id = xs.all fun x => isIn x (menu op) := by rw [List.all_map]; rfl
        rw [ea]
        refine Rd.bool (fun c => ?_) (fun c => ?_)
        · have c' : (xs.all fun x => isIn x (menu op)) = false := by simpa using c
          repeat walk_at "rd"
          have := q _ s1
          rw [waysOk, c', Bool.false_and] at this
          exact this
        · have c' : (xs.all fun x => isIn x (menu op)) = true := by simpa using c
          repeat walk_at "rd"
          have ex := strs_of_in c'
          have hp1 := sqT_same s1 hp
          have hp2 : SqT K H1 p ((strsOf xs).map V.str) := by rw [← ex]; exact hp1
          have hz : (strsOf xs).length = xs.length := by
            have := congrArg List.length ex
            rw [List.length_map] at this
            exact this.symm
          refine Rd.var (n := 1) rfl ⟨p, strsOf xs, rfl, hp2, by omega, ?_⟩
          repeat walk_at "rd"
          refine Rd.lenT hp1 ?_
          repeat walk_at "rd"
          have := q _ s1
          rw [waysOk, c', Bool.true_and] at this
          have e2 : decide (V.int ((Ss.dcN (strsOf xs) (strsOf xs).length : Nat) : Int) = V.int ((xs.length : Nat) : Int)) = decide ((strsOf xs).Nodup) := by
            rw [Bool.eq_iff_iff, decide_eq_true_iff, decide_eq_true_iff, ← Ss.dc_iff, hz]
            constructor
            · intro z
              have := V.int.inj z
              omega
            · intro z
              rw [z]
          rw [e2]
          exact this
end
end Ab
namespace Rd
open PySem.Spec PyProof.Rows
section
variable {K : PySem.W.Frag} {σ : L2.St} {H : Hp} {Q : VK} {D : Ends} {n : Nat} {a C dx : Addr} {fs : List (Str × V)} {f : Str} {v : V} {ta tb tv td ty : TE} {t : TA} {sp : Sp} {E : XK}
theorem fldV (h : σ[n]? = some (some (.ref a))) (e : H a = some (.ins C dx fs)) (c : L2.Cls K C) (na : NoAttr K C f) (l : fs.lookup f = some v) (k : Q v H) : tFld K (tVar n) f σ H Q := ⟨.ref a, h, a, C, dx, fs, v, rfl, e, c, na, l, k⟩
theorem sfld (k : tv σ H fun y H1 => ta σ H1 fun x H2 => ∃ a C dx fs, x = .ref a ∧ H2 a = some (.ins C dx fs) ∧ L2.Cls K C ∧ NoAttr K C f ∧ fs.length < 1000 ∧ D.nx σ (upd H2 a (.ins C dx (putF f y fs)))) : sFld K ta tv f D σ H := k
theorem dget (k : td σ H fun x H1 => ty σ H1 fun y H2 => ∃ a v, x = .ref a ∧ DGet H2 a y (some v) ∧ Q v H2) : tDGet td ty σ H Q := k
theorem methR {m : Str} (k : ta σ H fun x H1 => ∃ a dx fs, x = .ref a ∧ H1 a = some (.ins C dx fs) ∧ fs.lookup m = none ∧ t σ H1 fun vs H2 => sp (x :: (vs ++ [])) H2 Q E) : tMeth C m sp [] E ta t σ H Q := k
theorem propR (k : ta σ H fun x H1 => ∃ a dx fs, x = .ref a ∧ H1 a = some (.ins C dx fs) ∧ sp [.ref a] H1 Q E) : tProp C sp [] E ta σ H Q := k
theorem statR (k : ta σ H fun x H1 => x = .ref C ∧ sp [] H1 Q E) : Ob.tStat C sp E ta σ H Q := k
theorem getR (k : ta σ H fun x H1 => tb σ H1 fun y H2 => ∃ a dx fs, x = .ref a ∧ H2 a = some (.ins C dx fs) ∧ sp [.ref a, y] H2 Q E) : Ow.tGetO C sp E ta tb σ H Q := k
theorem makeR (k : t σ H fun vs H1 => ∀ x dx, H1 x = none → H1 dx = none → dx ≠ x → sp (.ref x :: (vs ++ [])) (upd (upd H1 dx (.own x)) x (.ins C dx [])) (fun v H2 => v = .non ∧ Q (.ref x) H2) E) : tMake C sp [] E t σ H Q := k
end
end Rd
namespace Ab
open PySem.Spec PyProof.Rows
local macro_rules | `(tactic| walk_at "rd") => `(tactic| (with_reducible first | refine Rd.sfld ?_ | refine Rd.dget ?_ | refine Rd.methR ?_ | refine Rd.propR ?_ | refine Rd.statR ?_ | refine Rd.getR ?_))
theorem get_tab {H : Hp} {a : Addr} {l : List Str} {f : Str → V} (h : H a = some (.dK (tab l f))) {o : Str} (m : o ∈ l) : DGet H a (.str o) (some (f o)) := by
  have := DGet.k (k := .inr o) h
  rw [val_tab l f m] at this
  exact this
/-- a dict comprehension over a tuple of texts that are its keys, the values read off -/
theorem dcP {K : PySem.W.Frag} {σ : L2.St} {H : Hp} {Q : VK} {tl tk tv : TE} {vs : List Nat} {j : Nat} {a : Addr} {l : List Str} {F : Str → V} (nd : l.Nodup) (z : l.length ≤ 1000) (htl : ∀ R : V → Hp → Prop, R (.ref a) H → tl σ H R) (ht : ∀ H, SqT K H a (l.map V.str))
    (hw : ∀ x, wipe ((wipe σ vs).set j (some x)) vs = wipe σ vs) (key : ∀ o H1 (R : VK), R (.str o) H1 → tk ((wipe σ vs).set j (some (.str o))) H1 R)
    (val : ∀ o, o ∈ l → ∀ H1 (R : VK), R (F o) H1 → tv ((wipe σ vs).set j (some (.str o))) H1 R) (fin : ∀ D, H D = none → Q (.ref D) (upd H D (.dK (tab l F)))) : tDc (iTup K tl) (gName j) tYes tk tv vs σ H Q := by
  refine htl _ ⟨a, rfl, ⟨_, ht H⟩, fun D hD => ?_⟩
  refine dc_tup (K := K) (a := a) (xs := l.map V.str) (fun i H1 => H1 = upd H D (.dK (tab (l.take i) F))) (by rw [List.take_zero]; rfl) (fun i H1 _ _ => ht H1) ?_ ?_
  · rintro i x H1 hx rfl
    obtain ⟨hi, e⟩ := List.getElem?_eq_some_iff.mp hx
    rw [List.length_map] at hi
    rw [List.getElem_map] at e
    subst e
    refine ⟨hw _, ?_⟩
    refine Rd.yes (Rd.tt_ ?_)
    refine key _ _ _ (val _ (List.getElem_mem hi) _ _ ⟨tab (l.take i) F, .inr l[i], rfl, upd_same, ?_, ?_⟩)
    · rw [tab_len, List.length_take]
      exact Rd.szl (by omega)
    · have nm : l[i] ∉ l.take i := fun m => by
        obtain ⟨k, hk, e⟩ := List.mem_iff_getElem.mp m
        rw [List.getElem_take] at e
        rw [List.length_take] at hk
        have := (List.getElem_inj nd).mp e
        omega
      show upd (upd H D _) D _ = _
      rw [upd_upd, putK_new _ _ _ nm, tab_snoc, List.take_add_one, List.getElem?_eq_getElem hi]
      rfl
  · rintro H1 rfl
    have := fin D hD
    rw [List.length_map, List.take_length]
    exact this
theorem ops_nd : ops.Nodup := by decide +kernel
theorem flags_nd : flagsW.Nodup := by decide +kernel
/-! ### a book in the heap -/
structure BF (K : PySem.W.Frag) (mg : Str → Option Value) (C : Addr) : Prop extends Ob.CF K mg "Book" C where
  n1 : NoAttr K C "_ways"
  n2 : NoAttr K C "_flags"
structure Bk (K : PySem.W.Frag) (C : Addr) (H : Hp) (b w f : Addr) (g : Str → Addr) (m : Str → List Str) (fl : Str → Bool) : Prop where
  ins : ∃ dx, H b = some (.ins C dx [("_ways", .ref w), ("_flags", .ref f)])
  wd : H w = some (.dK (tab ops fun o => .ref (g o)))
  fd : H f = some (.dK (tab flagsW fun x => .bl (fl x)))
  tp : ∀ o ∈ ops, SqT K H (g o) ((m o).map V.str)
  ne : w ≠ f
theorem Bk.mono {K : PySem.W.Frag} {C : Addr} {H H' : Hp} {b w f : Addr} {g : Str → Addr} {m : Str → List Str} {fl : Str → Bool} (k : Bk K C H b w f g m fl) (s : Same H H') : Bk K C H' b w f g m fl :=
  ⟨let ⟨dx, h⟩ := k.ins; ⟨dx, s _ _ h⟩, s _ _ k.wd, s _ _ k.fd, fun o ho => sqT_same s (k.tp o ho), k.ne⟩
def NewBk (K : PySem.W.Frag) (C : Addr) (g : Str → Addr) (m : Str → List Str) (fl : Str → Bool) (Q : VK) (H : Hp) : Prop := ∀ b w f H', Same H H' → H b = none → H w = none → H f = none → Bk K C H' b w f g m fl → Q (.ref b) H'
/-- the tables that the top has written -/
structure Tb (K : PySem.W.Frag) (w : World) (mg : Str → Option Value) (pO pM pF : Addr) (gM : Str → Addr) : Prop where
  o : mg "OPERATIONS" = some (.ref pO)
  m : mg "MENUS" = some (.ref pM)
  f : mg "FLAGS" = some (.ref pF)
  to : ∀ H, SqT K H pO (ops.map V.str)
  tf : ∀ H, SqT K H pF (flagsW.map V.str)
  tm : MenusAt K w pM gM
section
variable {P : Program} {w : World} {K : PySem.W.Frag} {mg : Str → Option Value} {base : Heap}
abbrev sBook___init__ : Stmt := meth 15 0
abbrev nBook___init__ : List Str := ["self", "operation", "word"]
theorem scBook___init__ : FnScope nBook___init__ ["self"] (defScope sBook___init__) := ⟨rfl, rfl, rfl, by decide +kernel, rfl, by decide +kernel, by decide +kernel⟩
def spInit (C : Addr) (gM : Str → Addr) : Sp := fun vs H Q _ => ∃ (b dx : Addr), vs = [.ref b] ∧ H b = some (.ins C dx []) ∧ ∀ w f, H w = none → upd (upd H w (.dK (tab ops fun o => .ref (gM o)))) b (.ins C dx [("_ways", .ref w)]) f = none →
  Q .non (upd (upd (upd (upd H w (.dK (tab ops fun o => .ref (gM o)))) b (.ins C dx [("_ways", .ref w)])) f (.dK (tab flagsW fun _ => .bl true))) b (.ins C dx [("_ways", .ref w), ("_flags", .ref f)]))
theorem ok_binit (T : Txt K mg) {C p_OPERATIONS p_MENUS p_FLAGS : Addr} {gM : Str → Addr} (B : BF K mg C) (t : Tb K w mg p_OPERATIONS p_MENUS p_FLAGS gM) {f : Addr} {fd : FuncData} (D : Ob.MethAt K "__init__" "Book.__init__" sBook___init__ ["self"] f fd) :
    FnG P w K mg base CX0 1 f fd ["self"] (spInit C gM) := by
  have g_OPERATIONS := t.o
  have g_MENUS := t.m
  have g_FLAGS := t.f
  refine Ob.byG D scBook___init__ (fun vs H Q E h => ?_) (fun cd A hg outer s H vs Q E hr h => ?_)
  · obtain ⟨b, dx, rfl, _⟩ := h
    rfl
  · obtain ⟨b, dx, rfl, hb, q⟩ := h
    refine ⟨_, (pss_cons (ps_fld (pv 0) (pe_dc (wi := iTup K _) (own := [("operation", 1)]) (g := gName 1) (by rfl) scBook___init__.nd (pi_tup (pe_glob (v := .ref p_OPERATIONS) (by rfl) g_OPERATIONS rfl)) (blkOk_by (N := nBook___init__) (sc := defScope sBook___init__) (by decide +kernel)) (fun _ _ _ _ _ => pg_name (i := 1) scBook___init__.nd rfl (Or.inl rfl)) (fun _ _ _ _ _ => pts_nil) (fun _ _ _ _ _ => (pv 1)) (fun _ _ _ _ _ => (pe_ix (r := rIxD K w) ix_kdict (pe_glob (v := .ref p_MENUS) (by rfl) g_MENUS rfl) (pv 1) (fun _ _ => rfl)))) (by rfl))
  (pss_one (ps_fld (pv 0) (pe_dc (wi := iTup K _) (own := [("word", 2)]) (g := gName 2) (by rfl) scBook___init__.nd (pi_tup (pe_glob (v := .ref p_FLAGS) (by rfl) g_FLAGS rfl)) (blkOk_by (N := nBook___init__) (sc := defScope sBook___init__) (by decide +kernel)) (fun _ _ _ _ _ => pg_name (i := 2) scBook___init__.nd rfl (Or.inl rfl)) (fun _ _ _ _ _ => pts_nil) (fun _ _ _ _ _ => (pv 2)) (fun _ _ _ _ _ => pe_bl)) (by rfl)))), ?_⟩
    repeat walk_at "rd"
    refine dcP (a := p_OPERATIONS) (l := ops) (F := fun o => .ref (gM o)) ops_nd (by decide) (fun R k => k) t.to (fun _ => rfl) (fun o H1 R k => Rd.var rfl k) (fun o ho H1 R k => ?_) (fun w0 hw => ?_)
    · repeat walk_at "rd"
      exact ⟨p_MENUS, o, _, rfl, rfl, (t.tm o ho).1, k⟩
    have b0 : b ≠ w0 := fun e => by rw [e, hw] at hb; cases hb
    repeat walk_at "rd"
    refine ⟨b, C, dx, [], rfl, by rw [upd_ne b0]; exact hb, B.cl, B.n1, by decide, ?_⟩
    repeat walk_at "rd"
    refine dcP (a := p_FLAGS) (l := flagsW) (F := fun _ => .bl true) flags_nd (by decide) (fun R k => k) t.tf (fun _ => rfl) (fun o H1 R k => Rd.var rfl k) (fun o ho H1 R k => k) (fun f0 hf => ?_)
    have e1 : putF "_ways" (.ref w0) [] = [(("_ways" : Str), V.ref w0)] := rfl
    rw [e1] at hf
    have b1 : b ≠ f0 := fun e => by rw [← e, upd_same] at hf; cases hf
    repeat walk_at "rd"
    refine ⟨b, C, dx, [("_ways", .ref w0)], rfl, by rw [upd_ne b1, e1, upd_same], B.cl, B.n2, by simp, ?_⟩
    exact q w0 f0 hw hf
/-- Book() -/
theorem mkBk {C : Addr} {gM : Str → Addr} {σ : L2.St} {H : Hp} {Q : VK} (t : ∀ o ∈ ops, ∀ H, SqT K H (gM o) ((menu o).map V.str)) (h : NewBk K C gM menu (fun _ => true) Q H) : tMake C (spInit C gM) [] E0 tNil σ H Q := by
  refine Rd.makeR (Rd.nil fun b dx hb hdx nb => ⟨b, dx, rfl, upd_same, fun w0 f0 hw hf => ⟨rfl, ?_⟩⟩)
  have wb : w0 ≠ b := fun e => by subst e; rw [upd_same] at hw; cases hw
  rw [upd_ne wb] at hw
  have wd : w0 ≠ dx := fun e => by subst e; rw [upd_same] at hw; cases hw
  rw [upd_ne wd] at hw
  have fb : f0 ≠ b := fun e => by subst e; rw [upd_same] at hf; cases hf
  rw [upd_ne fb] at hf
  have fw : f0 ≠ w0 := fun e => by subst e; rw [upd_same] at hf; cases hf
  rw [upd_ne fw, upd_ne fb] at hf
  have fdx : f0 ≠ dx := fun e => by subst e; rw [upd_same] at hf; cases hf
  rw [upd_ne fdx] at hf
  refine h b w0 f0 _ (fun a u e => ?_) hb hw hf ⟨⟨dx, upd_same⟩, ?_, ?_, fun o ho => t o ho _, fun e => fw e.symm⟩
  · rw [upd_ne (ne_of_none e hb), upd_ne (ne_of_none e hf), upd_ne (ne_of_none e hb), upd_ne (ne_of_none e hw), upd_ne (ne_of_none e hb), upd_ne (ne_of_none e hdx)]
    exact e
  · rw [upd_ne wb, upd_ne (fun e => fw e.symm), upd_ne wb, upd_same]
  · rw [upd_ne fb, upd_same]
abbrev sBook_full : Stmt := meth 15 1
abbrev nBook_full : List Str := []
theorem scBook_full : FnScope nBook_full [] (defScope sBook_full) := ⟨rfl, rfl, rfl, by decide +kernel, rfl, by decide +kernel, by decide +kernel⟩
def spFull (K : PySem.W.Frag) (C : Addr) (gM : Str → Addr) : Sp := fun vs H Q _ => vs = [] ∧ NewBk K C gM menu (fun _ => true) Q H
theorem ok_full {C pO pM pF : Addr} {gM : Str → Addr} (t : Tb K w mg pO pM pF gM) (I_Book : Ob.MkCal P w K mg base CX0 C 1 "Book" (spInit C gM)) {f : Addr} {fd : FuncData} (D : Ob.MethAt K "full" "Book.full" sBook_full [] f fd) : FnG P w K mg base CX0 3 f fd [] (spFull K C gM) := by
  refine Ob.byG D scBook_full (fun vs H Q E h => ?_) (fun cd A hg outer s H vs Q E hr h => ?_)
  · rw [h.1]; rfl
  · obtain ⟨rfl, q⟩ := h
    refine ⟨_, (pss_one (ps_ret (Ob.make0 I_Book hg hr (by decide) pass0))), ?_⟩
    repeat walk_at "rd"
    exact mkBk (fun o ho => (t.tm o ho).2) q
end
end Ab
namespace Ab
open PySem.Spec PyProof.Rows
local macro_rules | `(tactic| walk_at "rd") => `(tactic| (with_reducible first | refine Rd.sfld ?_ | refine Rd.dget ?_ | refine Rd.methR ?_ | refine Rd.propR ?_ | refine Rd.statR ?_ | refine Rd.getR ?_))
/-- the words that ways are made of -/
def wayW : List Str := ["truth", "length", "walk", "item", "back", "count", "hash", "call", "has", "own", "turned", "like", "turned_like", "grow", "plus"]
theorem menu_in : ∀ o ∈ ops, ∀ x ∈ menu o, x ∈ wayW := by decide +kernel
theorem wayW_W : ∀ x ∈ wayW, W6.W 100 x := by
  have h : ∀ x ∈ wayW, x.length ≤ 100 ∧ (TL.tl x).all (fun c => decide (c < 1000)) = true := by decide +kernel
  intro x hx
  exact ⟨(h x hx).1, fun c hc => of_decide_eq_true (List.all_eq_true.mp (h x hx).2 c hc)⟩
def dT (r : List Str) : PyData := .tuple (r.map PyData.str)
theorem shaped_dT {r : List Str} (h : ∀ w ∈ r, w ∈ wayW) : SeqAt.shaped (dT r) = true := by
  have := Dt.dep_strs r
  simp [SeqAt.shaped, dT, PyData.canLay0, Dt.lay_strs (fun w hw => wayW_W w (h w hw)), PyData.depth]
  omega
theorem eqv_dT (a b : List Str) : PyData.eqv (dT a) (dT b) = decide (a = b) := by
  show PyData.eqv (.tuple _) (.tuple _) = _
  rw [PyData.eqv, Dt.eqv_strs]
theorem hit_tab {F : V → V → Bool → Prop} {l0 : List Str} {f f' : Str → V} {e : Str → Bool} : ∀ {l : List Str}, (∀ o ∈ l, o ∈ l0 ∧ F (f o) (f' o) (e o)) → Ob.HitF F (tab l0 f') (tab l f) (l.all e)
  | [], _ => .nil
  | o :: l, h => by
    obtain ⟨h1, h2⟩ := h o List.mem_cons_self
    exact .hit (val_tab l0 f' h1) h2 (hit_tab fun x hx => h x (List.mem_cons_of_mem _ hx))
/-- ways out of the menus -/
def OkM (m : Str → List Str) : Prop := ∀ o ∈ ops, ∀ x ∈ m o, x ∈ wayW
def eqWays (m m' : Str → List Str) : Bool := ops.all fun o => decide (m o = m' o)
def eqFlags (fl fl' : Str → Bool) : Bool := flagsW.all fun x => decide (fl x = fl' x)
theorem eq_ways {K : PySem.W.Frag} {H : Hp} {w w' : Addr} {g g' : Str → Addr} {m m' : Str → List Str} (hw : H w = some (.dK (tab ops fun o => .ref (g o)))) (hw' : H w' = some (.dK (tab ops fun o => .ref (g' o)))) (t : ∀ o ∈ ops, SqT K H (g o) ((m o).map V.str)) (t' : ∀ o ∈ ops, SqT K H (g' o) ((m' o).map V.str))
    (k : OkM m) (k' : OkM m') : ∃ ks ls r, H w = some (.dK ks) ∧ H w' = some (.dK ls) ∧ Ob.HitF (Ob.EqB K H 2) ls ks r ∧ (ks.length == ls.length && r) = eqWays m m' := by
  refine ⟨_, _, eqWays m m', hw, hw', hit_tab fun o ho => ⟨ho, .inl ⟨dT (m o), dT (m' o), .tup (t o ho) (Dt.dp_strs _), .tup (t' o ho) (Dt.dp_strs _), shaped_dT (k o ho), shaped_dT (k' o ho), (eqv_dT _ _).symm⟩⟩, ?_⟩
  rw [tab_len, tab_len, beq_self_eq_true, Bool.true_and]
theorem eq_flags {K : PySem.W.Frag} {H : Hp} {f f' : Addr} {fl fl' : Str → Bool} (hw : H f = some (.dK (tab flagsW fun x => .bl (fl x)))) (hw' : H f' = some (.dK (tab flagsW fun x => .bl (fl' x)))) :
    ∃ ks ls r, H f = some (.dK ks) ∧ H f' = some (.dK ls) ∧ Ob.HitF (Ob.EqB K H 2) ls ks r ∧ (ks.length == ls.length && r) = eqFlags fl fl' := by
  refine ⟨_, _, eqFlags fl fl', hw, hw', hit_tab fun o ho => ⟨ho, .inl ⟨.bool (fl o), .bool (fl' o), .bl _, .bl _, rfl, rfl, ?_⟩⟩, ?_⟩
  · show decide (fl o = fl' o) = PyData.eqv (.bool (fl o)) (.bool (fl' o))
    cases fl o <;> cases fl' o <;> rfl
  · rw [tab_len, tab_len, beq_self_eq_true, Bool.true_and]
def gput (g : Str → Addr) (o : Str) (p : Addr) : Str → Addr := fun x => if x = o then p else g x
theorem gput_tab (g : Str → Addr) (o : Str) (p : Addr) : put (fun o => V.ref (g o)) o (.ref p) = fun x => V.ref (gput g o p x) := by
  funext x
  unfold put gput
  split <;> rfl
def fput (fl : Str → Bool) (o : Str) (c : Bool) : Str → Bool := fun x => if x = o then c else fl x
theorem fput_tab (fl : Str → Bool) (o : Str) (c : Bool) : put (fun x => V.bl (fl x)) o (.bl c) = fun x => V.bl (fput fl o c x) := by
  funext x
  unfold put fput
  split <;> rfl
section
variable {P : Program} {w : World} {K : PySem.W.Frag} {mg : Str → Option Value} {base : Heap}
abbrev sBook___getitem__ : Stmt := meth 15 3
abbrev nBook___getitem__ : List Str := ["self", "operation"]
theorem scBook___getitem__ : FnScope nBook___getitem__ ["self", "operation"] (defScope sBook___getitem__) := ⟨rfl, rfl, rfl, by decide +kernel, rfl, by decide +kernel, by decide +kernel⟩
def spGet (K : PySem.W.Frag) (C CN : Addr) : Sp := fun vs H Q E => ∃ (b w f : Addr) (g : Str → Addr) (m : Str → List Str) (fl : Str → Bool) (v : V) (tn : String), vs = [.ref b, v] ∧ Bk K C H b w f g m fl ∧ Kd K H v tn ∧ (∀ o, v = .str o → o ∈ ops → Q (.ref (g o)) H) ∧ (isIn v ops = false → Out CN "value" v H E)
theorem ok_get {C CN : Addr} (B : BF K mg C) (CCheck_operation : Ex.CalX P w K mg base 3 "check_operation" (spCheck K CN ops)) {f : Addr} {fd : FuncData} (D : Ob.MethAt K "__getitem__" "Book.__getitem__" sBook___getitem__ ["self", "operation"] f fd) :
    FnG P w K mg base (L2.CX P w) 4 f fd ["self", "operation"] (spGet K C CN) := by
  refine Ob.byGX D scBook___getitem__ (fun vs H Q E h => ?_) (fun cd A hg outer s H vs Q E hr h => ?_)
  · obtain ⟨_, _, _, _, _, _, _, _, rfl, _⟩ := h
    rfl
  · obtain ⟨b, w0, f0, g, m, fl, v, tn, rfl, bk, kd, q1, q2⟩ := h
    obtain ⟨dx, hb⟩ := bk.ins
    refine ⟨_, (pss_cons (ps_expr (Ex.pe_x CCheck_operation hg hr (by decide) (takes_of rfl rfl rfl rfl) (pa_cons (pv 1) pa_nil)))
  (pss_one (ps_ret (pe_dget (one_ hr.units) (pe_fld (pv 0) (by rfl)) (pv 1) (fun _ _ => rfl))))), ?_⟩
    repeat walk_at "rd"
    refine ⟨v, tn, rfl, kd, fun c => ?_, q2⟩
    obtain ⟨o, rfl, ho⟩ := isIn_str c
    repeat walk_at "rd"
    refine Rd.fldV rfl hb B.cl B.n1 rfl ?_
    repeat walk_at "rd"
    exact ⟨w0, _, rfl, get_tab bk.wd ho, q1 o rfl ho⟩
abbrev sBook___setitem__ : Stmt := meth 15 4
abbrev nBook___setitem__ : List Str := ["self", "operation", "ways"]
theorem scBook___setitem__ : FnScope nBook___setitem__ ["self", "operation", "ways"] (defScope sBook___setitem__) := ⟨rfl, rfl, rfl, by decide +kernel, rfl, by decide +kernel, by decide +kernel⟩
def spSet (K : PySem.W.Frag) (C CN CW : Addr) : Sp := fun vs H Q E => ∃ (b w f : Addr) (g : Str → Addr) (m : Str → List Str) (fl : Str → Bool) (v x : V) (tn : String), vs = [.ref b, v, x] ∧ Bk K C H b w f g m fl ∧ Kd K H v tn ∧ (isIn v ops = false → Out CN "value" v H E) ∧
  ∀ o, v = .str o → o ∈ ops → (∃ tx, TyX K H x (.type tx) ∧ kitB tx "tuple" = some false ∧ Out CW "operation" v H E) ∨
    ∃ (p : Addr) (xs : List V), x = .ref p ∧ SqT K H p xs ∧ xs.length ≤ 1000 ∧ (∀ y ∈ xs, ∀ H', Same H H' → ∃ tn, Kd K H' y tn) ∧ (waysOk o xs = false → Out CW "operation" v H E) ∧ (waysOk o xs = true → ∀ H', Same H H' → Q .non (upd H' w (.dK (tab ops fun y => .ref (gput g o p y)))))
theorem ok_set (T : Txt K mg) {C CN CW : Addr} (B : BF K mg C) (T_NoWays : Ex.ErrC K mg "NoWays" "operation" CW) (M_NoWays : Ex.InitOk P w K mg base "operation" CW) (CCheck_operation : Ex.CalX P w K mg base 3 "check_operation" (spCheck K CN ops)) (CAre_ways : CalG P w K mg base 2 "are_ways" (spWays K)) {f : Addr} {fd : FuncData}
    (D : Ob.MethAt K "__setitem__" "Book.__setitem__" sBook___setitem__ ["self", "operation", "ways"] f fd) : FnG P w K mg base (L2.CX P w) 4 f fd ["self", "operation", "ways"] (spSet K C CN CW) := by
  refine Ob.byGX D scBook___setitem__ (fun vs H Q E h => ?_) (fun cd A hg outer s H vs Q E hr h => ?_)
  · obtain ⟨_, _, _, _, _, _, _, _, _, rfl, _⟩ := h
    rfl
  · obtain ⟨b, w0, f0, g, m, fl, v, x, tn, rfl, bk, kd, q1, q2⟩ := h
    obtain ⟨dx, hb⟩ := bk.ins
    refine ⟨_, (pss_cons (ps_expr (Ex.pe_x CCheck_operation hg hr (by decide) (takes_of rfl rfl rfl rfl) (pa_cons (pv 1) pa_nil)))
  (pss_cons (ps_if (pt_not (pt_val (pe_cG CAre_ways hg hr (by decide) (pa_cons (pv 1) (pa_cons (pv 2) pa_nil)))))
  (pss_one (ps_raise rfl (takes_of rfl rfl rfl rfl) (Ex.pmkE T_NoWays M_NoWays hr (by decide) (pa_cons (pv 1) pa_nil))))
  pss_nil)
  (pss_one (ps_asg (pe_callTy call_tuple_of (by rfl) T.tuple (by decide +kernel) (pa_cons (pv 2) pa_nil)) (pg_sub (pe_fld (pv 0) (by rfl)) (pv 1) (set_dict (one_ hr.units))))))), ?_⟩
    repeat walk_at "rd"
    refine ⟨v, tn, rfl, kd, fun c => ?_, q1⟩
    obtain ⟨o, rfl, ho⟩ := isIn_str c
    repeat walk_at "rd"
    have bad : ∀ H1, Same H H1 → Out CW "operation" (.str o) H E → _ := fun H1 s1 q => Ex.made (Q := fun cls d H => E cls d H) (q.at s1 H1 (Same.refl _))
    rcases q2 o rfl ho with ⟨tx, ty, kt, q⟩ | ⟨p, xs, rfl, hp, hl, hk, qb, qg⟩
    · refine ⟨o, x, rfl, ho, .inl ⟨tx, ty, kt, ?_⟩⟩
      repeat walk_at "rd"
      refine Rd.tt_ (Ex.mk ?_)
      repeat walk_at "rd"
      exact bad H (Same.refl _) q
    · refine ⟨o, .ref p, rfl, ho, .inr ⟨p, xs, rfl, hp, hl, hk, fun H1 s1 => ?_⟩⟩
      repeat walk_at "rd"
      refine Rd.bool (fun c => ?_) (fun c => ?_)
      · have c' : waysOk o xs = false := by simpa using c
        refine Ex.mk ?_
        repeat walk_at "rd"
        exact bad H1 s1 (qb c')
      · have c' : waysOk o xs = true := by simpa using c
        repeat walk_at "rd"
        refine ⟨p, xs, rfl, .inr ⟨sqT_same s1 hp, ?_⟩⟩
        repeat walk_at "rd"
        refine Rd.fldV rfl (s1 _ _ hb) B.cl B.n1 rfl ?_
        repeat walk_at "rd"
        refine ⟨w0, _, rfl, .inl ⟨_, .inr o, s1 _ _ bk.wd, rfl, ?_, rfl⟩, ?_⟩
        · rw [tab_len]; exact Rd.szl (by decide)
        · rw [put_tab _ _ _ ho, gput_tab]
          exact qg c' H1 s1
def spFl (K : PySem.W.Frag) (C : Addr) (x : Str) : Sp := fun vs H Q _ => ∃ (b w f : Addr) (g : Str → Addr) (m : Str → List Str) (fl : Str → Bool), vs = [.ref b] ∧ Bk K C H b w f g m fl ∧ Q (.bl (fl x)) H
abbrev sBook_bars_hash : Stmt := meth 15 5
abbrev nBook_bars_hash : List Str := ["self"]
theorem scBook_bars_hash : FnScope nBook_bars_hash ["self"] (defScope sBook_bars_hash) := ⟨rfl, rfl, rfl, by decide +kernel, rfl, by decide +kernel, by decide +kernel⟩
theorem ok_bars {C : Addr} (B : BF K mg C) {f : Addr} {fd : FuncData} (D : Ob.MethAt K "bars_hash" "Book.bars_hash" sBook_bars_hash ["self"] f fd) : FnG P w K mg base CX0 1 f fd ["self"] (spFl K C "bars_hash") := by
  refine Ob.byG D scBook_bars_hash (fun vs H Q E h => ?_) (fun cd A hg outer s H vs Q E hr h => ?_)
  · obtain ⟨_, _, _, _, _, _, rfl, _⟩ := h
    rfl
  · obtain ⟨b, w0, f0, g, m, fl, rfl, bk, q⟩ := h
    obtain ⟨dx, hb⟩ := bk.ins
    refine ⟨_, (pss_one (ps_ret (pe_dget (one_ hr.units) (pe_fld (pv 0) (by rfl)) pe_str (fun _ _ => rfl)))), ?_⟩
    repeat walk_at "rd"
    refine Rd.fldV rfl hb B.cl B.n2 rfl ?_
    repeat walk_at "rd"
    exact ⟨f0, _, rfl, get_tab bk.fd (by decide), q⟩
abbrev sBook_ends_same : Stmt := meth 15 7
abbrev nBook_ends_same : List Str := ["self"]
theorem scBook_ends_same : FnScope nBook_ends_same ["self"] (defScope sBook_ends_same) := ⟨rfl, rfl, rfl, by decide +kernel, rfl, by decide +kernel, by decide +kernel⟩
theorem ok_same {C : Addr} (B : BF K mg C) {f : Addr} {fd : FuncData} (D : Ob.MethAt K "ends_same" "Book.ends_same" sBook_ends_same ["self"] f fd) : FnG P w K mg base CX0 1 f fd ["self"] (spFl K C "ends_same") := by
  refine Ob.byG D scBook_ends_same (fun vs H Q E h => ?_) (fun cd A hg outer s H vs Q E hr h => ?_)
  · obtain ⟨_, _, _, _, _, _, rfl, _⟩ := h
    rfl
  · obtain ⟨b, w0, f0, g, m, fl, rfl, bk, q⟩ := h
    obtain ⟨dx, hb⟩ := bk.ins
    refine ⟨_, (pss_one (ps_ret (pe_dget (one_ hr.units) (pe_fld (pv 0) (by rfl)) pe_str (fun _ _ => rfl)))), ?_⟩
    repeat walk_at "rd"
    refine Rd.fldV rfl hb B.cl B.n2 rfl ?_
    repeat walk_at "rd"
    exact ⟨f0, _, rfl, get_tab bk.fd (by decide), q⟩
abbrev sBook_ends_true : Stmt := meth 15 9
abbrev nBook_ends_true : List Str := ["self"]
theorem scBook_ends_true : FnScope nBook_ends_true ["self"] (defScope sBook_ends_true) := ⟨rfl, rfl, rfl, by decide +kernel, rfl, by decide +kernel, by decide +kernel⟩
theorem ok_true {C : Addr} (B : BF K mg C) {f : Addr} {fd : FuncData} (D : Ob.MethAt K "ends_true" "Book.ends_true" sBook_ends_true ["self"] f fd) : FnG P w K mg base CX0 1 f fd ["self"] (spFl K C "ends_true") := by
  refine Ob.byG D scBook_ends_true (fun vs H Q E h => ?_) (fun cd A hg outer s H vs Q E hr h => ?_)
  · obtain ⟨_, _, _, _, _, _, rfl, _⟩ := h
    rfl
  · obtain ⟨b, w0, f0, g, m, fl, rfl, bk, q⟩ := h
    obtain ⟨dx, hb⟩ := bk.ins
    refine ⟨_, (pss_one (ps_ret (pe_dget (one_ hr.units) (pe_fld (pv 0) (by rfl)) pe_str (fun _ _ => rfl)))), ?_⟩
    repeat walk_at "rd"
    refine Rd.fldV rfl hb B.cl B.n2 rfl ?_
    repeat walk_at "rd"
    exact ⟨f0, _, rfl, get_tab bk.fd (by decide), q⟩
abbrev sBook_set_flag : Stmt := meth 15 11
abbrev nBook_set_flag : List Str := ["self", "word", "value"]
theorem scBook_set_flag : FnScope nBook_set_flag ["self", "word", "value"] (defScope sBook_set_flag) := ⟨rfl, rfl, rfl, by decide +kernel, rfl, by decide +kernel, by decide +kernel⟩
def spSetFlag (K : PySem.W.Frag) (C CN CF : Addr) : Sp := fun vs H Q E => ∃ (b w f : Addr) (g : Str → Addr) (m : Str → List Str) (fl : Str → Bool) (v x : V) (tn tx : String), vs = [.ref b, v, x] ∧ Bk K C H b w f g m fl ∧ Kd K H v tn ∧ Kd K H x tx ∧ (isIn v flagsW = false → Out CN "value" v H E) ∧
  ∀ o, v = .str o → o ∈ flagsW → (isBl x = false → Out CF "value" x H E) ∧ ∀ c, x = .bl c → Q .non (upd H f (.dK (tab flagsW fun y => .bl (fput fl o c y))))
theorem ok_set_flag {C CN CF pO pM p_FLAGS : Addr} {gM : Str → Addr} (B : BF K mg C) (t : Tb K w mg pO pM p_FLAGS gM) (T_NoName : Ex.ErrC K mg "NoName" "value" CN) (M_NoName : Ex.InitOk P w K mg base "value" CN) (CIs_one_of : CalG P w K mg base 1 "is_one_of" (spOneOf K)) (CCheck_flag : Ex.CalX P w K mg base 3 "check_flag" (spFlag K CF))
    {f : Addr} {fd : FuncData} (D : Ob.MethAt K "set_flag" "Book.set_flag" sBook_set_flag ["self", "word", "value"] f fd) : FnG P w K mg base (L2.CX P w) 4 f fd ["self", "word", "value"] (spSetFlag K C CN CF) := by
  have g_FLAGS := t.f
  refine Ob.byGX D scBook_set_flag (fun vs H Q E h => ?_) (fun cd A hg outer s H vs Q E hr h => ?_)
  · obtain ⟨_, _, _, _, _, _, _, _, _, _, rfl, _⟩ := h
    rfl
  · obtain ⟨b, w0, f0, g, m, fl, v, x, tn, tx, rfl, bk, kd, kx, q1, q2⟩ := h
    obtain ⟨dx, hb⟩ := bk.ins
    refine ⟨_, (pss_cons (ps_if (pt_not (pt_val (pe_cG CIs_one_of hg hr (by decide) (pa_cons (pv 1) (pa_cons (pe_glob (v := .ref p_FLAGS) (by rfl) g_FLAGS rfl) pa_nil)))))
  (pss_one (ps_raise rfl (takes_of rfl rfl rfl rfl) (Ex.pmkE T_NoName M_NoName hr (by decide) (pa_cons (pv 1) pa_nil))))
  pss_nil)
  (pss_cons (ps_expr (Ex.pe_x CCheck_flag hg hr (by decide) (takes_of rfl rfl rfl rfl) (pa_cons (pv 2) pa_nil)))
  (pss_one (ps_asg (pv 2) (pg_sub (pe_fld (pv 0) (by rfl)) (pv 1) (set_dict (one_ hr.units))))))), ?_⟩
    repeat walk_at "rd"
    refine ⟨v, p_FLAGS, tn, flagsW, rfl, kd, t.tf H, ?_⟩
    repeat walk_at "rd"
    refine Rd.bool (fun c => ?_) (fun c => ?_)
    · have c' : isIn v flagsW = false := by simpa using c
      refine Ex.mk ?_
      repeat walk_at "rd"
      exact Ex.made (q1 c' H (Same.refl _))
    · have c' : isIn v flagsW = true := by simpa using c
      obtain ⟨o, rfl, ho⟩ := isIn_str c'
      obtain ⟨qb, qg⟩ := q2 o rfl ho
      repeat walk_at "rd"
      refine ⟨x, tx, rfl, kx, fun c => ?_, qb⟩
      obtain ⟨z, rfl⟩ : ∃ z, x = .bl z := by cases x <;> first | exact ⟨_, rfl⟩ | cases c
      repeat walk_at "rd"
      refine Rd.fldV rfl hb B.cl B.n2 rfl ?_
      repeat walk_at "rd"
      refine ⟨f0, _, rfl, .inl ⟨_, .inr o, bk.fd, rfl, ?_, rfl⟩, ?_⟩
      · rw [tab_len]; exact Rd.szl (by decide)
      · rw [put_tab _ _ _ ho, fput_tab]
        exact qg z rfl
abbrev sBook_twin : Stmt := meth 15 12
abbrev nBook_twin : List Str := ["self", "book"]
theorem scBook_twin : FnScope nBook_twin ["self"] (defScope sBook_twin) := ⟨rfl, rfl, rfl, by decide +kernel, rfl, by decide +kernel, by decide +kernel⟩
def spTwin (K : PySem.W.Frag) (C : Addr) : Sp := fun vs H Q _ => ∃ (b w f : Addr) (g : Str → Addr) (m : Str → List Str) (fl : Str → Bool), vs = [.ref b] ∧ Bk K C H b w f g m fl ∧ NewBk K C g m fl Q H
theorem ok_twin (T : Txt K mg) {C pO pM pF : Addr} {gM : Str → Addr} (B : BF K mg C) (t : Tb K w mg pO pM pF gM) (I_Book : Ob.MkCal P w K mg base CX0 C 1 "Book" (spInit C gM)) {f : Addr} {fd : FuncData} (D : Ob.MethAt K "twin" "Book.twin" sBook_twin ["self"] f fd) :
    FnG P w K mg base CX0 3 f fd ["self"] (spTwin K C) := by
  refine Ob.byG D scBook_twin (fun vs H Q E h => ?_) (fun cd A hg outer s H vs Q E hr h => ?_)
  · obtain ⟨_, _, _, _, _, _, rfl, _⟩ := h
    rfl
  · obtain ⟨b, w0, f0, g, m, fl, rfl, bk, q⟩ := h
    obtain ⟨dx, hb⟩ := bk.ins
    refine ⟨_, (pss_cons (ps_set (i := 1) scBook_twin.nd rfl (Or.inl rfl) (Ob.make0 I_Book hg hr (by decide) pass0))
  (pss_cons (ps_fld (pv 1) (pe_callTy (r := Od2.rDictD) Od2.call_dict (by rfl) T.dict (by decide +kernel) (pa_cons (pe_fld (pv 0) (by rfl)) pa_nil)) (by rfl))
  (pss_cons (ps_fld (pv 1) (pe_callTy (r := Od2.rDictD) Od2.call_dict (by rfl) T.dict (by decide +kernel) (pa_cons (pe_fld (pv 0) (by rfl)) pa_nil)) (by rfl))
  (pss_one (ps_ret (pv 1)))))), ?_⟩
    repeat walk_at "rd"
    refine mkBk (fun o ho => (t.tm o ho).2) fun b1 w1 f1 H1 s1 nb nw nf bk1 => ?_
    obtain ⟨dx1, hb1⟩ := bk1.ins
    have bb : b ≠ b1 := fun e => by rw [e, nb] at hb; cases hb
    have keep : ∀ {H2 : Hp} {a : Addr}, Same H1 H2 → H2 a = none → H a = none := fun s2 e => by
      cases z : H _ with
      | none => rfl
      | some u => rw [s2 _ _ (s1 _ _ z)] at e; cases e
    repeat walk_at "rd"
    refine Rd.fldV rfl (s1 _ _ hb) B.cl B.n1 rfl ?_
    repeat walk_at "rd"
    refine ⟨w0, _, rfl, .inl (s1 _ _ bk.wd), fun d hd => ?_⟩
    have s2 := Rd.sNew (o := .dK (tab ops fun o => .ref (g o))) hd
    repeat walk_at "rd"
    refine ⟨b1, C, dx1, _, rfl, s2 _ _ hb1, B.cl, B.n1, by simp, ?_⟩
    have e1 : putF "_ways" (.ref d) [(("_ways" : Str), V.ref w1), (("_flags" : Str), V.ref f1)] = [(("_ways" : Str), V.ref d), (("_flags" : Str), V.ref f1)] := rfl
    rw [e1]
    have d1 : d ≠ b1 := fun e => by rw [e, hb1] at hd; cases hd
    repeat walk_at "rd"
    refine Rd.fldV rfl (by rw [upd_ne bb]; exact s2 _ _ (s1 _ _ hb)) B.cl B.n2 rfl ?_
    repeat walk_at "rd"
    have ff : f0 ≠ b1 := fun e => by have := bk.fd; rw [e, nb] at this; cases this
    refine ⟨f0, _, rfl, .inl (by rw [upd_ne ff]; exact s2 _ _ (s1 _ _ bk.fd)), fun e he => ?_⟩
    have eb : e ≠ b1 := fun z => by rw [z, upd_same] at he; cases he
    rw [upd_ne eb] at he
    have ed : e ≠ d := fun z => by rw [z, upd_same] at he; cases he
    rw [upd_ne ed] at he
    repeat walk_at "rd"
    refine ⟨b1, C, dx1, _, rfl, by rw [upd_ne (fun z => eb z.symm), upd_same], B.cl, B.n2, by simp, ?_⟩
    have e2 : putF "_flags" (.ref e) [(("_ways" : Str), V.ref d), (("_flags" : Str), V.ref f1)] = [(("_ways" : Str), V.ref d), (("_flags" : Str), V.ref e)] := rfl
    rw [e2]
    repeat walk_at "rd"
    have fin : Same H (upd (upd (upd (upd H1 d (.dK (tab ops fun o => .ref (g o)))) b1 (.ins C dx1 [("_ways", .ref d), ("_flags", .ref f1)])) e (.dK (tab flagsW fun x => .bl (fl x)))) b1 (.ins C dx1 [("_ways", .ref d), ("_flags", .ref e)])) := fun a u z => by
      have z1 := s1 _ _ z
      rw [upd_ne (ne_of_none z nb), upd_ne (ne_of_none z1 he), upd_ne (ne_of_none z nb), upd_ne (ne_of_none z1 hd)]
      exact z1
    refine q b1 d e _ fin nb (keep (Same.refl _) hd) (keep (Same.refl _) he) ⟨⟨dx1, upd_same⟩, ?_, ?_, fun o ho => sqT_same fin (bk.tp o ho), fun z => ed z.symm⟩
    · rw [upd_ne d1, upd_ne (fun z => ed z.symm), upd_ne d1, upd_same]
    · rw [upd_ne eb, upd_same]
abbrev sBook_listed : Stmt := meth 15 13
abbrev nBook_listed : List Str := ["self"]
theorem scBook_listed : FnScope nBook_listed ["self"] (defScope sBook_listed) := ⟨rfl, rfl, rfl, by decide +kernel, rfl, by decide +kernel, by decide +kernel⟩
def spListed (K : PySem.W.Frag) (C : Addr) : Sp := fun vs H Q _ => ∃ (b w f : Addr) (g : Str → Addr) (m : Str → List Str) (fl : Str → Bool), vs = [.ref b] ∧ Bk K C H b w f g m fl ∧ ∀ p, H p = none → Q (.ref p) (upd H p (.lst (ops.map V.str)))
theorem ok_listed (T : Txt K mg) {C : Addr} (B : BF K mg C) {f : Addr} {fd : FuncData} (D : Ob.MethAt K "listed" "Book.listed" sBook_listed ["self"] f fd) : FnG P w K mg base CX0 1 f fd ["self"] (spListed K C) := by
  refine Ob.byG D scBook_listed (fun vs H Q E h => ?_) (fun cd A hg outer s H vs Q E hr h => ?_)
  · obtain ⟨_, _, _, _, _, _, rfl, _⟩ := h
    rfl
  · obtain ⟨b, w0, f0, g, m, fl, rfl, bk, q⟩ := h
    obtain ⟨dx, hb⟩ := bk.ins
    refine ⟨_, (pss_one (ps_ret (pe_callTy (r := rListD) (call_list_dK rfl) (by rfl) T.list (by decide +kernel) (pa_cons (pe_fld (pv 0) (by rfl)) pa_nil)))), ?_⟩
    repeat walk_at "rd"
    refine Rd.fldV rfl hb B.cl B.n1 rfl ?_
    repeat walk_at "rd"
    refine ⟨w0, _, rfl, bk.wd, fun p hp => ?_⟩
    have e : ((tab ops fun o => V.ref (g o)).map fun kv => kV kv.1) = ops.map V.str := by simp [tab, kV]
    rw [e]
    exact q p hp
abbrev sBook___len__ : Stmt := meth 15 16
abbrev nBook___len__ : List Str := ["self"]
theorem scBook___len__ : FnScope nBook___len__ ["self"] (defScope sBook___len__) := ⟨rfl, rfl, rfl, by decide +kernel, rfl, by decide +kernel, by decide +kernel⟩
def spLen (K : PySem.W.Frag) (C : Addr) : Sp := fun vs H Q _ => ∃ (b w f : Addr) (g : Str → Addr) (m : Str → List Str) (fl : Str → Bool), vs = [.ref b] ∧ Bk K C H b w f g m fl ∧ Q (.int 12) H
theorem ok_len (T : Txt K mg) {C : Addr} (B : BF K mg C) {f : Addr} {fd : FuncData} (D : Ob.MethAt K "__len__" "Book.__len__" sBook___len__ ["self"] f fd) : FnG P w K mg base CX0 1 f fd ["self"] (spLen K C) := by
  refine Ob.byG D scBook___len__ (fun vs H Q E h => ?_) (fun cd A hg outer s H vs Q E hr h => ?_)
  · obtain ⟨_, _, _, _, _, _, rfl, _⟩ := h
    rfl
  · obtain ⟨b, w0, f0, g, m, fl, rfl, bk, q⟩ := h
    obtain ⟨dx, hb⟩ := bk.ins
    refine ⟨_, (pss_one (ps_ret (pe_callB call_lenD (by rfl) T.len PySem.boot_len (pa_cons (pe_fld (pv 0) (by rfl)) pa_nil)))), ?_⟩
    repeat walk_at "rd"
    refine Rd.fldV rfl hb B.cl B.n1 rfl ?_
    repeat walk_at "rd"
    refine ⟨w0, _, rfl, bk.wd, ?_⟩
    rw [tab_len]
    exact q
/-- what isinstance asks of the class -/
structure IC (K : PySem.W.Frag) (C : Addr) : Prop where
  hc : PySem.W.findIn K (.ref C) "__class__" = some (some (.builtin "object.__class__"))
  hs : PySem.W.specialIn K (.builtin "object.__class__") "__get__" = some (some (.builtin "getset_descriptor.__get__"))
  ht : PySem.W.takesIn K (.builtin "object.__class__") = some true
theorem bk_ty {C : Addr} (B : BF K mg C) (c : IC K C) {H : Hp} {b w f : Addr} {g : Str → Addr} {m : Str → List Str} {fl : Str → Bool} (bk : Bk K C H b w f g m fl) : TyX K H (.ref b) (.ref C) := by
  obtain ⟨dx, hb⟩ := bk.ins
  exact .base (.ins hb B.cl c.hc c.hs c.ht B.ob)
theorem kit_self {C : Addr} : PySem.W.kitOne K (.ref C) (.ref C) = some true := by
  show (if (Value.ref C == Value.ref C) = true then some true else _) = _
  rw [if_pos (beq_self_eq_true _)]
def bookEq (m m' : Str → List Str) (fl fl' : Str → Bool) : Bool := eqWays m m' && eqFlags fl fl'
abbrev sBook___eq__ : Stmt := meth 15 14
abbrev nBook___eq__ : List Str := ["self", "other"]
theorem scBook___eq__ : FnScope nBook___eq__ ["self", "other"] (defScope sBook___eq__) := ⟨rfl, rfl, rfl, by decide +kernel, rfl, by decide +kernel, by decide +kernel⟩
def spBEq (K : PySem.W.Frag) (C : Addr) : Sp := fun vs H Q _ => ∃ (b w f : Addr) (g : Str → Addr) (m : Str → List Str) (fl : Str → Bool) (y : V), vs = [.ref b, y] ∧ Bk K C H b w f g m fl ∧ OkM m ∧
  ((∃ t, TyX K H y t ∧ PySem.W.kitOne K t (.ref C) = some false ∧ Q (.bl false) H) ∨ ∃ (c w' f' : Addr) (g' : Str → Addr) (m' : Str → List Str) (fl' : Str → Bool), y = .ref c ∧ Bk K C H c w' f' g' m' fl' ∧ OkM m' ∧ Q (.bl (bookEq m m' fl fl')) H)
theorem ok_beq (T : Txt K mg) {C_Book : Addr} (K_Book : BF K mg C_Book) (ic : IC K C_Book) {f : Addr} {fd : FuncData} (D : Ob.MethAt K "__eq__" "Book.__eq__" sBook___eq__ ["self", "other"] f fd) : FnG P w K mg base CX0 1 f fd ["self", "other"] (spBEq K C_Book) := by
  refine Ob.byG D scBook___eq__ (fun vs H Q E h => ?_) (fun cd A hg outer s H vs Q E hr h => ?_)
  · obtain ⟨_, _, _, _, _, _, _, rfl, _⟩ := h
    rfl
  · obtain ⟨b, w0, f0, g, m, fl, y, rfl, bk, om, h⟩ := h
    obtain ⟨dx, hb⟩ := bk.ins
    refine ⟨_, (pss_one (ps_ret (pe_and (pe_callB (r := rIsi K) call_isi (by rfl) T.isinstance (by decide +kernel) (pa_cons (pv 1) (pa_cons (pe_glob (v := .ref C_Book) (by rfl) K_Book.g rfl) pa_nil))) (pe_and (pe_cmpR (r := Ob.rEqX K false) (Ob.op_eqX (un80 hr)) (pe_fld (pv 0) (by rfl)) (pe_fld (pv 1) (by rfl)) (nomark _)) (pe_one (pe_cmpR (r := Ob.rEqX K false) (Ob.op_eqX (un80 hr)) (pe_fld (pv 0) (by rfl)) (pe_fld (pv 1) (by rfl)) (nomark _))))))), ?_⟩
    repeat walk_at "rd"
    rcases h with ⟨t, ty, kt, q⟩ | ⟨c, w', f', g', m', fl', rfl, bk', om', q⟩
    · refine ⟨y, .ref C_Book, t, .ref C_Book, false, rfl, .own _, ty, kt, ?_⟩
      repeat walk_at "rd"
      exact Rd.ff_ q
    · obtain ⟨dy, hc⟩ := bk'.ins
      refine ⟨.ref c, .ref C_Book, .ref C_Book, .ref C_Book, true, rfl, .own _, bk_ty K_Book ic bk', kit_self, ?_⟩
      repeat walk_at "rd"
      refine Rd.tt_ ?_
      repeat walk_at "rd"
      refine Rd.fldV rfl hb K_Book.cl K_Book.n1 rfl ?_
      refine Rd.fldV rfl hc K_Book.cl K_Book.n1 rfl ?_
      obtain ⟨ks, ls, r, h1, h2, h3, h4⟩ := eq_ways bk.wd bk'.wd bk.tp bk'.tp om om'
      refine ⟨w0, w', ks, ls, r, rfl, rfl, h1, h2, h3, ?_⟩
      rw [if_neg Bool.false_ne_true, h4]
      refine ⟨_, rfl, ?_⟩
      refine Rd.bool (fun c => ?_) (fun c => ?_)
      · repeat walk_at "rd"
        refine Rd.fldV rfl hb K_Book.cl K_Book.n2 rfl ?_
        refine Rd.fldV rfl hc K_Book.cl K_Book.n2 rfl ?_
        obtain ⟨ks, ls, r, h1, h2, h3, h4⟩ := eq_flags (K := K) bk.fd bk'.fd
        refine ⟨f0, f', ks, ls, r, rfl, rfl, h1, h2, h3, ?_⟩
        rw [if_neg Bool.false_ne_true, h4]
        rw [bookEq, c, Bool.true_and] at q
        exact q
      · rw [bookEq, c, Bool.false_and] at q
        exact q
end
end Ab
namespace Ab
open PySem.Spec PyProof.Rows
local macro_rules | `(tactic| walk_at "rd") => `(tactic| (with_reducible first | refine Rd.sfld ?_ | refine Rd.dget ?_ | refine Rd.methR ?_ | refine Rd.propR ?_ | refine Rd.statR ?_ | refine Rd.getR ?_))
def mput (m : Str → List Str) (o : Str) (ws : List Str) : Str → List Str := fun x => if x = o then ws else m x
section
variable {K : PySem.W.Frag} {C : Addr} {H H1 : Hp} {b w f p : Addr} {g : Str → Addr} {m m' : Str → List Str} {fl fl' : Str → Bool} {o : Str} {ws : List Str} {c : Bool}
theorem Bk.setW (k : Bk K C H b w f g m fl) (s : Same H H1) (hp : SqT K H1 p (ws.map V.str)) : Bk K C (upd H1 w (.dK (tab ops fun y => .ref (gput g o p y)))) b w f (gput g o p) (mput m o ws) fl := by
  have k1 := k.mono s
  have nt := nt_dK k1.wd
  obtain ⟨dx, hb⟩ := k1.ins
  refine ⟨⟨dx, ?_⟩, upd_same, ?_, fun y hy => ?_, k.ne⟩
  · rw [upd_ne (fun e => by rw [e, k1.wd] at hb; cases hb)]; exact hb
  · rw [upd_ne (fun e => k.ne e.symm)]; exact k1.fd
  · unfold gput mput
    by_cases e : y = o
    · rw [if_pos e, if_pos e]; exact sqT_upd nt hp
    · rw [if_neg e, if_neg e]; exact sqT_upd nt (k1.tp y hy)
theorem Bk.setF (k : Bk K C H b w f g m fl) : Bk K C (upd H f (.dK (tab flagsW fun y => .bl (fput fl o c y)))) b w f g m (fput fl o c) := by
  have nt := nt_dK k.fd
  obtain ⟨dx, hb⟩ := k.ins
  refine ⟨⟨dx, ?_⟩, ?_, upd_same, fun y hy => sqT_upd nt (k.tp y hy), k.ne⟩
  · rw [upd_ne (fun e => by rw [e, k.fd] at hb; cases hb)]; exact hb
  · rw [upd_ne k.ne]; exact k.wd
theorem Bk.congr (k : Bk K C H b w f g m fl) (h : ∀ o ∈ ops, m o = m' o) (h' : ∀ x ∈ flagsW, fl x = fl' x) : Bk K C H b w f g m' fl' :=
  ⟨k.ins, k.wd, by rw [k.fd, tab_congr (fun x hx => by rw [h' x hx])], fun o ho => by rw [← h o ho]; exact k.tp o ho, k.ne⟩
end
def bareM (o : Str) : List Str := (menu o).take 1
theorem bare_ok : ∀ o ∈ ops, waysOk o ((bareM o).map V.str) = true := by decide +kernel
theorem bare_len : ∀ o ∈ ops, (menu o).length ≤ 4 ∧ 1 ≤ (menu o).length := by decide +kernel
theorem sixN (n : Nat) : HT.sIx n 0 none = 0 := by rfl
theorem cut1 (l : List Str) : cutV (l.map V.str) none (some 1) = (l.take 1).map V.str := by
  cases l with
  | nil => rfl
  | cons a l => simp [cutV, HT.sIx]
section
variable {P : Program} {w : World} {K : PySem.W.Frag} {mg : Str → Option Value} {base : Heap}
theorem forT {tl : TE} {g : TG} {tb : TS} {D : Ends} {σ : L2.St} {H : Hp} (k : tl σ H fun x H1 => tFor (iTup K (tC x)) g tb D σ H1) : tFor (iTup K tl) g tb D σ H := k
/-- a for over a tuple of texts of the top -/
theorem forS {j : Nat} {tb : TS} {D : Ends} {σ : L2.St} {H : Hp} {a : Addr} {l : List Str} (t : ∀ H, SqT K H a (l.map V.str)) (Pv : Nat → L2.St → Hp → Prop) (h0 : Pv 0 σ H)
    (hs : ∀ i (hi : i < l.length) σ1 H1, Pv i σ1 H1 → tb { D with nx := Pv (i + 1), ct := Pv (i + 1), bk := D.nx } (σ1.set j (some (.str l[i]))) H1) (hd : ∀ σ1 H1, Pv l.length σ1 H1 → D.nx σ1 H1) : tFor (iTup K (tC (.ref a))) (gName j) tb D σ H := by
  refine ⟨a, rfl, ⟨_, t H⟩, ?_⟩
  refine for_tup (K := K) (a := a) (xs := l.map V.str) Pv h0 (fun i σ1 H1 _ _ => t H1) (fun i x σ1 H1 hx p => ?_) (fun σ1 H1 p => hd σ1 H1 (by rw [List.length_map] at p; exact p))
  obtain ⟨hi, e⟩ := List.getElem?_eq_some_iff.mp hx
  rw [List.length_map] at hi
  rw [List.getElem_map] at e
  subst e
  exact hs i hi σ1 H1 p
abbrev sBook_bare : Stmt := meth 15 2
abbrev nBook_bare : List Str := ["book", "operation", "word"]
theorem scBook_bare : FnScope nBook_bare [] (defScope sBook_bare) := ⟨rfl, rfl, rfl, by decide +kernel, rfl, by decide +kernel, by decide +kernel⟩
def spBare (K : PySem.W.Frag) (C : Addr) : Sp := fun vs H Q _ => vs = [] ∧ ∀ g, NewBk K C g bareM (fun _ => false) Q H
theorem ok_bare (T : Txt K mg) {C_Book CN CW CF p_OPERATIONS p_MENUS p_FLAGS : Addr} {gM : Str → Addr} (K_Book : BF K mg C_Book) (t : Tb K w mg p_OPERATIONS p_MENUS p_FLAGS gM) (I_Book : Ob.MkCal P w K mg base CX0 C_Book 1 "Book" (spInit C_Book gM)) (U_Book : Ob.GetCal P w K mg base (L2.CX P w) C_Book 4 "__setitem__" (spSet K C_Book CN CW))
    (M_Book_set_flag : Ob.MCal P w K mg base (L2.CX P w) C_Book 4 "set_flag" (spSetFlag K C_Book CN CF)) {f : Addr} {fd : FuncData} (D : Ob.MethAt K "bare" "Book.bare" sBook_bare [] f fd) : FnG P w K mg base CX0 5 f fd [] (spBare K C_Book) := by
  have g_OPERATIONS := t.o
  have g_MENUS := t.m
  have g_FLAGS := t.f
  refine Ob.byG D scBook_bare (fun vs H Q E h => ?_) (fun cd A hg outer s H vs Q E hr h => ?_)
  · rw [h.1]; rfl
  · obtain ⟨rfl, q⟩ := h
    refine ⟨_, (pss_cons (ps_set (i := 0) scBook_bare.nd rfl (Or.inl rfl) (Ob.make0 I_Book hg hr (by decide) pass0))
  (pss_cons (ps_for (wi := iTup K _) PassesOwn.never rfl (pi_tup (pe_glob (v := .ref p_OPERATIONS) (by rfl) g_OPERATIONS rfl)) (pg_name (i := 1) scBook_bare.nd rfl (Or.inl rfl))
  (pss_one (ps_asg (pe_slice (r := rSlA K) sl_tupA (pe_ix (r := rIxD K w) ix_kdict (pe_glob (v := .ref p_MENUS) (by rfl) g_MENUS rfl) (pv 1) (fun _ _ => rfl)) po_none (po_some pe_int)) (pg_sub (pv 0) (pv 1) (Ob.setO U_Book hg hr (by decide) Ob.px0)))))
  (pss_cons (ps_for (wi := iTup K _) PassesOwn.never rfl (pi_tup (pe_glob (v := .ref p_FLAGS) (by rfl) g_FLAGS rfl)) (pg_name (i := 2) scBook_bare.nd rfl (Or.inl rfl))
  (pss_one (ps_expr (Ob.meth (pv 0) K_Book.cl M_Book_set_flag hg hr (by decide) Ob.px0 (pa_cons (pv 2) (pa_cons pe_bl pa_nil))))))
  (pss_one (ps_ret (pv 0)))))), ?_⟩
    repeat walk_at "rd"
    refine mkBk (fun o ho => (t.tm o ho).2) fun b w0 f0 H1 s1 nb nw nf bk => ?_
    repeat walk_at "rd"
    refine forT ?_
    repeat walk_at "rd"
    refine forS t.to (fun i σ1 H2 => σ1[0]? = some (some (.ref b)) ∧ σ1.length = 3 ∧ Same H H2 ∧ ∃ g m, Bk K C_Book H2 b w0 f0 g m (fun _ => true) ∧ ∀ o ∈ ops.take i, m o = bareM o) ⟨rfl, rfl, s1, gM, menu, bk, fun o ho => by simp at ho⟩ (fun i hi σ1 H2 h => ?_) (fun σ1 H2 h => ?_)
    · obtain ⟨h0, hl, s2, g, m, bk2, hm⟩ := h
      have ho : ops[i] ∈ ops := List.getElem_mem hi
      have l0 : (σ1.set 1 (some (.str ops[i])))[0]? = some (some (.ref b)) := by rw [List.getElem?_set_ne (by decide)]; exact h0
      have l1 : (σ1.set 1 (some (.str ops[i])))[1]? = some (some (.str ops[i])) := by rw [List.getElem?_set_self (by omega)]
      have go : ∀ (p : Addr) (H3 : Hp), Same H2 H3 → SqT K H3 p ((bareM ops[i]).map V.str) → Ow.rSetO C_Book (spSet K C_Book CN CW) E0 (.ref b) (.str ops[i]) (.ref p) H3 fun H4 => (σ1.set 1 (some (.str ops[i])))[0]? = some (some (.ref b)) ∧ (σ1.set 1 (some (.str ops[i]))).length = 3 ∧ Same H H4 ∧ ∃ g m, Bk K C_Book H4 b w0 f0 g m (fun _ => true) ∧ ∀ o ∈ ops.take (i + 1), m o = bareM o := by
        intro p H3 s3 hp
        have bk3 := bk2.mono s3
        obtain ⟨dx, hb⟩ := bk3.ins
        refine ⟨b, dx, _, rfl, hb, b, w0, f0, g, m, _, .str ops[i], .ref p, "str", rfl, bk3, kd_str _, fun c => ?_, fun o eo _ => .inr ⟨p, (bareM ops[i]).map V.str, rfl, hp, ?_, fun y hy H' _ => ?_, fun c => ?_, fun _ H4 s4 => ?_⟩⟩
        · rw [show isIn (.str ops[i]) ops = true from decide_eq_true ho] at c; cases c
        · rw [List.length_map]; have := List.length_take_le 1 (menu ops[i]); unfold bareM; omega
        · obtain ⟨z, _, rfl⟩ := List.mem_map.mp hy
          exact ⟨_, kd_str z⟩
        · rw [← V.str.inj eo, bare_ok _ ho] at c; cases c
        · obtain rfl := V.str.inj eo
          refine ⟨l0, by rw [List.length_set]; exact hl, Rd.sMut ((s2.trans s3).trans s4) nw, _, _, bk3.setW s4 (sqT_same s4 hp), fun o ho' => ?_⟩
          rw [List.take_add_one, List.getElem?_eq_getElem hi] at ho'
          unfold mput
          by_cases e : o = ops[i]
          · rw [if_pos e, e]
          · rw [if_neg e]
            rcases List.mem_append.mp ho' with h' | h'
            · exact hm o h'
            · exact absurd (by simpa using h') e
      repeat walk_at "rd"
      refine Rd.var l1 ?_
      refine ⟨p_MENUS, ops[i], _, rfl, rfl, (t.tm _ ho).1, ?_⟩
      repeat walk_at "rd"
      have hM := (t.tm _ ho).2 H2
      refine ⟨gM ops[i], _, rfl, hM, fun e => ?_, fun e p hp => ?_⟩
      · repeat walk_at "rd"
        refine Rd.var l0 ?_
        refine Rd.var l1 ?_
        refine go _ H2 (Same.refl _) ?_
        have e2 := e.2
        rw [List.length_map] at e2
        have : (bareM ops[i]) = menu ops[i] := by
          obtain ⟨b1, b2⟩ := bare_len _ ho
          unfold bareM
          have : HT.sIx (menu ops[i]).length (menu ops[i]).length (some 1) = 1 := by
            simp [HT.sIx]; omega
          rw [this] at e2
          rw [List.take_of_length_le (by omega)]
        rw [this]; exact hM
      · repeat walk_at "rd"
        refine Rd.var l0 ?_
        refine Rd.var l1 ?_
        refine go p _ (Rd.sNew hp) (.inl (.inl ?_))
        rw [upd_same, cut1]
        rfl
    · obtain ⟨h0, hl, s2, g, m, bk2, hm⟩ := h
      repeat walk_at "rd"
      refine forT ?_
      repeat walk_at "rd"
      refine forS t.tf (fun i σ2 H3 => σ2[0]? = some (some (.ref b)) ∧ σ2.length = 3 ∧ Same H H3 ∧ ∃ fl, Bk K C_Book H3 b w0 f0 g m fl ∧ ∀ o ∈ flagsW.take i, fl o = false) ⟨h0, hl, s2, _, bk2, fun o ho => by simp at ho⟩ (fun i hi σ2 H3 h => ?_) (fun σ2 H3 h => ?_)
      · obtain ⟨h0, hl, s3, fl, bk3, hf⟩ := h
        have ho : flagsW[i] ∈ flagsW := List.getElem_mem hi
        have l0 : (σ2.set 2 (some (.str flagsW[i])))[0]? = some (some (.ref b)) := by rw [List.getElem?_set_ne (by decide)]; exact h0
        have l1 : (σ2.set 2 (some (.str flagsW[i])))[2]? = some (some (.str flagsW[i])) := by rw [List.getElem?_set_self (by omega)]
        obtain ⟨dx, hb⟩ := bk3.ins
        repeat walk_at "rd"
        refine Rd.var l0 ⟨b, dx, _, rfl, hb, rfl, ?_⟩
        repeat walk_at "rd"
        refine Rd.var l1 ?_
        repeat walk_at "rd"
        refine ⟨b, w0, f0, g, m, fl, .str flagsW[i], .bl false, "str", "bool", rfl, bk3, kd_str _, kd_bl _, fun c => ?_, fun o eo _ => ⟨fun c => (by cases c), fun c ec => ?_⟩⟩
        · rw [show isIn (.str flagsW[i]) flagsW = true from decide_eq_true ho] at c; cases c
        · obtain rfl := V.str.inj eo
          obtain rfl := V.bl.inj ec
          refine ⟨l0, by rw [List.length_set]; exact hl, Rd.sMut s3 nf, _, bk3.setF, fun o ho' => ?_⟩
          rw [List.take_add_one, List.getElem?_eq_getElem hi] at ho'
          unfold fput
          by_cases e : o = flagsW[i]
          · rw [if_pos e]
          · rw [if_neg e]
            rcases List.mem_append.mp ho' with h' | h'
            · exact hf o h'
            · exact absurd (by simpa using h') e
      · obtain ⟨h0, hl, s3, fl, bk3, hf⟩ := h
        repeat walk_at "rd"
        refine Rd.var h0 ?_
        rw [List.take_length] at hm hf
        exact q g b w0 f0 H3 s3 nb nw nf (bk3.congr hm hf)
end
structure PoolOk (x y : Int) : Prop where
  x0 : 0 ≤ x
  y0 : 0 ≤ y
  y1 : y < 2147483647
def spTake : Sp := fun vs H Q _ => ∃ (p : Addr) (x y m : Int), vs = [.ref p, .int m] ∧ H p = some (.lst [.int x, .int y]) ∧ PoolOk x y ∧ 0 < m ∧ m < 1000 ∧
  ∀ r x' y' : Int, PoolOk x' y' → 0 ≤ r → r < m → Q (.int r) (upd H p (.lst [.int x', .int y']))
section
variable {P : Program} {w : World} {K : PySem.W.Frag} {mg : Str → Option Value} {base : Heap}
abbrev sL_take : Stmt := top 18
abbrev nL_take : List Str := ["_law_pool_here", "_law_many", "_law_found"]
theorem scL_take : FnScope nL_take ["_law_pool_here", "_law_many"] (defScope sL_take) := ⟨rfl, rfl, rfl, by decide +kernel, rfl, by decide +kernel, by decide +kernel⟩
theorem ok_take (T : Txt K mg) (D : DefAt K mg "_law_take" sL_take ["_law_pool_here", "_law_many"]) : CalG P w K mg base 1 "_law_take" spTake := by
  refine D.by scL_take (fun vs H Q E h => ?_) (fun f cd A hg outer s H vs Q E hr h => ?_)
  · obtain ⟨p, x, y, m, rfl, _⟩ := h
    rfl
  · obtain ⟨p, x, y, m, rfl, hp, ok, m0, m1, k⟩ := h
    refine ⟨_, (pss_cons (ps_if (pt_cmpR op_gt (pe_ix (r := rIxL K) ix_list (pv 0) pe_int (fun _ _ => rfl)) pe_int (nomark _))
  (pss_cons (ps_set (i := 2) scL_take.nd rfl (Or.inl rfl) (pe_op op_modN (pe_callTy call_int1 (by rfl) T.int (by decide +kernel) (pa_cons (pe_ix (r := rIxL K) ix_list (pv 0) pe_int (fun _ _ => rfl)) pa_nil)) (pv 1)))
  (pss_cons (ps_asg (pe_op op_fdivN (pe_ix (r := rIxL K) ix_list (pv 0) pe_int (fun _ _ => rfl)) (pv 1)) (pg_sub (pv 0) pe_int set_list))
  (pss_one (ps_ret (pv 2)))))
  pss_nil)
  (pss_cons (ps_asg (pe_op op_modN (pe_callTy call_int1 (by rfl) T.int (by decide +kernel) (pa_cons (pe_op op_add (pe_op op_mul (pe_ix (r := rIxL K) ix_list (pv 0) pe_int (fun _ _ => rfl)) pe_int) pe_int) pa_nil)) pe_int) (pg_sub (pv 0) pe_int set_list))
  (pss_one (ps_ret (pe_op op_modN (pe_op op_fdivN (pe_op op_modN (pe_callTy call_int1 (by rfl) T.int (by decide +kernel) (pa_cons (pe_op op_mul (pe_ix (r := rIxL K) ix_list (pv 0) pe_int (fun _ _ => rfl)) (pe_ix (r := rIxL K) ix_list (pv 0) pe_int (fun _ _ => rfl))) pa_nil)) pe_int) pe_int) (pv 1)))))), ?_⟩
    repeat walk_at "rd"
    refine Rd.dec (fun c => ?_) (fun c => ?_)
    · repeat walk_at "rd"
      have e := Int.fdiv_eq_ediv_of_nonneg x (Int.le_of_lt m0)
      have e' := Int.fmod_eq_emod_of_nonneg x (Int.le_of_lt m0)
      have a := Int.emod_nonneg x (show m ≠ 0 by omega)
      have b := Int.emod_lt_of_pos x m0
      have d := Int.ediv_nonneg (a := x) (b := m) (by omega) (by omega)
      exact k _ _ _ ⟨by omega, ok.y0, ok.y1⟩ (by omega) (by omega)
    · have y0 := ok.y0
      have y1 := ok.y1
      obtain ⟨z0, z1⟩ := Rd.fm (i := y * 48271 + 11) (m := 2147483647) (by decide)
      repeat walk_at "rd"
      obtain ⟨r0, r1⟩ := Rd.fm (i := ((((y * 48271 + 11).fmod 2147483647) * ((y * 48271 + 11).fmod 2147483647)).fmod 2147483629).fdiv 64) m0
      exact k _ _ _ ⟨ok.x0, z0, z1⟩ r0 r1
def spPool (K : PySem.W.Frag) : Sp := fun vs H Q _ => ∃ (a : Addr) (ns : List Int) (k : Int), vs = [.ref a, .int k] ∧ SqL K H a (ns.map V.int) ∧ 0 ≤ k ∧ k < 1000 ∧
  ∀ (p : Addr) (x y : Int), H p = none → PoolOk x y → Q (.ref p) (upd H p (.lst [.int x, .int y]))
abbrev sL_pool : Stmt := top 17
abbrev nL_pool : List Str := ["_law_script", "_law_k", "_law_cell", "_law_size", "_law_seed"]
theorem scL_pool : FnScope nL_pool ["_law_script", "_law_k"] (defScope sL_pool) := ⟨rfl, rfl, rfl, by decide +kernel, rfl, by decide +kernel, by decide +kernel⟩
theorem ok_pool (T : Txt K mg) (D : DefAt K mg "_law_pool" sL_pool ["_law_script", "_law_k"]) : CalG P w K mg base 1 "_law_pool" (spPool K) := by
  refine D.by scL_pool (fun vs H Q E h => ?_) (fun f cd A hg outer s H vs Q E hr h => ?_)
  · obtain ⟨a, ns, k, rfl, _⟩ := h
    rfl
  · obtain ⟨a, ns, k, rfl, hS, k0, k1, q⟩ := h
    refine ⟨_, (pss_cons (ps_set (i := 2) scL_pool.nd rfl (Or.inl rfl) pe_int)
  (pss_cons (ps_if (pt_cmpR op_lt (pv 1) (pe_callB (r := Rd.rLenK K) Rd.callLen (by rfl) T.len PySem.boot_len (pa_cons (pv 0) pa_nil)) (nomark _))
  (pss_one (ps_set (i := 2) scL_pool.nd rfl (Or.inl rfl) (pe_ix (r := rIxL K) ix_list (pv 0) (pv 1) (fun _ _ => rfl))))
  pss_nil)
  (pss_cons (ps_set (i := 3) scL_pool.nd rfl (Or.inl rfl) (pe_callB (call_max2 rfl) (by rfl) T.max (by decide +kernel) (pa_cons (pv 2) (pa_cons (pe_op op_sub (pe_un un_neg pe_int) (pv 2)) pa_nil))))
  (pss_cons (ps_set (i := 4) scL_pool.nd rfl (Or.inl rfl) (pe_callTy call_int1 (by rfl) T.int (by decide +kernel) (pa_cons (pe_op op_add (pe_op op_add (pe_op op_modN (pe_callTy call_int1 (by rfl) T.int (by decide +kernel) (pa_cons (pv 3) pa_nil)) pe_int) (pe_op op_mul pe_int (pv 1))) pe_int) pa_nil)))
  (pss_one (ps_ret (pe_lst (pa_cons (pe_op op_mul (pv 3) (pe_callTy call_int1 (by rfl) T.int (by decide +kernel) (pa_cons (pe_cmpR op_ge (pv 3) (pe_op op_pow pe_int pe_int) (nomark _)) pa_nil))) (pa_cons (pe_op op_modN (pe_op op_mul (pv 4) pe_int) pe_int) pa_nil))))))))), ?_⟩
    repeat walk_at "rd"
    have fin : ∀ (sz : Int) (k1 : Int), 0 ≤ sz → 0 ≤ k1 → k1 < 1000 → PoolOk (sz * (if decide ((10 : Int) ^ (Int.toNat 18) ≤ sz) = true then 1 else 0)) (((sz.fmod 2147483629 + 7919 * k1 + 104729) * 48271).fmod 2147483647) := by
      intro sz k1 h0 h1 h2
      obtain ⟨y0, y1⟩ := Rd.fm (i := (sz.fmod 2147483629 + 7919 * k1 + 104729) * 48271) (m := 2147483647) (by decide)
      refine ⟨?_, y0, y1⟩
      split
      · omega
      · omega
    refine Rd.dec (fun c => ?_) (fun c => ?_)
    · repeat walk_at "rd"
      obtain ⟨cell, ix⟩ := Rd.at_int k0 c
      refine Rd.ixL hS ix ?_
      have sz0 : 0 ≤ (if (-1 : Int) - cell > cell then -1 - cell else cell) := by split <;> omega
      have fmz := Rd.fm (i := (if (-1 : Int) - cell > cell then -1 - cell else cell)) (m := 2147483629) (by decide)
      repeat walk_at "rd"
      refine ⟨Rd.sz (by simp), fun p hp => ?_⟩
      exact q p _ _ hp (fin _ _ sz0 k0 k1)
    · have sz0 : 0 ≤ (if (-1 : Int) - 0 > 0 then -1 - 0 else (0 : Int)) := by split <;> omega
      have fmz := Rd.fm (i := (if (-1 : Int) - 0 > 0 then -1 - 0 else (0 : Int))) (m := 2147483629) (by decide)
      repeat walk_at "rd"
      refine ⟨Rd.sz (by simp), fun p hp => ?_⟩
      exact q p _ _ hp (fin _ _ sz0 k0 k1)
/-- one of a list's items, by the pool -/
def spOne (K : PySem.W.Frag) : Sp := fun vs H Q _ => ∃ (p l : Addr) (x y : Int) (xs : List V), vs = [.ref p, .ref l] ∧ H p = some (.lst [.int x, .int y]) ∧ SqL K H l xs ∧ (∀ o, SqL K (upd H p o) l xs) ∧ PoolOk x y ∧ 0 < xs.length ∧ xs.length < 1000 ∧
  ∀ (v : V) (x' y' : Int), v ∈ xs → PoolOk x' y' → Q v (upd H p (.lst [.int x', .int y']))
abbrev sL_one : Stmt := top 19
abbrev nL_one : List Str := ["_law_pool_here", "_law_some_here"]
theorem scL_one : FnScope nL_one ["_law_pool_here", "_law_some_here"] (defScope sL_one) := ⟨rfl, rfl, rfl, by decide +kernel, rfl, by decide +kernel, by decide +kernel⟩
theorem ok_one (T : Txt K mg) (D : DefAt K mg "_law_one" sL_one ["_law_pool_here", "_law_some_here"]) (CL_take : CalG P w K mg base 1 "_law_take" spTake) : CalG P w K mg base 2 "_law_one" (spOne K) := by
  refine D.by scL_one (fun vs H Q E h => ?_) (fun f cd A hg outer s H vs Q E hr h => ?_)
  · obtain ⟨a, ns, k, _, _, rfl, _⟩ := h
    rfl
  · obtain ⟨p, l, x, y, xs, rfl, hp, hl, hl2, ok, l0, l1, q⟩ := h
    refine ⟨_, (pss_one (ps_ret (pe_ix (r := rIxL K) ix_list (pv 1) (pe_cG CL_take hg hr (by decide) (pa_cons (pv 0) (pa_cons (pe_callB (r := Rd.rLenK K) Rd.callLen (by rfl) T.len PySem.boot_len (pa_cons (pv 1) pa_nil)) pa_nil))) (fun _ _ => rfl)))), ?_⟩
    repeat walk_at "rd"
    refine ⟨p, x, y, _, rfl, hp, ok, by omega, by omega, fun r x' y' ok' r0 r1 => ?_⟩
    have hr : r.toNat < xs.length := by omega
    exact Rd.ixL (hl2 _) (Rd.atN r0 (List.getElem?_eq_getElem hr)) (q _ _ _ (List.getElem_mem hr) ok')
end
end Ab
namespace Ab
open PySem.Spec PyProof.Rows
local macro_rules | `(tactic| walk_at "rd") => `(tactic| (with_reducible first | refine Rd.sfld ?_ | refine Rd.dget ?_ | refine Rd.methR ?_ | refine Rd.propR ?_ | refine Rd.statR ?_ | refine Rd.getR ?_))
theorem disp {trs : List (TE × TE)} {σ : L2.St} {H : Hp} {Q : VK} (k : ∀ p, H p = none → tPairs trs σ (upd H p (.dK [])) fun ps H2 => H2 p = some (.dK []) ∧ ∃ kvs : List (Key × V), ps = kvs.map (fun kv => (kV kv.1, kv.2)) ∧ kvs.length ≤ 15 ∧ Q (.ref p) (upd H2 p (.dK (mergeK [] kvs)))) : tDisp trs σ H Q := k
theorem pcons {tk tv : TE} {r : List (TE × TE)} {σ : L2.St} {H : Hp} {Q : List (V × V) → Hp → Prop} (k : tk σ H fun x H1 => tv σ H1 fun y H2 => tPairs r σ H2 fun ps H3 => Q ((x, y) :: ps) H3) : tPairs ((tk, tv) :: r) σ H Q := k
theorem pnil {σ : L2.St} {H : Hp} {Q : List (V × V) → Hp → Prop} (k : Q [] H) : tPairs [] σ H Q := k
theorem gtup {K : PySem.W.Frag} {a : Addr} {xs : List V} {n : Nat} {t : TGs} {σ : L2.St} {H : Hp} {Q : L2.St → Hp → Prop} (h : SqT K H a xs) (l : xs.length = n) (k : t xs σ H Q) : gTup K n t (.ref a) σ H Q := ⟨a, xs, rfl, h, l, k⟩
theorem gc {t : TG} {u : TGs} {v : V} {r : List V} {σ : L2.St} {H : Hp} {Q : L2.St → Hp → Prop} (k : t v σ H fun σ' H' => u r σ' H' Q) : gCons t u (v :: r) σ H Q := ⟨v, r, rfl, k⟩
theorem gn {σ : L2.St} {H : Hp} {Q : L2.St → Hp → Prop} (k : Q σ H) : gNil [] σ H Q := ⟨rfl, k⟩
theorem Same.fr {H H' : Hp} {p : Addr} (s : Same H H') (h : H' p = none) : H p = none := by
  cases z : H p with
  | none => rfl
  | some u => rw [s _ _ z] at h; cases h
/-- a dict of ways in the making -/
structure Mg (K : PySem.W.Frag) (H Hc : Hp) (d : Addr) (l : List Str) (g : Str → Addr) : Prop where
  s : Same H Hc
  f : H d = none
  d : Hc d = some (.dK (tab l fun o => .ref (g o)))
  t : ∀ o ∈ l, SqT K Hc (g o) ((menu o).map V.str)
theorem setM {K : PySem.W.Frag} {H Hc H1 : Hp} {d p : Addr} {l : List Str} {g : Str → Addr} {x : Str} {Q : Hp → Prop} (m : Mg K H Hc d l g) (s : Same Hc H1) (hp : SqT K H1 p ((menu x).map V.str)) (nx : x ∉ l) (z : l.length ≤ 100)
    (k : ∀ H2 g2, Mg K H H2 d (l ++ [x]) g2 → (∀ q xs, SqT K H1 q xs → SqT K H2 q xs) → Q H2) : rSetD (.ref d) (.str x) (.ref p) H1 Q := by
  have hd := s _ _ m.d
  refine ⟨d, _, rfl, .inl ⟨_, .inr x, hd, rfl, by rw [tab_len]; exact Rd.szl (by omega), rfl⟩, ?_⟩
  have nt := nt_dK hd
  refine k _ (gput g x p) ⟨Rd.sMut (m.s.trans s) m.f, m.f, ?_, fun o ho => ?_⟩ (fun q xs h => sqT_upd nt h)
  · rw [upd_same, putK_new _ _ _ nx]
    have e : tab l (fun o => V.ref (g o)) = tab l fun o => V.ref (gput g x p o) := tab_congr fun o ho => by
      unfold gput
      rw [if_neg (fun e => nx (by rw [← e]; exact ho))]
    rw [e, show (Sum.inr x, V.ref p) = ((Sum.inr x : Key), V.ref (gput g x p x)) by unfold gput; rw [if_pos rfl], tab_snoc l (fun o => V.ref (gput g x p o))]
  · refine sqT_upd nt ?_
    unfold gput
    by_cases e : o = x
    · rw [if_pos e, e]; exact hp
    · rw [if_neg e]
      rcases List.mem_append.mp ho with h | h
      · exact sqT_same s (m.t o h)
      · exact absurd (by simpa using h) e
/-- all but what stands at p stays -/
def Keep (p : Addr) (H H' : Hp) : Prop := ∀ b o, b ≠ p → H b = some o → H' b = some o
theorem Keep.same {p : Addr} {H H1 : Hp} (s : Same H H1) : Keep p H H1 := fun b u _ e => s b u e
theorem Keep.put {p : Addr} {H H1 : Hp} {o : HO} (a : Keep p H H1) : Keep p H (upd H1 p o) := fun b u n e => by rw [upd_ne n]; exact a b u n e
theorem Keep.trans {p : Addr} {H H1 H2 : Hp} (a : Keep p H H1) (b : Keep p H1 H2) : Keep p H H2 := fun q u n e => b q u n (a q u n e)
theorem Keep.new {p q : Addr} {H H1 : Hp} {o : HO} (a : Keep p H H1) (h : H1 q = none) : Keep p H (upd H1 q o) := fun b u n e => by
  have := a b u n e
  rw [upd_ne (ne_of_none this h)]
  exact this
theorem Keep.mut {p q : Addr} {H H1 : Hp} {o : HO} (a : Keep p H H1) (h : H q = none) : Keep p H (upd H1 q o) := fun b u n e => by
  rw [upd_ne (ne_of_none e h)]
  exact a b u n e
theorem sqT_keep {K : PySem.W.Frag} {p a : Addr} {H H' : Hp} {xs : List V} (k : Keep p H H') (n : NoTup H p) (h : SqT K H a xs) : SqT K H' a xs := by
  rcases h with (h | ⟨o, h⟩) | h
  · exact .inl (.inl (k _ _ (fun e => by subst e; exact (n _ h).1 _ rfl) h))
  · exact .inl (.inr ⟨o, k _ _ (fun e => by subst e; exact (n _ h).2 _ _ rfl) h⟩)
  · exact .inr h
theorem eras_str (l : List Str) (k : Nat) : (l.map V.str).eraseIdx k = (l.eraseIdx k).map V.str := by
  induction l generalizing k with
  | nil => rfl
  | cons a l ih =>
    cases k with
    | zero => rfl
    | succ k => show _ :: _ = _ :: _; rw [ih]
theorem perm_eras {l : List Str} {k : Nat} (h : k < l.length) : (l[k] :: l.eraseIdx k).Perm l := by
  induction l generalizing k with
  | nil => simp at h
  | cons a l ih =>
    cases k with
    | zero => exact List.Perm.refl _
    | succ k =>
      have := ih (k := k) (by simpa using h)
      exact (List.Perm.swap _ _ _).trans (this.cons a)
section
variable {P : Program} {w : World} {K : PySem.W.Frag} {mg : Str → Option Value} {base : Heap}
abbrev sL_menus : Stmt := top 20
abbrev nL_menus : List Str := ["_law_two", "_law_found"]
theorem scL_menus : FnScope nL_menus [] (defScope sL_menus) := ⟨rfl, rfl, rfl, by decide +kernel, rfl, by decide +kernel, by decide +kernel⟩
def spMenus (K : PySem.W.Frag) : Sp := fun vs H Q _ => vs = [] ∧ ∀ d g H', Mg K H H' d ops g → Q (.ref d) H'
theorem ok_menus (D : DefAt K mg "_law_menus" sL_menus []) : CalG P w K mg base 1 "_law_menus" (spMenus K) := by
  refine D.by scL_menus (fun vs H Q E h => ?_) (fun f cd A hg outer s H vs Q E hr h => ?_)
  · rw [h.1]; rfl
  · obtain ⟨rfl, q⟩ := h
    refine ⟨_, (pss_cons (ps_set (i := 0) scL_menus.nd rfl (Or.inl rfl) (pe_tup (pa_cons pe_str (pa_cons pe_str pa_nil))))
  (pss_cons (ps_set (i := 1) scL_menus.nd rfl (Or.inl rfl) (pe_disp (pps_cons pe_str (pe_tup (pa_cons pe_str (pa_cons pe_str pa_nil))) (pps_cons pe_str (pe_tup (pa_cons pe_str pa_nil)) (pps_cons pe_str (pe_tup (pa_cons pe_str (pa_cons pe_str pa_nil))) pps_nil))) (by rfl) (by rfl) (by simp) (by decide)))
  (pss_cons (ps_asg (pe_tup (pa_cons pe_str (pa_cons pe_str pa_nil))) (pg_sub (pv 1) pe_str (set_dict (one_ hr.units))))
  (pss_cons (ps_asg (pe_tup (pa_cons (pe_tup (pa_cons pe_str pa_nil)) (pa_cons (pe_tup (pa_cons pe_str pa_nil)) pa_nil))) (pg_tup (by rfl) (pgs_cons (pg_sub (pv 1) pe_str (set_dict (one_ hr.units))) (pgs_cons (pg_sub (pv 1) pe_str (set_dict (one_ hr.units))) pgs_nil))))
  (pss_cons (ps_asg (pe_tup (pa_cons pe_str (pa_cons pe_str (pa_cons pe_str pa_nil)))) (pg_sub (pv 1) pe_str (set_dict (one_ hr.units))))
  (pss_cons (ps_asg (pv 0) (pg_sub (pv 1) pe_str (set_dict (one_ hr.units))))
  (pss_cons (ps_asg (pe_tup (pa_cons pe_str (pa_cons pe_str (pa_cons pe_str (pa_cons pe_str pa_nil))))) (pg_sub (pv 1) pe_str (set_dict (one_ hr.units))))
  (pss_cons (ps_asg (pe_tup (pa_cons (pv 0) (pa_cons (pv 0) pa_nil))) (pg_tup (by rfl) (pgs_cons (pg_sub (pv 1) pe_str (set_dict (one_ hr.units))) (pgs_cons (pg_sub (pv 1) pe_str (set_dict (one_ hr.units))) pgs_nil))))
  (pss_cons (ps_asg (pe_tup (pa_cons pe_str (pa_cons pe_str pa_nil))) (pg_sub (pv 1) pe_str (set_dict (one_ hr.units))))
  (pss_one (ps_ret (pv 1)))))))))))), ?_⟩
    repeat walk_at "rd"
    refine ⟨Rd.sz (by simp), fun two h0 => ?_⟩
    have s0 := Rd.sNew (o := .tup [.str "own", .str "turned"]) h0
    have t0 : SqT K (upd H two (.tup [.str "own", .str "turned"])) two ((menu "like").map V.str) := .inl (.inl upd_same)
    generalize upd H two (.tup [.str "own", .str "turned"]) = H0 at s0 t0 ⊢
    repeat walk_at "rd"
    refine disp fun d hd => ?_
    have fd := Same.fr s0 hd
    refine pcons ?_
    repeat walk_at "rd"
    refine ⟨Rd.sz (by simp), fun p1 h1 => ?_⟩
    refine pcons ?_
    repeat walk_at "rd"
    refine ⟨Rd.sz (by simp), fun p2 h2 => ?_⟩
    refine pcons ?_
    repeat walk_at "rd"
    refine ⟨Rd.sz (by simp), fun p3 h3 => pnil ⟨?_, [(.inr "truth", .ref p1), (.inr "size", .ref p2), (.inr "each", .ref p3)], rfl, by simp, ?_⟩⟩
    · exact Rd.sNew h3 _ _ (Rd.sNew h2 _ _ (Rd.sNew h1 _ _ upd_same))
    have d1 : p1 ≠ d := fun e => by rw [e, upd_same] at h1; cases h1
    have S1 := Rd.sNew (o := .tup [.str "truth", .str "length"]) h1
    have S2 := Rd.sNew (o := .tup [.str "length"]) h2
    have S3 := Rd.sNew (o := .tup [.str "walk", .str "item"]) h3
    have dd := S3 _ _ (S2 _ _ (S1 _ _ upd_same))
    have nt := nt_dK dd
    have M : ∃ g, Mg K H (upd (upd (upd (upd (upd H0 d (.dK [])) p1 (.tup [.str "truth", .str "length"])) p2 (.tup [.str "length"])) p3 (.tup [.str "walk", .str "item"])) d (.dK (mergeK [] [(.inr "truth", .ref p1), (.inr "size", .ref p2), (.inr "each", .ref p3)]))) d ["truth", "size", "each"] g := by
      refine ⟨fun o => if o = "truth" then p1 else if o = "size" then p2 else p3, ⟨?_, fd, by rw [upd_same]; rfl, fun o ho => sqT_upd nt ?_⟩⟩
      · exact Rd.sMut (((Rd.sMut s0 fd).trans S1).trans (S2.trans S3)) fd
      · simp only [List.mem_cons, List.not_mem_nil, or_false] at ho
        rcases ho with rfl | rfl | rfl
        · exact .inl (.inl (S3 _ _ (S2 _ _ upd_same)))
        · exact .inl (.inl (S3 _ _ upd_same))
        · exact .inl (.inl upd_same)
    have t1 := sqT_upd (z := .dK (mergeK [] [(.inr "truth", .ref p1), (.inr "size", .ref p2), (.inr "each", .ref p3)])) nt (sqT_same S3 (sqT_same S2 (sqT_same S1 (sqT_same (Rd.sNew hd) t0))))
    obtain ⟨g, M⟩ := M
    clear dd nt
    generalize upd (upd (upd (upd (upd H0 d (.dK [])) p1 (.tup [.str "truth", .str "length"])) p2 (.tup [.str "length"])) p3 (.tup [.str "walk", .str "item"])) d (.dK (mergeK [] [(.inr "truth", .ref p1), (.inr "size", .ref p2), (.inr "each", .ref p3)])) = H1 at M t1 ⊢
    clear S1 S2 S3 h1 h2 h3 hd d1
    repeat walk_at "rd"
    refine ⟨Rd.sz (by simp), fun p1 h1 => ?_⟩
    have S1 := Rd.sNew (o := .tup [.str "back", .str "count"]) h1
    repeat walk_at "rd"
    refine setM M S1 (.inl (.inl upd_same)) (by decide +kernel) (by decide) fun H2 g2 M2 k2 => ?_
    have t2 := k2 _ _ (sqT_same S1 t1)
    clear M t1 k2 S1 h1 H1 g p1
    repeat walk_at "rd"
    refine ⟨Rd.sz (by simp), fun p1 h1 => ?_⟩
    repeat walk_at "rd"
    refine ⟨Rd.sz (by simp), fun p2 h2 => ?_⟩
    repeat walk_at "rd"
    refine ⟨Rd.sz (by simp), fun p3 h3 => ?_⟩
    have S1 := Rd.sNew (o := .tup [.str "hash"]) h1
    have S2 := Rd.sNew (o := .tup [.str "call"]) h2
    have S3 := Rd.sNew (o := .tup [.ref p1, .ref p2]) h3
    refine gtup (.inl (.inl upd_same)) rfl (gc ?_)
    repeat walk_at "rd"
    refine setM M2 (S1.trans (S2.trans S3)) (.inl (.inl (S3 _ _ (S2 _ _ upd_same)))) (by decide +kernel) (by decide) fun H3 g3 M3 k3 => gc ?_
    repeat walk_at "rd"
    refine setM M3 (Same.refl _) (k3 _ _ (.inl (.inl (S3 _ _ upd_same)))) (by decide +kernel) (by decide) fun H4 g4 M4 k4 => gn ?_
    have t4 := k4 _ _ (k3 _ _ (sqT_same (S1.trans (S2.trans S3)) t2))
    clear M2 M3 k3 k4 S1 S2 S3 h1 h2 h3 t2
    repeat walk_at "rd"
    refine ⟨Rd.sz (by simp), fun p4 h4 => ?_⟩
    have S1 := Rd.sNew (o := .tup [.str "has", .str "walk", .str "item"]) h4
    repeat walk_at "rd"
    refine setM M4 S1 (.inl (.inl upd_same)) (by decide +kernel) (by decide) fun H5 g5 M5 k5 => ?_
    have t5 := k5 _ _ (sqT_same S1 t4)
    clear M4 k5 S1 h4 t4
    repeat walk_at "rd"
    refine setM M5 (Same.refl _) t5 (by decide +kernel) (by decide) fun H6 g6 M6 k6 => ?_
    have t6 := k6 _ _ t5
    clear M5 k6 t5
    repeat walk_at "rd"
    refine ⟨Rd.sz (by simp), fun p5 h5 => ?_⟩
    have S1 := Rd.sNew (o := .tup [.str "own", .str "like", .str "turned", .str "turned_like"]) h5
    repeat walk_at "rd"
    refine setM M6 S1 (.inl (.inl upd_same)) (by decide +kernel) (by decide) fun H7 g7 M7 k7 => ?_
    have t7 := k7 _ _ (sqT_same S1 t6)
    clear M6 k7 S1 h5 t6
    repeat walk_at "rd"
    refine ⟨Rd.sz (by simp), fun p6 h6 => ?_⟩
    have S1 := Rd.sNew (o := .tup [.ref two, .ref two]) h6
    refine gtup (.inl (.inl upd_same)) rfl (gc ?_)
    repeat walk_at "rd"
    refine setM M7 S1 (sqT_same S1 t7) (by decide +kernel) (by decide) fun H8 g8 M8 k8 => gc ?_
    repeat walk_at "rd"
    refine setM M8 (Same.refl _) (k8 _ _ (sqT_same S1 t7)) (by decide +kernel) (by decide) fun H9 g9 M9 k9 => gn ?_
    clear M7 M8 k8 k9 S1 h6 t7
    repeat walk_at "rd"
    refine ⟨Rd.sz (by simp), fun p7 h7 => ?_⟩
    have S1 := Rd.sNew (o := .tup [.str "grow", .str "plus"]) h7
    repeat walk_at "rd"
    refine setM M9 S1 (.inl (.inl upd_same)) (by decide +kernel) (by decide) fun H10 g10 M10 k10 => ?_
    repeat walk_at "rd"
    exact q d g10 H10 M10
abbrev sL_some : Stmt := top 21
abbrev nL_some : List Str := ["_law_pool_here", "_law_menu", "_law_rest", "_law_found", "_law_turn"]
theorem scL_some : FnScope nL_some ["_law_pool_here", "_law_menu"] (defScope sL_some) := ⟨rfl, rfl, rfl, by decide +kernel, rfl, by decide +kernel, by decide +kernel⟩
def spSome (K : PySem.W.Frag) : Sp := fun vs H Q _ => ∃ (p q : Addr) (x y : Int) (mn : List Str), vs = [.ref p, .ref q] ∧ H p = some (.lst [.int x, .int y]) ∧ PoolOk x y ∧ SqT K H q (mn.map V.str) ∧ mn.Nodup ∧ mn.length ≤ 20 ∧
  ∀ (t : Addr) (ws : List Str) (H' : Hp) (x' y' : Int), Keep p H H' → H' p = some (.lst [.int x', .int y']) → PoolOk x' y' → H t = none → SqT K H' t (ws.map V.str) → ws.Nodup → (∀ z ∈ ws, z ∈ mn) → Q (.ref t) H'
theorem ok_some (T : Txt K mg) (D : DefAt K mg "_law_some" sL_some ["_law_pool_here", "_law_menu"]) (CL_take : CalG P w K mg base 1 "_law_take" spTake) : CalG P w K mg base 2 "_law_some" (spSome K) := by
  refine D.by scL_some (fun vs H Q E h => ?_) (fun f cd A hg outer s H vs Q E hr h => ?_)
  · obtain ⟨_, _, _, _, _, rfl, _⟩ := h
    rfl
  · obtain ⟨p, q, x, y, mn, rfl, hp, ok, hq, nd, ml, Qk⟩ := h
    refine ⟨_, (pss_cons (ps_par (i := 2) (j := 3) (by rfl) scL_some.nd rfl rfl (by decide) rfl rfl (pa_cons (pe_callTy (r := Rd.rListK K) Rd.callList (by rfl) T.list (by decide +kernel) (pa_cons (pv 1) pa_nil)) (pa_cons (pe_lst pa_nil) pa_nil)) (by rfl))
  (pss_cons (ps_for PassesOwn.never rfl (pi_range1 (by rfl) T.range (pa_cons (pe_cG CL_take hg hr (by decide) (pa_cons (pv 0) (pa_cons (pe_op op_add (pe_callB (r := Rd.rLenK K) Rd.callLen (by rfl) T.len PySem.boot_len (pa_cons (pv 1) pa_nil)) pe_int) pa_nil))) pa_nil)) (pg_name (i := 4) scL_some.nd rfl (Or.inl rfl))
  (pss_one (ps_expr (pe_bm PySem.F.plainAttrs_list PySem.F.slot_list_append PySem.F.type_list_append mt_append (pv 3) (pa_cons (pe_bm PySem.F.plainAttrs_list PySem.F.slot_list_pop PySem.F.type_list_pop mt_popAt (pv 2) (pa_cons (pe_cG CL_take hg hr (by decide) (pa_cons (pv 0) (pa_cons (pe_callB (r := Rd.rLenK K) Rd.callLen (by rfl) T.len PySem.boot_len (pa_cons (pv 2) pa_nil)) pa_nil))) pa_nil)) pa_nil)))))
  (pss_one (ps_ret (pe_callTy call_tuple_of (by rfl) T.tuple (by decide +kernel) (pa_cons (pv 3) pa_nil)))))), ?_⟩
    repeat walk_at "rd"
    refine ⟨q, mn.map V.str, rfl, .inr hq, fun r hr0 => ?_⟩
    repeat walk_at "rd"
    refine ⟨Rd.sz (by simp), fun f0 hf0 => ?_⟩
    repeat walk_at "rd"
    refine ⟨_, _, rfl, ?_⟩
    have S1 := Rd.sNew (o := .lst (mn.map V.str)) hr0
    have S2 := Rd.sNew (o := .lst []) hf0
    have rf : r ≠ f0 := fun e => by rw [e, upd_same] at hf0; cases hf0
    have pr : p ≠ r := fun e => by rw [e, hr0] at hp; cases hp
    have pf : p ≠ f0 := fun e => by have := Same.fr S1 hf0; rw [← e, hp] at this; cases this
    have ff := Same.fr S1 hf0
    have hp2 := S2 _ _ (S1 _ _ hp)
    have hr2 := S2 _ _ (show upd H r (.lst (mn.map V.str)) r = some (.lst (mn.map V.str)) from upd_same)
    have hf2 : upd (upd H r (.lst (mn.map V.str))) f0 (.lst []) f0 = some (.lst []) := upd_same
    have hq2 := sqT_same (S1.trans S2) hq
    have K2 : Keep p H (upd (upd H r (.lst (mn.map V.str))) f0 (.lst [])) := Keep.same (S1.trans S2)
    generalize upd (upd H r (.lst (mn.map V.str))) f0 (.lst []) = H2 at hp2 hr2 hf2 hq2 K2 ⊢
    clear S1 S2 hf0
    repeat walk_at "rd"
    refine Rd.lenT hq2 ?_
    repeat walk_at "rd"
    refine ⟨p, x, y, _, rfl, hp2, ok, by omega, by rw [List.length_map]; omega, fun n x1 y1 ok1 n0 n1 => ?_⟩
    rw [List.length_map] at n1
    repeat walk_at "rd"
    refine Rd.rng n0 (by omega) ?_
    refine Rd.forGo (fun i σ1 H1 => (∃ z, σ1 = [some (.ref p), some (.ref q), some (.ref r), some (.ref f0), z]) ∧ Keep p H H1 ∧ ∃ rs fs x y, H1 p = some (.lst [.int x, .int y]) ∧ PoolOk x y ∧ H1 r = some (.lst (rs.map V.str)) ∧ H1 f0 = some (.lst (fs.map V.str)) ∧ fs.length = i ∧ (fs ++ rs).Perm mn)
      ⟨⟨_, rfl⟩, K2.put, mn, [], x1, y1, upd_same, ok1, by rw [upd_ne (fun e => pr e.symm)]; exact hr2, by rw [upd_ne (fun e => pf e.symm)]; exact hf2, rfl, List.Perm.refl _⟩ (fun i σ1 H1 hi h => ?_) (fun σ1 H1 h => ?_)
    · obtain ⟨⟨z, rfl⟩, k1, rs, fs, x2, y2, hp3, ok3, hr3, hf3, fl, pm⟩ := h
      have len := pm.length_eq
      rw [List.length_append] at len
      have rl : 0 < rs.length := by omega
      repeat walk_at "rd"
      refine ⟨Rd.ty_list hf3, ?_⟩
      repeat walk_at "rd"
      refine ⟨Rd.ty_list hr3, ?_⟩
      repeat walk_at "rd"
      refine ⟨p, x2, y2, _, rfl, hp3, ok3, by rw [List.length_map]; omega, by rw [List.length_map]; omega, fun j x4 y4 ok4 j0 j1 => ?_⟩
      rw [List.length_map] at j1
      have jl : j.toNat < rs.length := by omega
      repeat walk_at "rd"
      refine ⟨r, rs.map V.str, j, j.toNat, .str rs[j.toNat], rfl, rfl, by rw [upd_ne (fun e => pr e.symm)]; exact hr3, by omega, by omega, PySem.StrLaws.seqIndex_nonneg j0 (by rw [List.length_map]; omega), by rw [List.getElem?_map, List.getElem?_eq_getElem jl]; rfl, ?_⟩
      rw [eras_str]
      repeat walk_at "rd"
      refine Rd.app (xs := fs.map V.str) (by rw [upd_ne (fun e => rf e.symm), upd_ne (fun e => pf e.symm)]; exact hf3) (by rw [List.length_map]; exact Rd.szl (by omega)) ?_
      repeat walk_at "rd"
      refine ⟨⟨_, rfl⟩, (k1.put.mut hr0).mut ff, rs.eraseIdx j.toNat, fs ++ [rs[j.toNat]], x4, y4, by rw [upd_ne pf, upd_ne pr, upd_same], ok4, by rw [upd_ne rf, upd_same], by rw [upd_same, List.map_append]; rfl, by rw [List.length_append, fl]; rfl, ?_⟩
      refine List.Perm.trans ?_ pm
      rw [List.append_assoc]
      exact List.Perm.append_left fs (perm_eras jl)
    · obtain ⟨⟨z, rfl⟩, k1, rs, fs, x2, y2, hp3, ok3, hr3, hf3, fl, pm⟩ := h
      have nd2 : (fs ++ rs).Nodup := pm.nodup_iff.mpr nd
      repeat walk_at "rd"
      refine ⟨f0, fs.map V.str, rfl, .inl ⟨SqL.of hf3, fun t ht => ?_⟩⟩
      have tp : t ≠ p := fun e => by rw [e, hp3] at ht; cases ht
      have ht0 : H t = none := by
        cases z : H t with
        | none => rfl
        | some u => rw [k1 _ _ tp z] at ht; cases ht
      exact Qk t fs _ x2 y2 (k1.new ht) (by rw [upd_ne (fun e => tp e.symm)]; exact hp3) ok3 ht0 (.inl (.inl upd_same)) (List.nodup_append.mp nd2).1 fun z hz => pm.mem_iff.mp (List.mem_append_left _ hz)
end
end Ab
namespace Ab
open PySem.Spec PyProof.Rows
local macro_rules | `(tactic| walk_at "rd") => `(tactic| (with_reducible first | refine Rd.sfld ?_ | refine Rd.dget ?_ | refine Rd.methR ?_ | refine Rd.propR ?_ | refine Rd.statR ?_ | refine Rd.getR ?_))
/-! ### what is told, as data -/
def LenM (m : Str → List Str) : Prop := ∀ o ∈ ops, (m o).length ≤ 20
def rowD (m : Str → List Str) (o : Str) : PyData := .list [.str o, dT (m o)]
def foundD (m : Str → List Str) : PyData := .list (ops.map (rowD m))
def toldD (m : Str → List Str) (fl : Str → Bool) : PyData := .list [foundD m, .bool (fl "bars_hash"), .bool (fl "ends_same"), .bool (fl "ends_true"), Dt.dS ops, .int 12]
def toldS (m : Str → List Str) (fl : Str → Bool) : Str := (toldD m fl).shown
theorem piled_le {m : Nat} : ∀ {ts : List Str}, (∀ t ∈ ts, t.length + 2 ≤ m) → piled ts ≤ ts.length * m
  | [], _ => by simp [piled]
  | t :: ts, h => by
    have a := h t List.mem_cons_self
    have b := piled_le (m := m) fun u hu => h u (List.mem_cons_of_mem _ hu)
    rw [piled_cons, List.length_cons, Nat.succ_mul]
    omega
theorem tup_le {ts : List Str} {m : Nat} (h : ∀ t ∈ ts, t.length + 2 ≤ m) : (tupleText ts).length ≤ 3 + ts.length * m := by
  have a : (Str.join ", " ts).length ≤ ts.length * m := by
    by_cases e : ts = []
    · subst e
      exact Nat.le_trans (Nat.le_of_eq (by decide +kernel : (Str.join ", " ([] : List Str)).length = 0)) (Nat.zero_le _)
    · have := join_length_add ts e
      have := piled_le h
      omega
  have e : (Str.ofString (if (ts.length == 1) = true then ",)" else ")")).length ≤ 2 := by split <;> decide +kernel
  have e1 : Str.length "(" = 1 := by decide +kernel
  unfold tupleText
  rw [strLen_append, strLen_append]
  omega
theorem shown_dT {r : List Str} (h : ∀ w ∈ r, w ∈ wayW) (hl : r.length ≤ 20) : (dT r).shown.length ≤ 20100 := by
  unfold dT
  rw [PyData.shown, Dt.shownAll_map]
  have := tup_le (ts := (r.map PyData.str).map PyData.shown) (m := 1004) (by
    intro t ht
    simp only [List.map_map, List.mem_map, Function.comp] at ht
    obtain ⟨w, hw, rfl⟩ := ht
    have := Dt.shown_str (wayW_W w (h w hw))
    omega)
  rw [List.length_map, List.length_map] at this
  omega
theorem ops_W : ∀ o ∈ ops, W6.W 100 o := by
  have h : ∀ x ∈ ops, x.length ≤ 100 ∧ (TL.tl x).all (fun c => decide (c < 1000)) = true := by decide +kernel
  intro x hx
  exact ⟨(h x hx).1, fun c hc => of_decide_eq_true (List.all_eq_true.mp (h x hx).2 c hc)⟩
theorem shown_told {m : Str → List Str} {fl : Str → Bool} (hm : OkM m) (hl : LenM m) : (toldD m fl).shown.length ≤ sizeLine := by
  have row : ∀ o ∈ ops, (rowD m o).shown.length ≤ 50000 := fun o ho => by
    unfold rowD
    rw [PyData.shown, Dt.shownAll_map]
    have a := Dt.shown_str (ops_W o ho)
    have b := shown_dT (hm o ho) (hl o ho)
    have := Dt.list_le (ts := [PyData.str o, dT (m o)].map PyData.shown) (m := 20200) (by
      intro t ht
      simp only [List.map_cons, List.map_nil, List.mem_cons, List.not_mem_nil, or_false] at ht
      rcases ht with rfl | rfl <;> omega)
    rw [List.length_map] at this
    simp only [List.length_cons, List.length_nil] at this
    omega
  have fnd : (foundD m).shown.length ≤ 700000 := by
    unfold foundD
    rw [PyData.shown, Dt.shownAll_map]
    have := Dt.list_le (ts := (ops.map (rowD m)).map PyData.shown) (m := 50002) (by
      intro t ht
      simp only [List.map_map, List.mem_map, Function.comp] at ht
      obtain ⟨o, ho, rfl⟩ := ht
      have := row o ho
      omega)
    rw [List.length_map, List.length_map] at this
    have e : ops.length = 12 := rfl
    rw [e] at this
    omega
  have bl : ∀ b : Bool, (PyData.shown (.bool b)).length ≤ 5 := fun b => by cases b <;> decide +kernel
  have li : (Dt.dS ops).shown.length ≤ 100402 := Dt.shown_dS ⟨by decide, ops_W⟩
  have it : (PyData.shown (.int 12)).length ≤ 10 := by decide +kernel
  unfold toldD
  rw [PyData.shown, Dt.shownAll_map]
  have := Dt.list_le (ts := [foundD m, .bool (fl "bars_hash"), .bool (fl "ends_same"), .bool (fl "ends_true"), Dt.dS ops, .int 12].map PyData.shown) (m := 700010) (by
    intro t ht
    simp only [List.map_cons, List.map_nil, List.mem_cons, List.not_mem_nil, or_false] at ht
    have b1 := bl (fl "bars_hash")
    have b2 := bl (fl "ends_same")
    have b3 := bl (fl "ends_true")
    rcases ht with rfl | rfl | rfl | rfl | rfl | rfl <;> omega)
  rw [List.length_map] at this
  simp only [List.length_cons, List.length_nil] at this
  have e : sizeLine = 16777216 := sizeLine_eq
  omega
theorem show_rowsD (m : Str → List Str) : ∀ l : List Str, PyData.showableAll (l.map (rowD m)) = true ∧ PyData.hasDictAll (l.map (rowD m)) = false ∧ PyData.depthAll (l.map (rowD m)) ≤ 3
  | [] => ⟨rfl, rfl, by simp [PyData.depthAll]⟩
  | o :: l => by
    obtain ⟨a, b, c⟩ := show_rowsD m l
    have d := Dt.dep_strs (m o)
    refine ⟨?_, ?_, ?_⟩
    · simp [PyData.showableAll, PyData.showable, rowD, dT, Dt.show_strs, a]
    · simp [PyData.hasDictAll, PyData.hasDict, rowD, dT, Dt.nodict_strs, b]
    · simp [PyData.depthAll, PyData.depth, rowD, dT]
      omega
theorem told_ok (m : Str → List Str) (fl : Str → Bool) : (toldD m fl).showable = true ∧ (toldD m fl).hasDict = false ∧ (toldD m fl).depth ≤ 60 := by
  obtain ⟨a, b, c⟩ := show_rowsD m ops
  have d := Dt.dep_strs ops
  refine ⟨?_, ?_, ?_⟩
  · simp [toldD, foundD, PyData.showable, PyData.showableAll, a, Dt.dS, Dt.show_strs]
    try decide +kernel
  · simp [toldD, foundD, PyData.hasDict, PyData.hasDictAll, b, Dt.dS, Dt.nodict_strs]
  · simp [toldD, foundD, PyData.depth, PyData.depthAll, Dt.dS]
    omega
mutual
theorem dp_mono {K : PySem.W.Frag} {H H' : Hp} (s : Same H H') : ∀ {v : V} {d : PyData}, Dp K H v d → Dp K H' v d
  | _, _, .non => .non
  | _, _, .bl b => .bl b
  | _, _, .int i => .int i
  | _, _, .str x => .str x
  | _, _, .lst h a => .lst (s.seq h) (dpa_mono s a)
  | _, _, .tup h a => .tup (sqT_same s h) (dpa_mono s a)
theorem dpa_mono {K : PySem.W.Frag} {H H' : Hp} (s : Same H H') : ∀ {vs : List V} {ds : List PyData}, DpAll K H vs ds → DpAll K H' vs ds
  | _, _, .nil => .nil
  | _, _, .cons h t => .cons (dp_mono s h) (dpa_mono s t)
end
theorem strs_pr : ∀ l : List Str, Paired (fun (s : Str) (x : V) => x = V.str s) l (l.map V.str)
  | [] => .nil
  | _ :: l => .cons rfl (strs_pr l)
theorem dpa_of {K : PySem.W.Frag} {H : Hp} {f : Str → PyData} : ∀ {l : List Str} {ys : List V}, Paired (fun c y => Dp K H y c) (l.map f) ys → DpAll K H ys (l.map f)
  | [], _, .nil => .nil
  | _ :: _, _, .cons h t => .cons h (dpa_of t)
/-- [o, ways of o] newly made -/
theorem row_dp {K : PySem.W.Frag} {H H1 : Hp} {p q : Addr} {o : Str} {m : Str → List Str} (s : Same H H1) (hq : SqT K H q ((m o).map V.str)) (hp : H1 p = none) :
    Dp K (upd H1 p (.lst [.str o, .ref q])) (.ref p) (rowD m o) ∧ ∀ D o', H D = none → H1 D ≠ none → Dp K (upd (upd H1 p (.lst [.str o, .ref q])) D o') (.ref p) (rowD m o) := by
  refine ⟨.lst (SqL.of upd_same) (.cons (.str _) (.cons (.tup (sqT_same (Rd.sNew hp) (sqT_same s hq)) (Dt.dp_strs _)) .nil)), fun D o' hD hd => ?_⟩
  have np : p ≠ D := fun e => hd (by rw [← e]; exact hp)
  refine .lst (xs := [.str o, .ref q]) (SqL.of ?_) (.cons (.str _) (.cons (.tup (xs := (m o).map V.str) ?_ (Dt.dp_strs _)) .nil))
  · rw [upd_ne np]; exact upd_same
  · exact sqT_same (Rd.sMut (s.trans (Rd.sNew hp)) hD) hq
/-! ### the law's own books -/
structure Own (K : PySem.W.Frag) (H : Hp) (o w f : Addr) (g : Str → Addr) (m : Str → List Str) (fl : Str → Bool) : Prop where
  od : H o = some (.dK [(.inr "ways", .ref w), (.inr "flags", .ref f)])
  wd : H w = some (.dK (tab ops fun y => .ref (g y)))
  fd : H f = some (.lst (flagsW.map fun x => .bl (fl x)))
  tp : ∀ y ∈ ops, SqT K H (g y) ((m y).map V.str)
  ne : o ≠ w
theorem Own.mono {K : PySem.W.Frag} {H H' : Hp} {o w f : Addr} {g : Str → Addr} {m : Str → List Str} {fl : Str → Bool} (k : Own K H o w f g m fl) (s : Same H H') : Own K H' o w f g m fl :=
  ⟨s _ _ k.od, s _ _ k.wd, s _ _ k.fd, fun y hy => sqT_same s (k.tp y hy), k.ne⟩
theorem Own.ways {K : PySem.W.Frag} {H : Hp} {o w f : Addr} {g : Str → Addr} {m : Str → List Str} {fl : Str → Bool} (k : Own K H o w f g m fl) : DGet H o (.str "ways") (some (.ref w)) := .inl ⟨_, .inr "ways", .inl k.od, rfl, rfl⟩
theorem Own.flags {K : PySem.W.Frag} {H : Hp} {o w f : Addr} {g : Str → Addr} {m : Str → List Str} {fl : Str → Bool} (k : Own K H o w f g m fl) : DGet H o (.str "flags") (some (.ref f)) := .inl ⟨_, .inr "flags", .inl k.od, rfl, rfl⟩
def NewOwn (K : PySem.W.Frag) (m : Str → List Str) (fl : Str → Bool) (Q : VK) (H : Hp) : Prop := ∀ o w f g H', Same H H' → H o = none → H w = none → H f = none → Own K H' o w f g m fl → Q (.ref o) H'
section
variable {P : Program} {w : World} {K : PySem.W.Frag} {mg : Str → Option Value} {base : Heap}
abbrev sL_told : Stmt := top 22
abbrev nL_told : List Str := ["_law_book", "_law_found", "_law_operation"]
theorem scL_told : FnScope nL_told ["_law_book"] (defScope sL_told) := ⟨rfl, rfl, rfl, by decide +kernel, rfl, by decide +kernel, by decide +kernel⟩
def spTold (K : PySem.W.Frag) (C : Addr) : Sp := fun vs H Q _ => ∃ (b w f : Addr) (g : Str → Addr) (m : Str → List Str) (fl : Str → Bool), vs = [.ref b] ∧ Bk K C H b w f g m fl ∧ OkM m ∧ LenM m ∧ ∀ H', Same H H' → Q (.str (toldS m fl)) H'
theorem ok_told (T : Txt K mg) {C_Book CN p_OPERATIONS pM pF : Addr} {gM : Str → Addr} (K_Book : BF K mg C_Book) (t : Tb K w mg p_OPERATIONS pM pF gM) (G_Book : Ob.GetCal P w K mg base (L2.CX P w) C_Book 4 "__getitem__" (spGet K C_Book CN)) (P_Book_bars_hash : Ob.PCal P w K mg base CX0 C_Book 1 "bars_hash" (spFl K C_Book "bars_hash"))
    (P_Book_ends_same : Ob.PCal P w K mg base CX0 C_Book 1 "ends_same" (spFl K C_Book "ends_same")) (P_Book_ends_true : Ob.PCal P w K mg base CX0 C_Book 1 "ends_true" (spFl K C_Book "ends_true")) (M_Book_listed : Ob.MCal P w K mg base CX0 C_Book 1 "listed" (spListed K C_Book))
    (L_Book : Ob.LenCal P w K mg base CX0 C_Book 1 (spLen K C_Book)) (D : DefAt K mg "_law_told" sL_told ["_law_book"]) : CalG P w K mg base 6 "_law_told" (spTold K C_Book) := by
  have g_OPERATIONS := t.o
  refine D.by scL_told (fun vs H Q E h => ?_) (fun f cd A hg outer s H vs Q E hr h => ?_)
  · obtain ⟨_, _, _, _, _, _, rfl, _⟩ := h
    rfl
  · obtain ⟨b, w0, f0, g, m, fl, rfl, bk, om, lm, q⟩ := h
    let L_sp_Book := spLen K C_Book
    refine ⟨_, (pss_cons (ps_setLc (i := 1) (wi := iTup K _) (own := [("_law_operation", 2)]) (g := gName 2) (by rfl) scL_told.nd rfl rfl (sw_true rfl rfl rfl (by decide +kernel)) (pi_tup (pe_glob (v := .ref p_OPERATIONS) (by rfl) g_OPERATIONS rfl)) (blkOk_by (N := nL_told) (sc := defScope sL_told) (by decide +kernel)) (fun _ _ _ _ _ => pg_name (i := 2) scL_told.nd rfl (Or.inl rfl)) (fun _ _ _ _ _ => pts_nil) (fun _ _ _ _ _ => (pe_lst (pa_cons (pv 2) (pa_cons (Ob.getO G_Book hg hr (by decide) Ob.px0 (pv 0) (pv 2) (fun _ _ => rfl)) pa_nil)))))
  (pss_one (ps_ret (pe_callB (r := rReprX K) (call_reprX hg hr.units) (by rfl) T.repr (by decide +kernel) (pa_cons (pe_lst (pa_cons (pv 1) (pa_cons (Ob.prop (pv 0) K_Book.cl P_Book_bars_hash hg hr (by decide) pass0) (pa_cons (Ob.prop (pv 0) K_Book.cl P_Book_ends_same hg hr (by decide) pass0) (pa_cons (Ob.prop (pv 0) K_Book.cl P_Book_ends_true hg hr (by decide) pass0) (pa_cons (Ob.meth0 (pv 0) K_Book.cl M_Book_listed hg hr (by decide) pass0) (pa_cons (pe_callB (r := Ob.rLenO C_Book L_sp_Book) (Ob.call_lenO L_Book hg hr (by decide) pass0) (by rfl) T.len PySem.boot_len (pa_cons (pv 0) pa_nil)) pa_nil))))))) pa_nil))))), ?_⟩
    repeat walk_at "rd"
    refine Rd.lcT (a := p_OPERATIONS) (H := H) (xs := ops.map V.str) (bs := ops) (fun s x _ => x = V.str s) (fun d y H => Dp K H y d) (fun _ => true) (rowD m) (fun R k => k) (t.to H) (fun _ _ _ _ _ h => h) (fun _ _ _ _ s h => dp_mono s h) (strs_pr ops) (by decide) (fun _ => rfl) ?_ ?_ ?_
    · intro o x H1 R _ _ _ _ k
      repeat walk_at "rd"
      exact k _ (Same.refl _)
    · rintro o x H1 R ho _ _ rfl s1 k
      have bk1 := bk.mono s1
      obtain ⟨dx, hb⟩ := bk1.ins
      repeat walk_at "rd"
      refine ⟨b, dx, _, rfl, hb, b, w0, f0, g, m, fl, .str o, "str", rfl, bk1, kd_str _, fun o' e _ => ?_, fun c => ?_⟩
      · obtain rfl := V.str.inj e
        repeat walk_at "rd"
        refine ⟨Rd.sz (by simp), fun p hp => ?_⟩
        obtain ⟨r1, r2⟩ := row_dp (K := K) s1 (bk.tp _ ho) hp
        refine k _ _ (Rd.sNew hp) fun D o' hD hd => r2 D o' hD hd
      · rw [show isIn (.str o) ops = true from decide_eq_true ho] at c; cases c
    · intro Dd ys H1 hD s1 hd pr
      rw [List.filter_eq_self.mpr (fun _ _ => rfl)] at pr
      have pa := dpa_of pr
      have bk1 := bk.mono s1
      obtain ⟨dx, hb⟩ := bk1.ins
      repeat walk_at "rd"
      refine ⟨b, dx, _, rfl, hb, b, w0, f0, g, m, fl, rfl, bk1, ?_⟩
      repeat walk_at "rd"
      refine ⟨b, dx, _, rfl, hb, b, w0, f0, g, m, fl, rfl, bk1, ?_⟩
      repeat walk_at "rd"
      refine ⟨b, dx, _, rfl, hb, b, w0, f0, g, m, fl, rfl, bk1, ?_⟩
      repeat walk_at "rd"
      refine ⟨b, dx, _, rfl, hb, rfl, ?_⟩
      repeat walk_at "rd"
      refine ⟨b, w0, f0, g, m, fl, rfl, bk1, fun l hl => ?_⟩
      have s2 := Rd.sNew (o := .lst (ops.map V.str)) hl
      repeat walk_at "rd"
      refine ⟨b, dx, _, rfl, s2 _ _ hb, b, w0, f0, g, m, fl, rfl, bk1.mono s2, 12, rfl, by decide, by decide, ?_⟩
      repeat walk_at "rd"
      refine ⟨Rd.sz (by simp), fun z hz => ?_⟩
      have s3 := Rd.sNew (o := .lst [.ref Dd, .bl (fl "bars_hash"), .bl (fl "ends_same"), .bl (fl "ends_true"), .ref l, .int 12]) hz
      repeat walk_at "rd"
      obtain ⟨k1, k2, k3⟩ := told_ok m fl
      refine .inl (Rd.repr_ (d := toldD m fl) (.lst (SqL.of upd_same) (.cons (.lst (SqL.of (s3 _ _ (s2 _ _ hd))) (dpa_mono (s2.trans s3) pa)) (.cons (.bl _) (.cons (.bl _) (.cons (.bl _) (.cons (Dt.dp_S (SqL.of (s3 _ _ upd_same))) (.cons (.int 12) .nil))))))) k1 k2 k3 (shown_told om lm) ?_)
      exact q _ (s1.trans (s2.trans s3))
abbrev sL_due : Stmt := top 23
abbrev nL_due : List Str := ["_law_own", "_law_found", "_law_operation"]
theorem scL_due : FnScope nL_due ["_law_own"] (defScope sL_due) := ⟨rfl, rfl, rfl, by decide +kernel, rfl, by decide +kernel, by decide +kernel⟩
def spDue (K : PySem.W.Frag) : Sp := fun vs H Q _ => ∃ (o w f : Addr) (g : Str → Addr) (m : Str → List Str) (fl : Str → Bool), vs = [.ref o] ∧ Own K H o w f g m fl ∧ OkM m ∧ LenM m ∧ ∀ H', Same H H' → Q (.str (toldS m fl)) H'
theorem ok_due (T : Txt K mg) {C p_OPERATIONS pM pF : Addr} {gM : Str → Addr} (t : Tb K w mg p_OPERATIONS pM pF gM) (D : DefAt K mg "_law_due" sL_due ["_law_own"]) : CalG P w K mg base 1 "_law_due" (spDue K) := by
  have g_OPERATIONS := t.o
  refine D.by scL_due (fun vs H Q E h => ?_) (fun f cd A hg outer s H vs Q E hr h => ?_)
  · obtain ⟨_, _, _, _, _, _, rfl, _⟩ := h
    rfl
  · obtain ⟨o0, w0, f0, g, m, fl, rfl, ow, om, lm, q⟩ := h
    refine ⟨_, (pss_cons (ps_setLc (i := 1) (wi := iTup K _) (own := [("_law_operation", 2)]) (g := gName 2) (by rfl) scL_due.nd rfl rfl (sw_true rfl rfl rfl (by decide +kernel)) (pi_tup (pe_glob (v := .ref p_OPERATIONS) (by rfl) g_OPERATIONS rfl)) (blkOk_by (N := nL_due) (sc := defScope sL_due) (by decide +kernel)) (fun _ _ _ _ _ => pg_name (i := 2) scL_due.nd rfl (Or.inl rfl)) (fun _ _ _ _ _ => pts_nil) (fun _ _ _ _ _ => (pe_lst (pa_cons (pv 2) (pa_cons (pe_dget (one_ hr.units) (pe_dget (one_ hr.units) (pv 0) pe_str (fun _ _ => rfl)) (pv 2) (fun _ _ => rfl)) pa_nil)))))
  (pss_one (ps_ret (pe_callB (r := rReprX K) (call_reprX hg hr.units) (by rfl) T.repr (by decide +kernel) (pa_cons (pe_op op_cat (pe_op op_cat (pe_lst (pa_cons (pv 1) pa_nil)) (pe_dget (one_ hr.units) (pv 0) pe_str (fun _ _ => rfl))) (pe_lst (pa_cons (pe_callTy (r := Rd.rListK K) Rd.callList (by rfl) T.list (by decide +kernel) (pa_cons (pe_glob (v := .ref p_OPERATIONS) (by rfl) g_OPERATIONS rfl) pa_nil)) (pa_cons pe_int pa_nil)))) pa_nil))))), ?_⟩
    repeat walk_at "rd"
    refine Rd.lcT (a := p_OPERATIONS) (H := H) (xs := ops.map V.str) (bs := ops) (fun s x _ => x = V.str s) (fun d y H => Dp K H y d) (fun _ => true) (rowD m) (fun R k => k) (t.to H) (fun _ _ _ _ _ h => h) (fun _ _ _ _ s h => dp_mono s h) (strs_pr ops) (by decide) (fun _ => rfl) ?_ ?_ ?_
    · intro o x H1 R _ _ _ _ k
      repeat walk_at "rd"
      exact k _ (Same.refl _)
    · rintro o x H1 R ho _ _ rfl s1 k
      have ow1 := ow.mono s1
      repeat walk_at "rd"
      refine ⟨o0, _, rfl, ow1.ways, ?_⟩
      repeat walk_at "rd"
      refine ⟨w0, _, rfl, get_tab ow1.wd ho, ?_⟩
      repeat walk_at "rd"
      refine ⟨Rd.sz (by simp), fun p hp => ?_⟩
      obtain ⟨r1, r2⟩ := row_dp (K := K) s1 (ow.tp _ ho) hp
      exact k _ _ (Rd.sNew hp) fun D o' hD hd => r2 D o' hD hd
    · intro Dd ys H1 hD s1 hd pr
      rw [List.filter_eq_self.mpr (fun _ _ => rfl)] at pr
      have pa := dpa_of pr
      have ow1 := ow.mono s1
      repeat walk_at "rd"
      refine ⟨Rd.sz (by simp), fun z hz => ?_⟩
      have s2 := Rd.sNew (o := .lst [.ref Dd]) hz
      repeat walk_at "rd"
      refine ⟨o0, _, rfl, (ow1.mono s2).flags, ?_⟩
      refine Rd.cat upd_same (s2 _ _ ow1.fd) (Rd.sz (by simp [flagsW])) fun y hy => ?_
      have s3 := Rd.sNew (o := .lst ([.ref Dd] ++ flagsW.map fun x => V.bl (fl x))) hy
      repeat walk_at "rd"
      refine ⟨p_OPERATIONS, ops.map V.str, rfl, .inr (t.to _), fun l hl => ?_⟩
      have s4 := Rd.sNew (o := .lst (ops.map V.str)) hl
      repeat walk_at "rd"
      refine ⟨Rd.sz (by simp), fun u hu => ?_⟩
      have s5 := Rd.sNew (o := .lst [.ref l, .int 12]) hu
      repeat walk_at "rd"
      refine Rd.cat (s5 _ _ (s4 _ _ upd_same)) upd_same (Rd.sz (by simp [flagsW])) fun v hv => ?_
      have s6 := Rd.sNew (o := .lst (([.ref Dd] ++ flagsW.map fun x => V.bl (fl x)) ++ [.ref l, .int 12])) hv
      repeat walk_at "rd"
      obtain ⟨k1, k2, k3⟩ := told_ok m fl
      refine .inl (Rd.repr_ (d := toldD m fl) (.lst (xs := [.ref Dd, .bl (fl "bars_hash"), .bl (fl "ends_same"), .bl (fl "ends_true"), .ref l, .int 12]) (SqL.of upd_same) (.cons (.lst (SqL.of (s6 _ _ (s5 _ _ (s4 _ _ (s3 _ _ (s2 _ _ hd)))))) (dpa_mono (s2.trans (s3.trans (s4.trans (s5.trans s6)))) pa))
        (.cons (.bl _) (.cons (.bl _) (.cons (.bl _) (.cons (Dt.dp_S (SqL.of (s6 _ _ (s5 _ _ upd_same)))) (.cons (.int 12) .nil))))))) k1 k2 k3 (shown_told om lm) ?_)
      exact q _ (s1.trans (s2.trans (s3.trans (s4.trans (s5.trans s6)))))
abbrev sL_copy : Stmt := top 24
abbrev nL_copy : List Str := ["_law_own"]
theorem scL_copy : FnScope nL_copy ["_law_own"] (defScope sL_copy) := ⟨rfl, rfl, rfl, by decide +kernel, rfl, by decide +kernel, by decide +kernel⟩
def spCopy (K : PySem.W.Frag) : Sp := fun vs H Q _ => ∃ (o w f : Addr) (g : Str → Addr) (m : Str → List Str) (fl : Str → Bool), vs = [.ref o] ∧ Own K H o w f g m fl ∧ NewOwn K m fl Q H
theorem ok_copy (T : Txt K mg) (D : DefAt K mg "_law_copy" sL_copy ["_law_own"]) : CalG P w K mg base 1 "_law_copy" (spCopy K) := by
  refine D.by scL_copy (fun vs H Q E h => ?_) (fun f cd A hg outer s H vs Q E hr h => ?_)
  · obtain ⟨_, _, _, _, _, _, rfl, _⟩ := h
    rfl
  · obtain ⟨o0, w0, f0, g, m, fl, rfl, ow, q⟩ := h
    refine ⟨_, (pss_one (ps_ret (pe_disp (pps_cons pe_str (pe_callTy (r := Od2.rDictD) Od2.call_dict (by rfl) T.dict (by decide +kernel) (pa_cons (pe_dget (one_ hr.units) (pv 0) pe_str (fun _ _ => rfl)) pa_nil)) (pps_cons pe_str (pe_callTy (r := Rd.rListK K) Rd.callList (by rfl) T.list (by decide +kernel) (pa_cons (pe_dget (one_ hr.units) (pv 0) pe_str (fun _ _ => rfl)) pa_nil)) pps_nil)) (by rfl) (by rfl) (by simp) (by decide)))), ?_⟩
    repeat walk_at "rd"
    refine disp fun d hd => pcons ?_
    have s1 := Rd.sNew (o := .dK []) hd
    repeat walk_at "rd"
    refine ⟨o0, _, rfl, (ow.mono s1).ways, ?_⟩
    repeat walk_at "rd"
    refine ⟨w0, _, rfl, .inl (s1 _ _ ow.wd), fun w1 hw1 => pcons ?_⟩
    have s2 := Rd.sNew (o := .dK (tab ops fun y => .ref (g y))) hw1
    repeat walk_at "rd"
    refine ⟨o0, _, rfl, ((ow.mono s1).mono s2).flags, ?_⟩
    repeat walk_at "rd"
    refine ⟨f0, _, rfl, .inl (SqL.of (s2 _ _ (s1 _ _ ow.fd))), fun f1 hf1 => pnil ⟨?_, [(.inr "ways", .ref w1), (.inr "flags", .ref f1)], rfl, by simp, ?_⟩⟩
    · exact Rd.sNew hf1 _ _ (s2 _ _ upd_same)
    have s3 := Rd.sNew (o := .lst (flagsW.map fun x => V.bl (fl x))) hf1
    have fw := Same.fr s1 hw1
    have ff := Same.fr (s1.trans s2) hf1
    have dw : w1 ≠ d := fun e => by rw [e, upd_same] at hw1; cases hw1
    have df : f1 ≠ d := fun e => by have z := s2 _ _ (show upd H d (.dK []) d = _ from upd_same); rw [e] at hf1; rw [hf1] at z; cases z
    have sAll := Rd.sMut (o := .dK (mergeK [] [(.inr "ways", .ref w1), (.inr "flags", .ref f1)])) (s1.trans (s2.trans s3)) hd
    refine q d w1 f1 g _ sAll hd fw ff ⟨by rw [upd_same]; rfl, ?_, ?_, fun y hy => sqT_same sAll (ow.tp y hy), fun e => dw e.symm⟩
    · rw [upd_ne dw]; exact s3 _ _ upd_same
    · rw [upd_ne df]; exact upd_same
end
end Ab
namespace Ab
open PySem.Spec PyProof.Rows
local macro_rules | `(tactic| walk_at "rd") => `(tactic| (with_reducible first | refine Rd.sfld ?_ | refine Rd.dget ?_ | refine Rd.methR ?_ | refine Rd.propR ?_ | refine Rd.statR ?_ | refine Rd.getR ?_))
abbrev rDictP (K : PySem.W.Frag) : List V → Hp → VK → Prop := fun xs H Q => ∃ (a : Addr) (ps : List Addr) (kvs : List (Key × V)), xs = [.ref a] ∧ SqL K H a (ps.map V.ref) ∧ Paired (fun p kv => SqT K H p [kV kv.1, kv.2]) ps kvs ∧ ∀ p, H p = none → Q (.ref p) (upd H p (.dK (mergeK [] kvs)))
theorem merge_tab (F : Str → V) : ∀ (l2 l1 : List Str), (l1 ++ l2).Nodup → mergeK (tab l1 F) (tab l2 F) = tab (l1 ++ l2) F
  | [], l1, _ => by simp [mergeK, tab]
  | o :: l2, l1, nd => by
    have e : l1 ++ o :: l2 = (l1 ++ [o]) ++ l2 := by simp
    have ih := merge_tab F l2 (l1 ++ [o]) (by rw [← e]; exact nd)
    rw [e, ← ih]
    show mergeK (putK (tab l1 F) (.inr o) (F o)) (tab l2 F) = _
    rw [putK_new _ _ _ (fun h => (List.nodup_append.mp nd).2.2 o h o List.mem_cons_self rfl), tab_snoc]
theorem merge0 (F : Str → V) {l : List Str} (nd : l.Nodup) : mergeK [] (tab l F) = tab l F := merge_tab F l [] nd
/-- pairs [o, ways] in tuples -/
def PrB (K : PySem.W.Frag) (M : Str → List Str) : Str → V → Hp → Prop := fun o y H => ∃ p q, y = .ref p ∧ SqT K H p [.str o, .ref q] ∧ SqT K H q ((M o).map V.str)
theorem PrB.stays (K : PySem.W.Frag) (M : Str → List Str) : Rd.Stays (PrB K M) := fun _ _ _ _ s ⟨p, q, e, h1, h2⟩ => ⟨p, q, e, sqT_same s h1, sqT_same s h2⟩
theorem prs_of {K : PySem.W.Frag} {M : Str → List Str} {H : Hp} : ∀ {l : List Str} {ys : List V}, l.Nodup → Paired (fun o y => PrB K M o y H) l ys →
    ∃ (ps : List Addr) (h : Str → Addr), ys = ps.map V.ref ∧ Paired (fun p kv => SqT K H p [kV kv.1, kv.2]) ps (tab l fun o => .ref (h o)) ∧ ∀ o ∈ l, SqT K H (h o) ((M o).map V.str)
  | [], _, _, .nil => ⟨[], fun _ => 0, rfl, .nil, fun o h => by cases h⟩
  | o :: l, _, nd, .cons ⟨p, q, e, h1, h2⟩ t => by
    rw [List.nodup_cons] at nd
    obtain ⟨ps, h, e2, pr, hh⟩ := prs_of nd.2 t
    refine ⟨p :: ps, gput h o q, by rw [e, e2]; rfl, .cons ?_ ?_, fun x hx => ?_⟩
    · show SqT K H p [.str o, .ref (gput h o q o)]
      unfold gput
      rw [if_pos rfl]
      exact h1
    · have : tab l (fun x => V.ref (gput h o q x)) = tab l fun x => V.ref (h x) := tab_congr fun x hx => by
        unfold gput
        rw [if_neg (fun e => nd.1 (by rw [← e]; exact hx))]
      show Paired _ ps (tab l fun x => V.ref (gput h o q x))
      rw [this]
      exact pr
    · unfold gput
      by_cases c : x = o
      · rw [if_pos c, c]; exact h2
      · rw [if_neg c]; exact hh x ((List.mem_cons.mp hx).resolve_left c)
/-- a list made over the keys of a dict, which is locked meanwhile -/
theorem lcK {σ : L2.St} {H : Hp} {Q : VK} {td te : TE} {vs : List Nat} {j : Nat} {d : Addr} {l : List Str} {F : Str → V} (B : Str → V → Hp → Prop) (htd : ∀ (H : Hp) (R : V → Hp → Prop), R (.ref d) H → td σ H R) (hd : H d = some (.dK (tab l F))) (hB : Rd.Stays B) (hz : l.length ≤ 1000)
    (hw : ∀ x, wipe ((wipe σ vs).set j (some x)) vs = wipe σ vs)
    (elem : ∀ od o H1 (R : VK), o ∈ l → Same (upd H d (.frz od (.dK (tab l F)))) H1 → (∀ y H2, Same H1 H2 → Rd.Off (upd H d (.frz od (.dK (tab l F)))) H1 H2 (B o) y → R y H2) → te ((wipe σ vs).set j (some (.str o))) H1 R)
    (fin : ∀ od D ys H1, H D = none → D ≠ d → Same (upd H d (.frz od (.dK (tab l F)))) H1 → H1 D = some (.lst ys) → Paired (fun o y => B o y H1) l ys → Q (.ref D) (upd H1 d (.dK (tab l F)))) : tLockE (tLc (iKeys td) (gName j) tYes te vs) σ H Q := by
  refine ⟨d, _, hd, True.intro, fun od => ?_⟩
  generalize hH : upd H d (.frz od (.dK (tab l F))) = H0
  have h0 : H0 d = some (.frz od (.dK (tab l F))) := by rw [← hH]; exact upd_same
  refine htd H0 _ ⟨d, od, rfl, .inl ⟨_, h0, fun D hD => ?_⟩⟩
  have nd : D ≠ d := fun e => by rw [e, h0] at hD; cases hD
  have hD' : H D = none := by rw [← hH, upd_ne nd] at hD; exact hD
  refine lc_it (walk_keys (d := d) (o := od) (kvs := tab l F)) (fun i H1 => ∃ ys, H1 D = some (.lst ys) ∧ ys.length ≤ i ∧ Same H0 H1 ∧ ∀ o, Paired (fun c y => B c y (upd H1 D o)) (l.take i) ys) ?_ ?_ ?_ ?_
  · exact ⟨[], upd_same, Nat.le_refl _, Rd.sNew hD, fun _ => .nil⟩
  · rintro i H1 _ ⟨ys, _, _, s, _⟩
    exact s _ _ h0
  · rintro i x H1 H1' hi ⟨ys, h1, hy, s, pq⟩ ⟨rfl, k, v, hk, rfl⟩
    rw [tab_len] at hi
    have ek : k = .inr l[i] := by
      have : (tab l F)[i]? = some (.inr l[i], F l[i]) := by simp [tab, hi]
      rw [this] at hk
      cases hk
      rfl
    subst ek
    have tk : l.take (i + 1) = l.take i ++ [l[i]] := Rd.take_succ (List.getElem?_eq_getElem hi)
    refine ⟨hw _, Rd.yes (Rd.tt_ (elem od l[i] H1' _ (List.getElem_mem hi) (by rw [hH]; exact s) fun y H2 s2 off => ?_))⟩
    rw [hH] at off
    have h2 := s2 _ _ h1
    refine ⟨ys, h2, Rd.szl (by omega), ys ++ [y], upd_same, by rw [List.length_append]; simp; omega, Rd.sMut (s.trans s2) hD, fun o => ?_⟩
    rw [tk, upd_upd]
    exact (Rd.pair_imp (fun c z h => hB c z _ _ (Rd.sUpd s2) h) (pq o)).snoc (off D o hD (by rw [h1]; simp))
  · rintro H1 ⟨ys, h1, hy, s, pq⟩
    refine ⟨s _ _ h0, fin od D ys H1 hD' nd (by rw [hH]; exact s) h1 ?_⟩
    have := pq (.lst ys)
    rw [tab_len, List.take_length, Rd.upd_id h1] at this
    exact this
/-- [:1] of ways -/
theorem cutW {K : PySem.W.Frag} {H : Hp} {Q : VK} {q : Addr} {l : List Str} (hq : SqT K H q (l.map V.str)) (hl : l.length ≤ 1 → Q (.ref q) H) (hn : ¬ l.length ≤ 1 → ∀ p, H p = none → Q (.ref p) (upd H p (.tup ((l.take 1).map V.str)))) : rSlA K (.ref q) none (some 1) H Q := by
  refine ⟨q, l.map V.str, rfl, hq, fun e => hl ?_, fun e p hp => ?_⟩
  · have e2 := e.2
    rw [List.length_map] at e2
    by_cases c : l.length ≤ 1
    · exact c
    · have : HT.sIx l.length l.length (some 1) = 1 := by simp [HT.sIx]; omega
      rw [this] at e2
      omega
  · rw [cut1]
    refine hn (fun c => e ⟨rfl, ?_⟩) p hp
    rw [List.length_map]
    rcases l with _ | ⟨a, _ | ⟨b, l⟩⟩
    · rfl
    · rfl
    · simp at c
section
variable {P : Program} {w : World} {K : PySem.W.Frag} {mg : Str → Option Value} {base : Heap}
abbrev sL_bare : Stmt := top 26
abbrev nL_bare : List Str := ["_law_menus_here", "_law_operation"]
theorem scL_bare : FnScope nL_bare [] (defScope sL_bare) := ⟨rfl, rfl, rfl, by decide +kernel, rfl, by decide +kernel, by decide +kernel⟩
def spLBare (K : PySem.W.Frag) : Sp := fun vs H Q _ => vs = [] ∧ NewOwn K bareM (fun _ => false) Q H
theorem ok_lbare (T : Txt K mg) (D : DefAt K mg "_law_bare" sL_bare []) (CL_menus : CalG P w K mg base 1 "_law_menus" (spMenus K)) : CalG P w K mg base 2 "_law_bare" (spLBare K) := by
  refine D.by scL_bare (fun vs H Q E h => ?_) (fun f cd A hg outer s H vs Q E hr h => ?_)
  · rw [h.1]; rfl
  · obtain ⟨rfl, q⟩ := h
    refine ⟨_, (pss_cons (ps_set (i := 0) scL_bare.nd rfl (Or.inr rfl) (pe_cG0 CL_menus hg hr (by decide)))
  (pss_one (ps_ret (pe_disp (pps_cons pe_str (pe_callTy (r := rDictP K) (call_dictP (by rfl)) (by rfl) T.dict (by decide +kernel) (pa_cons (pe_lock (pe_lc (wi := iKeys _) (own := [("_law_operation", 1)]) (g := gName 1) (by rfl) scL_bare.nd (pi_keys (pv 0)) (blkOk_by (N := nL_bare) (sc := defScope sL_bare) (by decide +kernel)) (fun _ _ _ _ _ => pg_name (i := 1) scL_bare.nd rfl (Or.inl rfl)) (fun _ _ _ _ _ => pts_nil) (fun _ _ _ _ _ => (pe_tup (pa_cons (pv 1) (pa_cons (pe_slice (r := rSlA K) sl_tupA (pe_dget (one_ hr.units) (pv 0) (pv 1) (fun _ _ => rfl)) po_none (po_some pe_int)) pa_nil)))))) pa_nil)) (pps_cons pe_str (pe_op op_rep (pe_lst (pa_cons pe_bl pa_nil)) pe_int) pps_nil)) (by rfl) (by rfl) (by simp) (by decide))))), ?_⟩
    repeat walk_at "rd"
    refine ⟨rfl, fun d g H1 mg1 => ?_⟩
    repeat walk_at "rd"
    refine disp fun o0 ho => pcons ?_
    have s0 := mg1.s
    have s1 := Rd.sNew (o := .dK []) ho
    have od0 : o0 ≠ d := fun e => by rw [e, mg1.d] at ho; cases ho
    repeat walk_at "rd"
    refine lcK (d := d) (l := ops) (F := fun o => .ref (g o)) (PrB K bareM) (fun H R k => Rd.var rfl k) (s1 _ _ mg1.d) (PrB.stays K bareM) (by decide) (fun _ => rfl) (fun od o H2 R hm s2 k => ?_) (fun od Dd ys H2 hD nd s2 h2 pr => ?_)
    · have hdz : upd (upd H1 o0 (.dK [])) d (.frz od (.dK (tab ops fun o => .ref (g o)))) d = some (.frz od (.dK (tab ops fun o => .ref (g o)))) := upd_same
      have tq : SqT K H2 (g o) ((menu o).map V.str) := sqT_same s2 (sqT_upd (nt_dK (s1 _ _ mg1.d)) (sqT_same s1 (mg1.t o hm)))
      have tq0 : SqT K (upd (upd H1 o0 (.dK [])) d (.frz od (.dK (tab ops fun o => .ref (g o))))) (g o) ((menu o).map V.str) := sqT_upd (nt_dK (s1 _ _ mg1.d)) (sqT_same s1 (mg1.t o hm))
      have dg : DGet H2 d (.str o) (some (.ref (g o))) := by
        refine .inl ⟨_, .inr o, .inr ⟨od, s2 _ _ hdz⟩, rfl, ?_⟩
        rw [val_tab _ _ hm]
      repeat walk_at "rd"
      refine ⟨d, _, rfl, dg, ?_⟩
      repeat walk_at "rd"
      refine cutW tq (fun c => ?_) (fun c p hp => ?_)
      · repeat walk_at "rd"
        refine ⟨Rd.sz (by simp), fun t ht => ?_⟩
        have e : bareM o = menu o := List.take_of_length_le c
        refine k _ _ (Rd.sNew ht) fun D o' hD hd => ⟨t, g o, rfl, ?_, ?_⟩
        · have tD : t ≠ D := fun z => hd (by rw [← z]; exact ht)
          exact .inl (.inl (by rw [upd_ne tD]; exact upd_same))
        · rw [e]
          exact sqT_same (Rd.sMut (s2.trans (Rd.sNew ht)) hD) tq0
      · have s3 := Rd.sNew (o := .tup ((bareM o).map V.str)) hp
        repeat walk_at "rd"
        refine ⟨Rd.sz (by simp), fun t ht => ?_⟩
        have s4 := Rd.sNew (o := .tup [.str o, .ref p]) ht
        refine k _ _ (s3.trans s4) fun D o' hD hd => ⟨t, p, rfl, ?_, ?_⟩
        · have tD : t ≠ D := fun z => hd (by rw [← z]; exact Same.fr s3 ht)
          exact .inl (.inl (by rw [upd_ne tD]; exact upd_same))
        · have pD : p ≠ D := fun z => hd (by rw [← z]; exact hp)
          exact .inl (.inl (by rw [upd_ne pD]; exact s4 _ _ upd_same))
    · have S2 : Same (upd H1 o0 (.dK [])) (upd H2 d (.dK (tab ops fun o => .ref (g o)))) := fun b u e => by
        by_cases c : b = d
        · subst c
          rw [s1 _ _ mg1.d] at e
          rw [upd_same]
          exact e
        · rw [upd_ne c]
          exact s2 _ _ (by rw [upd_ne c]; exact e)
      have dz : H2 d = some (.frz od (.dK (tab ops fun o => .ref (g o)))) := s2 _ _ upd_same
      have nz : NoTup H2 d := fun u e => by rw [dz] at e; cases e; exact ⟨fun _ => by simp, fun _ _ => by simp⟩
      have pr' := Rd.pair_imp (G := fun o y => PrB K bareM o y (upd H2 d (.dK (tab ops fun o => .ref (g o))))) (fun o y ⟨p, q, e, h1, h3⟩ => ⟨p, q, e, sqT_upd nz h1, sqT_upd nz h3⟩) pr
      have hD2 : upd H2 d (.dK (tab ops fun o => .ref (g o))) Dd = some (.lst ys) := by rw [upd_ne nd]; exact h2
      generalize upd H2 d (.dK (tab ops fun o => .ref (g o))) = H3 at S2 pr' hD2 ⊢
      obtain ⟨ps, h, rfl, pk, hh⟩ := prs_of ops_nd pr'
      repeat walk_at "rd"
      refine ⟨Dd, ps, _, rfl, SqL.of hD2, pk, fun w1 hw1 => pcons ?_⟩
      rw [merge0 _ ops_nd]
      have s3 := Rd.sNew (o := .dK (tab ops fun o => .ref (h o))) hw1
      repeat walk_at "rd"
      refine ⟨Rd.sz (by simp), fun l0 hl0 => ?_⟩
      have s4 := Rd.sNew (o := .lst [.bl false]) hl0
      refine ⟨l0, 3, [.bl false], rfl, rfl, upd_same, by decide, by decide, by decide, fun f1 hf1 => pnil ⟨?_, [(.inr "ways", .ref w1), (.inr "flags", .ref f1)], rfl, by simp, ?_⟩⟩
      · exact Rd.sNew hf1 _ _ (s4 _ _ (s3 _ _ (S2 _ _ upd_same)))
      have s5 := Rd.sNew (o := .lst (List.replicate (3 : Int).toNat [V.bl false]).flatten) hf1
      have fo : H o0 = none := Same.fr s0 ho
      have fw : H w1 = none := Same.fr (s0.trans (s1.trans S2)) hw1
      have ff : H f1 = none := Same.fr (s0.trans (s1.trans (S2.trans (s3.trans s4)))) hf1
      have dw : w1 ≠ o0 := fun e => by have z := S2 _ _ (show upd H1 o0 (.dK []) o0 = _ from upd_same); rw [e] at hw1; rw [hw1] at z; cases z
      have df : f1 ≠ o0 := fun e => by have z := s4 _ _ (s3 _ _ (S2 _ _ (show upd H1 o0 (.dK []) o0 = _ from upd_same))); rw [e] at hf1; rw [hf1] at z; cases z
      have sAll := Rd.sMut (o := .dK (mergeK [] [(.inr "ways", .ref w1), (.inr "flags", .ref f1)])) (s0.trans (s1.trans (S2.trans (s3.trans (s4.trans s5))))) fo
      refine q o0 w1 f1 h _ sAll fo fw ff ⟨by rw [upd_same]; rfl, ?_, ?_, fun y hy => ?_, fun e => dw e.symm⟩
      · rw [upd_ne dw]; exact s5 _ _ (s4 _ _ upd_same)
      · rw [upd_ne df]; exact upd_same
      · have oz := s5 _ _ (s4 _ _ (s3 _ _ (S2 _ _ (show upd H1 o0 (.dK []) o0 = some (.dK []) from upd_same))))
        exact sqT_upd (nt_dK oz) (sqT_same (s3.trans (s4.trans s5)) (hh y hy))
end
end Ab
namespace Ab
open PySem.Spec PyProof.Rows
local macro_rules | `(tactic| walk_at "rd") => `(tactic| (with_reducible first | refine Rd.sfld ?_ | refine Rd.dget ?_ | refine Rd.methR ?_ | refine Rd.propR ?_ | refine Rd.statR ?_ | refine Rd.getR ?_))
/-- all but what stands at A stays -/
def Chg (A : List Addr) (H H' : Hp) : Prop := ∀ a u, H a = some u → a ∉ A → H' a = some u
section
variable {A B : List Addr} {H H1 H2 : Hp} {a p : Addr} {o : HO}
theorem Chg.refl : Chg A H H := fun _ _ e _ => e
theorem Chg.same (c : Chg A H H1) (s : Same H1 H2) : Chg A H H2 := fun b u e n => s _ _ (c b u e n)
theorem Chg.upd (c : Chg A H H1) (m : a ∈ A) : Chg A H (L2.upd H1 a o) := fun b u e n => by
  rw [upd_ne (fun z => n (by rw [z]; exact m))]
  exact c b u e n
theorem Chg.keep (c : Chg A H H1) (k : Keep p H1 H2) (m : p ∈ A) : Chg A H H2 := fun b u e n => k b u (fun z => n (by rw [z]; exact m)) (c b u e n)
theorem Chg.sub (c : Chg A H H1) (h : ∀ x ∈ A, x ∈ B) : Chg B H H1 := fun b u e n => c b u e fun z => n (h b z)
theorem chg1 : Chg [a] H (L2.upd H a o) := Chg.refl.upd List.mem_cons_self
theorem Keep.chg (k : Keep p H H1) : Chg [p] H H1 := fun b u e n => k b u (by simpa using n) e
end
section
variable {K : PySem.W.Frag} {C : Addr} {A : List Addr} {H H' : Hp} {b w f o q : Addr} {g : Str → Addr} {m : Str → List Str} {fl : Str → Bool} {xs : List V}
theorem sqT_chg (c : Chg A H H') (nt : ∀ a ∈ A, NoTup H a) (h : SqT K H q xs) : SqT K H' q xs := by
  rcases h with (h | ⟨o, h⟩) | h
  · exact .inl (.inl (c _ _ h fun m => (nt _ m _ h).1 _ rfl))
  · exact .inl (.inr ⟨o, c _ _ h fun m => (nt _ m _ h).2 _ _ rfl⟩)
  · exact .inr h
theorem Bk.chg (k : Bk K C H b w f g m fl) (c : Chg A H H') (nt : ∀ a ∈ A, NoTup H a) (hb : b ∉ A) (hw : w ∉ A) (hf : f ∉ A) : Bk K C H' b w f g m fl :=
  ⟨let ⟨dx, h⟩ := k.ins; ⟨dx, c _ _ h hb⟩, c _ _ k.wd hw, c _ _ k.fd hf, fun y hy => sqT_chg c nt (k.tp y hy), k.ne⟩
theorem Own.chg (k : Own K H o w f g m fl) (c : Chg A H H') (nt : ∀ a ∈ A, NoTup H a) (ho : o ∉ A) (hw : w ∉ A) (hf : f ∉ A) : Own K H' o w f g m fl :=
  ⟨c _ _ k.od ho, c _ _ k.wd hw, c _ _ k.fd hf, fun y hy => sqT_chg c nt (k.tp y hy), k.ne⟩
theorem Own.setW {t y : Addr} {x : Str} {ws : List Str} (k : Own K H o w f g m fl) (s : SqT K H t (ws.map V.str)) : Own K (upd H w (.dK (tab ops fun y => .ref (gput g x t y)))) o w f (gput g x t) (mput m x ws) fl := by
  have nt := nt_dK k.wd
  refine ⟨by rw [upd_ne k.ne]; exact k.od, upd_same, ?_, fun y hy => ?_, k.ne⟩
  · rw [upd_ne (fun e => by have := k.fd; rw [e, k.wd] at this; cases this)]; exact k.fd
  · unfold gput mput
    by_cases e : y = x
    · rw [if_pos e, if_pos e]; exact sqT_upd nt s
    · rw [if_neg e, if_neg e]; exact sqT_upd nt (k.tp y hy)
theorem Own.setF {x : Str} {c : Bool} (k : Own K H o w f g m fl) : Own K (upd H f (.lst (flagsW.map fun y => .bl (fput fl x c y)))) o w f g m (fput fl x c) := by
  have nt := nt_lst k.fd
  refine ⟨?_, ?_, upd_same, fun y hy => sqT_upd nt (k.tp y hy), k.ne⟩
  · rw [upd_ne (fun e => by have := k.od; rw [e, k.fd] at this; cases this)]; exact k.od
  · rw [upd_ne (fun e => by have := k.wd; rw [e, k.fd] at this; cases this)]; exact k.wd
end
theorem flag_set (fl : Str → Bool) (c : Bool) : ∀ i (hi : i < flagsW.length), (flagsW.map fun x => V.bl (fl x)).set i (.bl c) = flagsW.map fun x => .bl (fput fl flagsW[i] c x) := by
  intro i hi
  have e : i = 0 ∨ i = 1 ∨ i = 2 := by have : flagsW.length = 3 := rfl; omega
  rcases e with rfl | rfl | rfl <;> rfl
theorem mem_menu_len : ∀ o ∈ ops, (menu o).Nodup ∧ (menu o).length ≤ 20 := by decide +kernel
theorem ways_ok {o : Str} {ws : List Str} (nd : ws.Nodup) (h : ∀ z ∈ ws, z ∈ menu o) : waysOk o (ws.map V.str) = true := by
  have e : ∀ l : List Str, strsOf (l.map V.str) = l := fun l => by
    induction l with
    | nil => rfl
    | cons a l ih => show a :: strsOf (l.map V.str) = _; rw [ih]
  rw [waysOk, e, decide_eq_true nd, Bool.and_true, List.all_eq_true]
  intro x hx
  obtain ⟨z, hz, rfl⟩ := List.mem_map.mp hx
  exact decide_eq_true (h z hz)
theorem len_sub {ws l : List Str} (nd : ws.Nodup) (h : ∀ z ∈ ws, z ∈ l) : ws.length ≤ l.length := by
  induction ws generalizing l with
  | nil => simp
  | cons a ws ih =>
    rw [List.nodup_cons] at nd
    have ha := h a List.mem_cons_self
    have := ih (l := l.erase a) nd.2 fun z hz => by
      refine (List.mem_erase_of_ne (fun e => nd.1 (by rw [← e]; exact hz))).mpr (h z (List.mem_cons_of_mem _ hz))
    rw [List.length_erase_of_mem ha] at this
    have : 0 < l.length := List.length_pos_of_mem ha
    rw [List.length_cons]
    omega
section
variable {P : Program} {w : World} {K : PySem.W.Frag} {mg : Str → Option Value} {base : Heap}
abbrev sL_deed : Stmt := top 25
abbrev nL_deed : List Str := ["_law_pool_here", "_law_book", "_law_own", "_law_way", "_law_value", "_law_operation", "_law_at"]
theorem scL_deed : FnScope nL_deed ["_law_pool_here", "_law_book", "_law_own"] (defScope sL_deed) := ⟨rfl, rfl, rfl, by decide +kernel, rfl, by decide +kernel, by decide +kernel⟩
def spDeed (K : PySem.W.Frag) (C : Addr) : Sp := fun vs H Q _ => ∃ (p b w f o wo fo : Addr) (g go : Str → Addr) (m : Str → List Str) (fl : Str → Bool) (x y : Int), vs = [.ref p, .ref b, .ref o] ∧ H p = some (.lst [.int x, .int y]) ∧ PoolOk x y ∧ Bk K C H b w f g m fl ∧ Own K H o wo fo go m fl ∧ OkM m ∧ LenM m ∧
  p ≠ fo ∧ w ≠ wo ∧ f ≠ wo ∧ o ≠ w ∧ o ≠ f ∧
  ∀ (H' : Hp) (g' go' : Str → Addr) (m' : Str → List Str) (fl' : Str → Bool) (x' y' : Int), Chg [p, w, f, wo, fo] H H' → H' p = some (.lst [.int x', .int y']) → PoolOk x' y' → Bk K C H' b w f g' m' fl' → Own K H' o wo fo go' m' fl' → OkM m' → LenM m' → Q .non H'
theorem ok_deed (T : Txt K mg) {C_Book CN CW CF p_OPERATIONS pM pF : Addr} {gM : Str → Addr} (K_Book : BF K mg C_Book) (t : Tb K w mg p_OPERATIONS pM pF gM) (U_Book : Ob.GetCal P w K mg base (L2.CX P w) C_Book 4 "__setitem__" (spSet K C_Book CN CW))
    (M_Book_set_flag : Ob.MCal P w K mg base (L2.CX P w) C_Book 4 "set_flag" (spSetFlag K C_Book CN CF)) (D : DefAt K mg "_law_deed" sL_deed ["_law_pool_here", "_law_book", "_law_own"]) (CL_take : CalG P w K mg base 1 "_law_take" spTake) (CL_one : CalG P w K mg base 2 "_law_one" (spOne K))
    (CL_menus : CalG P w K mg base 1 "_law_menus" (spMenus K)) (CL_some : CalG P w K mg base 2 "_law_some" (spSome K)) : CalG P w K mg base 6 "_law_deed" (spDeed K C_Book) := by
  have g_OPERATIONS := t.o
  refine D.by scL_deed (fun vs H Q E h => ?_) (fun f cd A hg outer s H vs Q E hr h => ?_)
  · obtain ⟨_, _, _, _, _, _, _, _, _, _, _, _, _, rfl, _⟩ := h
    rfl
  · obtain ⟨p, b, w0, f0, o, wo, fo, g, go, m, fl, x, y, rfl, hp, ok, bk, ow, om, lm, n1, n2, n3, n4, n5, q⟩ := h
    obtain ⟨dx, hb⟩ := bk.ins
    have npb : b ≠ p := fun e => by rw [e, hp] at hb; cases hb
    have npw : w0 ≠ p := fun e => by have := bk.wd; rw [e, hp] at this; cases this
    have npf : f0 ≠ p := fun e => by have := bk.fd; rw [e, hp] at this; cases this
    have npo : o ≠ p := fun e => by have := ow.od; rw [e, hp] at this; cases this
    have npwo : wo ≠ p := fun e => by have := ow.wd; rw [e, hp] at this; cases this
    have nbw : b ≠ wo := fun e => by have := ow.wd; rw [← e, hb] at this; cases this
    have nbf : b ≠ fo := fun e => by have := ow.fd; rw [← e, hb] at this; cases this
    have nwf : w0 ≠ fo := fun e => by have := ow.fd; rw [← e, bk.wd] at this; cases this
    have nff : f0 ≠ fo := fun e => by have := ow.fd; rw [← e, bk.fd] at this; cases this
    have nwb : w0 ≠ b := fun e => by have := bk.wd; rw [e, hb] at this; cases this
    have nwofo : wo ≠ fo := fun e => by have := ow.fd; rw [← e, ow.wd] at this; cases this
    have bkP : ∀ {H1 H2 : Hp} {g m fl}, H1 p ≠ none → NoTup H1 p → Chg [p] H1 H2 → Bk K C_Book H1 b w0 f0 g m fl → Bk K C_Book H2 b w0 f0 g m fl := fun _ nt c k => k.chg c (fun a ha => by rw [List.mem_singleton.mp ha]; exact nt) (by simpa using npb) (by simpa using npw) (by simpa using npf)
    have owP : ∀ {H1 H2 : Hp} {g m fl}, NoTup H1 p → Chg [p] H1 H2 → Own K H1 o wo fo g m fl → Own K H2 o wo fo g m fl := fun nt c k => k.chg c (fun a ha => by rw [List.mem_singleton.mp ha]; exact nt) (by simpa using npo) (by simpa using npwo) (by simpa using Ne.symm n1)
    refine ⟨_, (pss_cons (ps_set (i := 3) scL_deed.nd rfl (Or.inl rfl) (pe_cG CL_take hg hr (by decide) (pa_cons (pv 0) (pa_cons pe_int pa_nil))))
  (pss_cons (ps_set (i := 4) scL_deed.nd rfl (Or.inl rfl) (pe_cmpR op_eq (pe_cG CL_take hg hr (by decide) (pa_cons (pv 0) (pa_cons pe_int pa_nil))) pe_int (nomark _)))
  (pss_cons (ps_if (pt_cmpR op_lt (pv 3) pe_int (nomark _))
  (pss_cons (ps_set (i := 5) scL_deed.nd rfl (Or.inl rfl) (pe_cG CL_one hg hr (by decide) (pa_cons (pv 0) (pa_cons (pe_callTy (r := Rd.rListK K) Rd.callList (by rfl) T.list (by decide +kernel) (pa_cons (pe_glob (v := .ref p_OPERATIONS) (by rfl) g_OPERATIONS rfl) pa_nil)) pa_nil))))
  (pss_cons (ps_asg (pe_cG CL_some hg hr (by decide) (pa_cons (pv 0) (pa_cons (pe_dget (one_ hr.units) (pe_cG0 CL_menus hg hr (by decide)) (pv 5) (fun _ _ => rfl)) pa_nil))) (pg_sub (pe_dget (one_ hr.units) (pv 2) pe_str (fun _ _ => rfl)) (pv 5) (set_dict (one_ hr.units))))
  (pss_cons (ps_asg (pe_dget (one_ hr.units) (pe_dget (one_ hr.units) (pv 2) pe_str (fun _ _ => rfl)) (pv 5) (fun _ _ => rfl)) (pg_sub (pv 1) (pv 5) (Ob.setO U_Book hg hr (by decide) Ob.px0)))
  (pss_one ps_retN))))
  pss_nil)
  (pss_cons (ps_set (i := 6) scL_deed.nd rfl (Or.inl rfl) (pe_cG CL_take hg hr (by decide) (pa_cons (pv 0) (pa_cons pe_int pa_nil))))
  (pss_cons (ps_asg (pv 4) (pg_sub (pe_dget (one_ hr.units) (pv 2) pe_str (fun _ _ => rfl)) (pv 6) set_list))
  (pss_one (ps_expr (Ob.meth (pv 1) K_Book.cl M_Book_set_flag hg hr (by decide) Ob.px0 (pa_cons (pe_ix (r := rIxL K) ix_list (pe_lst (pa_cons pe_str (pa_cons pe_str (pa_cons pe_str pa_nil)))) (pv 6) (fun _ _ => rfl)) (pa_cons (pv 4) pa_nil)))))))))), ?_⟩
    repeat walk_at "rd"
    refine ⟨p, x, y, 5, rfl, hp, ok, by decide, by decide, fun r1 x1 y1 ok1 r10 r11 => ?_⟩
    have hp1 : upd H p (.lst [.int x1, .int y1]) p = some (.lst [.int x1, .int y1]) := upd_same
    have c1 : Chg [p, w0, f0, wo, fo] H (upd H p (.lst [.int x1, .int y1])) := Chg.refl.upd (by simp)
    have bk1 := bkP (by rw [hp]; simp) (nt_lst hp) (chg1 (o := .lst [.int x1, .int y1])) bk
    have ow1 := owP (nt_lst hp) (chg1 (o := .lst [.int x1, .int y1])) ow
    generalize upd H p (.lst [.int x1, .int y1]) = H1 at hp1 c1 bk1 ow1 ⊢
    repeat walk_at "rd"
    refine ⟨p, x1, y1, 2, rfl, hp1, ok1, by decide, by decide, fun r2 x2 y2 ok2 r20 r21 => ?_⟩
    have hp2 : upd H1 p (.lst [.int x2, .int y2]) p = some (.lst [.int x2, .int y2]) := upd_same
    have c2 := c1.upd (o := .lst [.int x2, .int y2]) (a := p) (by simp)
    have bk2 := bkP (by rw [hp1]; simp) (nt_lst hp1) (chg1 (o := .lst [.int x2, .int y2])) bk1
    have ow2 := owP (nt_lst hp1) (chg1 (o := .lst [.int x2, .int y2])) ow1
    generalize upd H1 p (.lst [.int x2, .int y2]) = H2 at hp2 c2 bk2 ow2 ⊢
    repeat walk_at "rd"
    refine Rd.dec (fun c => ?_) (fun c => ?_)
    · repeat walk_at "rd"
      refine ⟨p_OPERATIONS, ops.map V.str, rfl, .inr (t.to _), fun l hl => ?_⟩
      have s3 := Rd.sNew (o := .lst (ops.map V.str)) hl
      have lp : l ≠ p := fun e => by rw [e, hp2] at hl; cases hl
      repeat walk_at "rd"
      refine ⟨p, l, x2, y2, ops.map V.str, rfl, s3 _ _ hp2, SqL.of upd_same, fun z => SqL.of (by rw [upd_ne lp]; exact upd_same), ok2, by decide, by decide, fun v x3 y3 hv ok3 => ?_⟩
      obtain ⟨op, hop, rfl⟩ := List.mem_map.mp hv
      have bk3 := bkP (by rw [s3 _ _ hp2]; simp) (nt_lst (s3 _ _ hp2)) (chg1 (o := .lst [.int x3, .int y3])) (bk2.mono s3)
      have ow3 := owP (nt_lst (s3 _ _ hp2)) (chg1 (o := .lst [.int x3, .int y3])) (ow2.mono s3)
      have c3 := (c2.same s3).upd (o := .lst [.int x3, .int y3]) (a := p) (by simp)
      have hp3 : upd (upd H2 l (.lst (ops.map V.str))) p (.lst [.int x3, .int y3]) p = some (.lst [.int x3, .int y3]) := upd_same
      generalize upd (upd H2 l (.lst (ops.map V.str))) p (.lst [.int x3, .int y3]) = H3 at bk3 ow3 c3 hp3 ⊢
      repeat walk_at "rd"
      refine ⟨rfl, fun d gd H4 mg4 => ?_⟩
      have s4 := mg4.s
      repeat walk_at "rd"
      refine ⟨d, _, rfl, get_tab mg4.d hop, ?_⟩
      repeat walk_at "rd"
      refine ⟨p, gd op, x3, y3, menu op, rfl, s4 _ _ hp3, ok3, mg4.t op hop, (mem_menu_len op hop).1, (mem_menu_len op hop).2, fun t0 ws H5 x5 y5 k5 hp5 ok5 ht0 tt nd sub => ?_⟩
      have bk5 := bkP (by rw [s4 _ _ hp3]; simp) (nt_lst (s4 _ _ hp3)) k5.chg (bk3.mono s4)
      have ow5 := owP (nt_lst (s4 _ _ hp3)) k5.chg (ow3.mono s4)
      have c5 := (c3.same s4).keep k5 (by simp)
      repeat walk_at "rd"
      refine ⟨o, _, rfl, ow5.ways, ?_⟩
      repeat walk_at "rd"
      refine ⟨wo, _, rfl, .inl ⟨_, .inr op, ow5.wd, rfl, ?_, rfl⟩, ?_⟩
      · rw [tab_len]; exact Rd.szl (by decide)
      rw [put_tab _ _ _ hop, gput_tab]
      have ow6 := ow5.setW (x := op) (y := t0) tt
      have bk6 : Bk K C_Book (upd H5 wo (.dK (tab ops fun y => .ref (gput go op t0 y)))) b w0 f0 g m fl := bk5.chg chg1 (fun a ha => by rw [List.mem_singleton.mp ha]; exact nt_dK ow5.wd) (by simpa using nbw) (by simpa using n2) (by simpa using n3)
      have c6 := c5.upd (o := .dK (tab ops fun y => .ref (gput go op t0 y))) (a := wo) (by simp)
      have hp6 : upd H5 wo (.dK (tab ops fun y => .ref (gput go op t0 y))) p = some (.lst [.int x5, .int y5]) := by rw [upd_ne (Ne.symm npwo)]; exact hp5
      generalize upd H5 wo (.dK (tab ops fun y => .ref (gput go op t0 y))) = H6 at ow6 bk6 c6 hp6 ⊢
      repeat walk_at "rd"
      refine ⟨o, _, rfl, ow6.ways, ?_⟩
      repeat walk_at "rd"
      refine ⟨wo, _, rfl, get_tab ow6.wd hop, ?_⟩
      have eg : gput go op t0 op = t0 := by unfold gput; rw [if_pos rfl]
      have t6 := ow6.tp op hop
      have em : mput m op ws op = ws := by unfold mput; rw [if_pos rfl]
      rw [eg] at t6 ⊢
      rw [em] at t6
      obtain ⟨dx6, hb6⟩ := bk6.ins
      repeat walk_at "rd"
      refine ⟨b, dx6, _, rfl, hb6, b, w0, f0, g, m, fl, .str op, .ref t0, "str", rfl, bk6, kd_str _, fun c => ?_, fun o' eo _ => .inr ⟨t0, ws.map V.str, rfl, t6, ?_, fun z hz H' _ => ?_, fun c => ?_, fun _ H7 s7 => ?_⟩⟩
      · rw [show isIn (.str op) ops = true from decide_eq_true hop] at c; cases c
      · rw [List.length_map]
        have := len_sub nd sub
        have := (mem_menu_len op hop).2
        omega
      · obtain ⟨u, _, rfl⟩ := List.mem_map.mp hz
        exact ⟨_, kd_str u⟩
      · obtain rfl := V.str.inj eo
        rw [ways_ok nd sub] at c
        cases c
      · obtain rfl := V.str.inj eo
        have bk7 := bk6.setW s7 (sqT_same s7 t6) (o := op) (ws := ws)
        have ow7 : Own K (upd H7 w0 (.dK (tab ops fun y => .ref (gput g op t0 y)))) o wo fo (gput go op t0) (mput m op ws) fl := (ow6.mono s7).chg chg1 (fun a ha => by rw [List.mem_singleton.mp ha]; exact nt_dK (s7 _ _ bk6.wd)) (by simpa using n4) (by simpa using Ne.symm n2) (by simpa using Ne.symm nwf)
        repeat walk_at "rd"
        refine q _ _ _ _ _ x5 y5 ((c6.same s7).upd (by simp)) (by rw [upd_ne (Ne.symm npw)]; exact s7 _ _ hp6) ok5 bk7 ow7 (fun z hz u hu => ?_) (fun z hz => ?_)
        · unfold mput at hu
          by_cases e : z = op
          · rw [if_pos e] at hu
            exact menu_in op hop u (sub u hu)
          · rw [if_neg e] at hu
            exact om z hz u hu
        · unfold mput
          by_cases e : z = op
          · rw [if_pos e]
            exact Nat.le_trans (len_sub nd sub) (mem_menu_len op hop).2
          · rw [if_neg e]
            exact lm z hz
    · repeat walk_at "rd"
      refine ⟨p, x2, y2, 3, rfl, hp2, ok2, by decide, by decide, fun r3 x3 y3 ok3 r30 r31 => ?_⟩
      have hp3 : upd H2 p (.lst [.int x3, .int y3]) p = some (.lst [.int x3, .int y3]) := upd_same
      have c3 := c2.upd (o := .lst [.int x3, .int y3]) (a := p) (by simp)
      have bk3 := bkP (by rw [hp2]; simp) (nt_lst hp2) (chg1 (o := .lst [.int x3, .int y3])) bk2
      have ow3 := owP (nt_lst hp2) (chg1 (o := .lst [.int x3, .int y3])) ow2
      generalize upd H2 p (.lst [.int x3, .int y3]) = H3 at hp3 c3 bk3 ow3 ⊢
      have hi : r3.toNat < flagsW.length := by have : flagsW.length = 3 := rfl; omega
      repeat walk_at "rd"
      refine ⟨o, _, rfl, ow3.flags, ?_⟩
      have ixn : ixN (flagsW.map fun x => V.bl (fl x)).length r3 = some r3.toNat := by
        have e : ((r3.toNat : Nat) : Int) = r3 := Int.toNat_of_nonneg r30
        have e3 : r3 = 0 ∨ r3 = 1 ∨ r3 = 2 := by omega
        rcases e3 with rfl | rfl | rfl <;> rfl
      repeat walk_at "rd"
      refine Rd.setL ow3.fd ixn ?_
      generalize decide (V.int r2 = V.int 1) = cv
      rw [flag_set fl cv _ hi]
      have ow4 := ow3.setF (x := flagsW[r3.toNat]) (c := cv)
      have bk4 : Bk K C_Book (upd H3 fo (.lst (flagsW.map fun y => .bl (fput fl flagsW[r3.toNat] cv y)))) b w0 f0 g m fl := bk3.chg chg1 (fun a ha => by rw [List.mem_singleton.mp ha]; exact nt_lst ow3.fd) (by simpa using nbf) (by simpa using nwf) (by simpa using nff)
      have c4 := c3.upd (o := .lst (flagsW.map fun y => .bl (fput fl flagsW[r3.toNat] cv y))) (a := fo) (by simp)
      have hp4 : upd H3 fo (.lst (flagsW.map fun y => .bl (fput fl flagsW[r3.toNat] cv y))) p = some (.lst [.int x3, .int y3]) := by rw [upd_ne n1]; exact hp3
      generalize upd H3 fo (.lst (flagsW.map fun y => .bl (fput fl flagsW[r3.toNat] cv y))) = H4 at ow4 bk4 c4 hp4 ⊢
      obtain ⟨dx4, hb4⟩ := bk4.ins
      repeat walk_at "rd"
      refine ⟨b, dx4, _, rfl, hb4, rfl, ?_⟩
      repeat walk_at "rd"
      refine ⟨Rd.sz (by simp), fun l hl => ?_⟩
      have s5 := Rd.sNew (o := .lst [.str "bars_hash", .str "ends_same", .str "ends_true"]) hl
      repeat walk_at "rd"
      refine Rd.ixL (xs := flagsW.map V.str) (SqL.of upd_same) (Rd.atN r30 (by rw [List.getElem?_map, List.getElem?_eq_getElem hi]; rfl)) ?_
      repeat walk_at "rd"
      refine ⟨b, w0, f0, g, m, fl, .str flagsW[r3.toNat], .bl cv, "str", "bool", rfl, bk4.mono s5, kd_str _, kd_bl _, fun c => ?_, fun o' eo _ => ⟨fun c => (by cases c), fun c ec => ?_⟩⟩
      · rw [show isIn (.str flagsW[r3.toNat]) flagsW = true from decide_eq_true (List.getElem_mem hi)] at c; cases c
      · obtain rfl := V.str.inj eo
        obtain rfl := V.bl.inj ec
        have bk6 := (bk4.mono s5).setF (o := flagsW[r3.toNat]) (c := cv)
        have ow6 : Own K (upd (upd H4 l (.lst [.str "bars_hash", .str "ends_same", .str "ends_true"])) f0 (.dK (tab flagsW fun y => .bl (fput fl flagsW[r3.toNat] cv y)))) o wo fo go m (fput fl flagsW[r3.toNat] cv) := (ow4.mono s5).chg chg1 (fun a ha => by rw [List.mem_singleton.mp ha]; exact nt_dK (s5 _ _ bk4.fd)) (by simpa using n5) (by simpa using Ne.symm n3) (by simpa using Ne.symm nff)
        repeat walk_at "rd"
        exact q _ _ _ _ _ x3 y3 ((c4.same s5).upd (by simp)) (by rw [upd_ne (Ne.symm npf)]; exact s5 _ _ hp4) ok3 bk6 ow6 om lm
end
end Ab
namespace Ab
open PySem.Spec PyProof.Rows
local macro_rules | `(tactic| walk_at "rd") => `(tactic| (with_reducible first | refine Rd.sfld ?_ | refine Rd.dget ?_ | refine Rd.methR ?_ | refine Rd.propR ?_ | refine Rd.statR ?_ | refine Rd.getR ?_))
theorem eqWays_comm (m m' : Str → List Str) : eqWays m m' = eqWays m' m := by
  unfold eqWays
  congr 1
  funext o
  rw [Bool.eq_iff_iff, decide_eq_true_iff, decide_eq_true_iff]
  exact eq_comm
theorem eqFlags_comm (fl fl' : Str → Bool) : eqFlags fl fl' = eqFlags fl' fl := by
  unfold eqFlags
  congr 1
  funext o
  rw [Bool.eq_iff_iff, decide_eq_true_iff, decide_eq_true_iff]
  exact eq_comm
theorem bookEq_comm (m m' : Str → List Str) (fl fl' : Str → Bool) : bookEq m m' fl fl' = bookEq m' m fl' fl := by
  unfold bookEq
  rw [eqWays_comm, eqFlags_comm]
theorem bookEq_self (m : Str → List Str) (fl : Str → Bool) : bookEq m m fl fl = true := by
  unfold bookEq eqWays eqFlags
  rw [Bool.and_eq_true]
  exact ⟨List.all_eq_true.mpr fun _ _ => decide_eq_true rfl, List.all_eq_true.mpr fun _ _ => decide_eq_true rfl⟩
theorem eqv_bools (fl fl' : Str → Bool) : ∀ l : List Str, PyData.eqvAll (l.map fun x => .bool (fl x)) (l.map fun x => .bool (fl' x)) = l.all fun x => decide (fl x = fl' x)
  | [] => rfl
  | a :: l => by
    rw [List.map_cons, List.map_cons, List.all_cons, PyData.eqvAll, eqv_bools fl fl' l]
    congr 1
    try (cases fl a <;> cases fl' a <;> rfl)
def flD (fl : Str → Bool) : PyData := .list (flagsW.map fun x => .bool (fl x))
theorem flD_eqv (fl fl' : Str → Bool) : PyData.eqv (flD fl) (flD fl') = eqFlags fl fl' := by
  show PyData.eqv (.list _) (.list _) = _
  rw [PyData.eqv, eqv_bools]
  rfl
theorem flD_dp {K : PySem.W.Frag} {H : Hp} {f : Addr} {fl : Str → Bool} (h : H f = some (.lst (flagsW.map fun x => .bl (fl x)))) : Dp K H (.ref f) (flD fl) := .lst (SqL.of h) (.cons (.bl _) (.cons (.bl _) (.cons (.bl _) .nil)))
theorem flD_sh (fl : Str → Bool) : SeqAt.shaped (flD fl) = true := by with_unfolding_all rfl
section
variable {K : PySem.W.Frag} {mg : Str → Option Value} {C : Addr} {H : Hp} {Q : VK} {b w f o b' w' f' o' : Addr} {g g' : Str → Addr} {m m' : Str → List Str} {fl fl' : Str → Bool} {neg : Bool}
theorem eqO (B : BF K mg C) (ic : IC K C) (k : Bk K C H b w f g m fl) (om : OkM m) (k' : Bk K C H b' w' f' g' m' fl') (om' : OkM m') (q : Q (.bl (if neg = true then !bookEq m m' fl fl' else bookEq m m' fl fl')) H) : Ob.rEqO K C (spBEq K C) neg (.ref b) (.ref b') H Q := by
  obtain ⟨dx, hb⟩ := k.ins
  exact ⟨b, dx, _, .ref C, rfl, hb, bk_ty B ic k', by show (Value.ref C == Value.ref C || _) = true; simp, b, w, f, g, m, fl, .ref b', rfl, k, om, .inr ⟨b', w', f', g', m', fl', rfl, k', om', _, rfl, q⟩⟩
theorem eqN {y : V} {t : Value} (k : Bk K C H b w f g m fl) (om : OkM m) (ty : TyX K H y t) (k1 : PySem.W.kitOne K t (.ref C) = some false) (k2 : PySem.W.notFirst K C t = true) (q : Q (.bl false) H) : Ob.rEqO K C (spBEq K C) false (.ref b) y H Q := by
  obtain ⟨dx, hb⟩ := k.ins
  exact ⟨b, dx, _, t, rfl, hb, ty, k2, b, w, f, g, m, fl, y, rfl, k, om, .inl ⟨t, ty, k1, _, rfl, by rw [if_neg Bool.false_ne_true]; exact q⟩⟩
theorem ownEq (k : Own K H o w f g m fl) (om : OkM m) (k' : Own K H o' w' f' g' m' fl') (om' : OkM m') (ne : w ≠ w') (q : Q (.bl (if neg = true then !bookEq m m' fl fl' else bookEq m m' fl fl')) H) : Ob.rEqX K neg (.ref o) (.ref o') H Q := by
  refine ⟨o, o', _, _, _, rfl, rfl, k.od, k'.od, .hit (e := eqWays m m') rfl (.inr ⟨w, w', tab ops fun o => .ref (g o), tab ops fun o => .ref (g' o), eqWays m m', rfl, rfl, ne, k.wd, k'.wd, hit_tab fun o ho => ⟨ho, .inl ⟨dT (m o), dT (m' o), .tup (k.tp o ho) (Dt.dp_strs _), .tup (k'.tp o ho) (Dt.dp_strs _), shaped_dT (om o ho), shaped_dT (om' o ho), (eqv_dT _ _).symm⟩⟩, ?_⟩)
    (.hit (e := eqFlags fl fl') rfl (.inl ⟨flD fl, flD fl', flD_dp k.fd, flD_dp k'.fd, flD_sh _, flD_sh _, (flD_eqv _ _).symm⟩) .nil), ?_⟩
  · first | rfl | (rw [tab_len, tab_len, beq_self_eq_true, Bool.true_and])
  · have e : ((2 : Nat) == 2 && (eqWays m m' && (eqFlags fl fl' && true))) = bookEq m m' fl fl' := by rw [Bool.and_true]; rfl
    show Q (.bl (if neg = true then !((2 : Nat) == 2 && (eqWays m m' && (eqFlags fl fl' && true))) else ((2 : Nat) == 2 && (eqWays m m' && (eqFlags fl fl' && true))))) H
    rw [e]
    exact q
end
/-- both the program's and the law's, at a turn -/
structure LI (K : PySem.W.Frag) (C : Addr) (H Hc : Hp) (b w f o wo fo : Addr) (m : Str → List Str) (fl : Str → Bool) : Prop where
  nw : H w = none
  nf : H f = none
  nwo : H wo = none
  nfo : H fo = none
  bk : ∃ g, Bk K C Hc b w f g m fl
  ow : ∃ g, Own K Hc o wo fo g m fl
  om : OkM m
  lm : LenM m
  d1 : w ≠ wo
  d2 : f ≠ wo
  d3 : o ≠ w
  d4 : o ≠ f
theorem LI.mono {K : PySem.W.Frag} {C : Addr} {H Hc Hd : Hp} {b w f o wo fo : Addr} {m : Str → List Str} {fl : Str → Bool} (k : LI K C H Hc b w f o wo fo m fl) (s : Same Hc Hd) : LI K C H Hd b w f o wo fo m fl :=
  ⟨k.nw, k.nf, k.nwo, k.nfo, let ⟨g, h⟩ := k.bk; ⟨g, h.mono s⟩, let ⟨g, h⟩ := k.ow; ⟨g, h.mono s⟩, k.om, k.lm, k.d1, k.d2, k.d3, k.d4⟩
theorem LI.chg {K : PySem.W.Frag} {C : Addr} {A : List Addr} {H Hc Hd : Hp} {b w f o wo fo : Addr} {m : Str → List Str} {fl : Str → Bool} (k : LI K C H Hc b w f o wo fo m fl) (c : Chg A Hc Hd) (nt : ∀ a ∈ A, NoTup Hc a) (h : ∀ a ∈ A, b ≠ a ∧ w ≠ a ∧ f ≠ a ∧ o ≠ a ∧ wo ≠ a ∧ fo ≠ a) : LI K C H Hd b w f o wo fo m fl :=
  ⟨k.nw, k.nf, k.nwo, k.nfo, let ⟨g, z⟩ := k.bk; ⟨g, z.chg c nt (fun m => (h _ m).1 rfl) (fun m => (h _ m).2.1 rfl) (fun m => (h _ m).2.2.1 rfl)⟩,
    let ⟨g, z⟩ := k.ow; ⟨g, z.chg c nt (fun m => (h _ m).2.2.2.1 rfl) (fun m => (h _ m).2.2.2.2.1 rfl) (fun m => (h _ m).2.2.2.2.2 rfl)⟩, k.om, k.lm, k.d1, k.d2, k.d3, k.d4⟩
theorem same_chg {A : List Addr} {H Hc Hd : Hp} (s : Same H Hc) (c : Chg A Hc Hd) (h : ∀ a ∈ A, H a = none) : Same H Hd := fun b u e => c b u (s b u e) fun m => by rw [h b m] at e; cases e
/-- the types that == meets last -/
def oddT : List String := ["NoneType", "int", "dict", "list", "str"]
section
variable {P : Program} {w : World} {K : PySem.W.Frag} {mg : Str → Option Value} {base : Heap}
/-- a deed at one pair, the other one stays -/
theorem LI.parts {C : Addr} {H Hc : Hp} {b w f o wo fo : Addr} {m : Str → List Str} {fl : Str → Bool} (k : LI K C H Hc b w f o wo fo m fl) : Hc b ≠ none ∧ Hc w ≠ none ∧ Hc f ≠ none ∧ Hc o ≠ none ∧ Hc wo ≠ none ∧ Hc fo ≠ none ∧ NoTup Hc w ∧ NoTup Hc f ∧ NoTup Hc wo ∧ NoTup Hc fo := by
  obtain ⟨g, bk⟩ := k.bk
  obtain ⟨g', ow⟩ := k.ow
  obtain ⟨dx, hb⟩ := bk.ins
  exact ⟨by rw [hb]; simp, by rw [bk.wd]; simp, by rw [bk.fd]; simp, by rw [ow.od]; simp, by rw [ow.wd]; simp, by rw [ow.fd]; simp, nt_dK bk.wd, nt_dK bk.fd, nt_dK ow.wd, nt_lst ow.fd⟩
/-- what the deed asks, and what it leaves -/
theorem deedR {C p b w f o wo fo : Addr} {H Hc : Hp} {m : Str → List Str} {fl : Str → Bool} {x y : Int} {Q : VK} {E : XK} (k : LI K C H Hc b w f o wo fo m fl) (hp : Hc p = some (.lst [.int x, .int y])) (ok : PoolOk x y) (pf : p ≠ fo)
    (q : ∀ (H' : Hp) (m' : Str → List Str) (fl' : Str → Bool) (x' y' : Int), Chg [p, w, f, wo, fo] Hc H' → H' p = some (.lst [.int x', .int y']) → PoolOk x' y' → LI K C H H' b w f o wo fo m' fl' → Q .non H') : spDeed K C [.ref p, .ref b, .ref o] Hc Q E := by
  obtain ⟨g, bk⟩ := k.bk
  obtain ⟨go, ow⟩ := k.ow
  exact ⟨p, b, w, f, o, wo, fo, g, go, m, fl, x, y, rfl, hp, ok, bk, ow, k.om, k.lm, pf, k.d1, k.d2, k.d3, k.d4, fun H' g' go' m' fl' x' y' c hp' ok' bk' ow' om' lm' => q H' m' fl' x' y' c hp' ok' ⟨k.nw, k.nf, k.nwo, k.nfo, ⟨g', bk'⟩, ⟨go', ow'⟩, om', lm', k.d1, k.d2, k.d3, k.d4⟩⟩
theorem toldR {C b w f o wo fo : Addr} {H Hc : Hp} {m : Str → List Str} {fl : Str → Bool} {Q : VK} {E : XK} (k : LI K C H Hc b w f o wo fo m fl) (q : ∀ H', Same Hc H' → Q (.str (toldS m fl)) H') : spTold K C [.ref b] Hc Q E := by
  obtain ⟨g, bk⟩ := k.bk
  exact ⟨b, w, f, g, m, fl, rfl, bk, k.om, k.lm, q⟩
theorem dueR {C b w f o wo fo : Addr} {H Hc : Hp} {m : Str → List Str} {fl : Str → Bool} {Q : VK} {E : XK} (k : LI K C H Hc b w f o wo fo m fl) (q : ∀ H', Same Hc H' → Q (.str (toldS m fl)) H') : spDue K [.ref o] Hc Q E := by
  obtain ⟨g, ow⟩ := k.ow
  exact ⟨o, wo, fo, g, m, fl, rfl, ow, k.om, k.lm, q⟩
theorem LI.eq {C b w f o wo fo b' w' f' o' wo' fo' : Addr} {H H0 Hc : Hp} {m m' : Str → List Str} {fl fl' : Str → Bool} {Q : VK} {neg : Bool} (B : BF K mg C) (ic : IC K C) (k : LI K C H Hc b w f o wo fo m fl) (k' : LI K C H0 Hc b' w' f' o' wo' fo' m' fl')
    (q : Q (.bl (if neg = true then !bookEq m m' fl fl' else bookEq m m' fl fl')) Hc) : Ob.rEqO K C (spBEq K C) neg (.ref b) (.ref b') Hc Q := by
  obtain ⟨g, bk⟩ := k.bk
  obtain ⟨g', bk'⟩ := k'.bk
  exact eqO B ic bk k.om bk' k'.om q
theorem LI.eqOwn {C b w f o wo fo b' w' f' o' wo' fo' : Addr} {H H0 Hc : Hp} {m m' : Str → List Str} {fl fl' : Str → Bool} {Q : VK} {neg : Bool} (k : LI K C H Hc b w f o wo fo m fl) (k' : LI K C H0 Hc b' w' f' o' wo' fo' m' fl') (ne : wo ≠ wo')
    (q : Q (.bl (if neg = true then !bookEq m m' fl fl' else bookEq m m' fl fl')) Hc) : Ob.rEqX K neg (.ref o) (.ref o') Hc Q := by
  obtain ⟨g, ow⟩ := k.ow
  obtain ⟨g', ow'⟩ := k'.ow
  exact ownEq ow k.om ow' k'.om ne q
theorem okM_menu : OkM menu := menu_in
theorem lenM_menu : LenM menu := fun o ho => (mem_menu_len o ho).2
theorem okM_bare : OkM bareM := fun o ho x hx => menu_in o ho x (List.mem_of_mem_take hx)
theorem lenM_bare : LenM bareM := fun o ho => Nat.le_trans (List.length_take_le 1 _) (by decide)
end
end Ab
namespace Ab
open PySem.Spec PyProof.Rows
local macro_rules | `(tactic| walk_at "rd") => `(tactic| (with_reducible first | refine Rd.sfld ?_ | refine Rd.dget ?_ | refine Rd.methR ?_ | refine Rd.propR ?_ | refine Rd.statR ?_ | refine Rd.getR ?_))
theorem lcD {K : PySem.W.Frag} {tl te : TE} {tt : TT} {g : TG} {vs : List Nat} {σ : L2.St} {H : Hp} {Q : VK} (k : tl σ H fun x H1 => tLc (iList K (tC x)) g tt te vs σ H1 Q) : tLc (iList K tl) g tt te vs σ H Q := k
theorem newK {σ : L2.St} {H : Hp} {Q : VK} (k : ∀ d, H d = none → Q (.ref d) (upd H d (.dK []))) : tDNewK σ H Q := k
def SL (a b o : Addr) (σ : L2.St) : Prop := ∃ z1 z2 z3 z6 z7 z8 z9 z10 : Option V, σ = [some (.ref a), z1, z2, z3, some (.ref b), some (.ref o), z6, z7, z8, z9, z10]
def MidL (K : PySem.W.Frag) (C : Addr) (H : Hp) (a : Addr) (σ : L2.St) (H' : Hp) : Prop := ∃ b w f o wo fo m fl, SL a b o σ ∧ Same H H' ∧ LI K C H H' b w f o wo fo m fl
section
variable {P : Program} {w : World} {K : PySem.W.Frag} {mg : Str → Option Value} {base : Heap}
def spLaw (K : PySem.W.Frag) : Sp := fun vs H Q _ => ∃ (a : Addr) (ns : List Int), vs = [.ref a] ∧ SqL K H a (ns.map V.int) ∧ ns.length ≤ 63 ∧ ∀ H', Q (.bl true) H'
abbrev sLaw : Stmt := top 27
abbrev nLaw : List Str := ["_law_script", "_law_full", "_law_first", "_law_is_full", "_law_book", "_law_own", "_law_k", "_law_pool_here", "_law_twin", "_law_kept", "_law_thing"]
theorem scLaw : FnScope nLaw ["_law_script"] (defScope sLaw) := ⟨rfl, rfl, rfl, by decide +kernel, rfl, by decide +kernel, by decide +kernel⟩
set_option pp.maxSteps 200 in
theorem ok_law (T : Txt K mg) {C_Book : Addr} {gM : Str → Addr} (K_Book : BF K mg C_Book) (ic : IC K C_Book) (tm : ∀ o ∈ ops, ∀ H, SqT K H (gM o) ((menu o).map V.str)) (odd : ∀ tn ∈ oddT, PySem.W.kitOne K (.type tn) (.ref C_Book) = some false ∧ PySem.W.notFirst K C_Book (.type tn) = true)
    (I_Book : Ob.MkCal P w K mg base CX0 C_Book 1 "Book" (spInit C_Book gM)) (S_Book_full : Ob.SCal P w K mg base CX0 C_Book 3 "full" (spFull K C_Book gM)) (S_Book_bare : Ob.SCal P w K mg base CX0 C_Book 5 "bare" (spBare K C_Book)) (M_Book_twin : Ob.MCal P w K mg base CX0 C_Book 3 "twin" (spTwin K C_Book))
    (M_Book_listed : Ob.MCal P w K mg base CX0 C_Book 1 "listed" (spListed K C_Book)) (Q_Book : Ob.EqCal P w K mg base CX0 C_Book 1 (spBEq K C_Book))
    (CL_pool : CalG P w K mg base 1 "_law_pool" (spPool K)) (CL_take : CalG P w K mg base 1 "_law_take" spTake) (CL_menus : CalG P w K mg base 1 "_law_menus" (spMenus K)) (CL_bare : CalG P w K mg base 2 "_law_bare" (spLBare K)) (CL_told : CalG P w K mg base 6 "_law_told" (spTold K C_Book)) (CL_due : CalG P w K mg base 1 "_law_due" (spDue K))
    (CL_copy : CalG P w K mg base 1 "_law_copy" (spCopy K)) (CL_deed : CalG P w K mg base 6 "_law_deed" (spDeed K C_Book)) {f : Addr} {fd : FuncData} (F : Fun K "law" "law" sLaw f fd) : FnG P w K mg base CX0 7 f fd ["_law_script"] (spLaw K) := by
  refine defG0 F scLaw (fun vs H Q E h => ?_) (fun cd A hg outer s H vs Q E hr h => ?_)
  · obtain ⟨_, _, rfl, _⟩ := h
    rfl
  · obtain ⟨a, ns, rfl, hS, h63, q⟩ := h
    let Q_sp_Book := spBEq K C_Book
    refine ⟨_, (pss_cons (ps_set (i := 1) scLaw.nd rfl (Or.inl rfl) (pe_disp (pps_cons pe_str (pe_cG0 CL_menus hg hr (by decide)) (pps_cons pe_str (pe_op op_rep (pe_lst (pa_cons pe_bl pa_nil)) pe_int) pps_nil)) (by rfl) (by rfl) (by simp) (by decide)))
  (pss_cons (ps_if (PW.pt (pw_or (pt_cmpR op_ne (pe_cG CL_told hg hr (by decide) (pa_cons (Ob.make0 I_Book hg hr (by decide) pass0) pa_nil)) (pe_cG CL_due hg hr (by decide) (pa_cons (pv 1) pa_nil)) (nomark _)) (pw_or (pt_cmpR op_ne (pe_cG CL_told hg hr (by decide) (pa_cons (Ob.stat0 (pe_glob (v := .ref C_Book) (by rfl) K_Book.g rfl) S_Book_full hg hr (by decide) pass0) pa_nil)) (pe_cG CL_due hg hr (by decide) (pa_cons (pv 1) pa_nil)) (nomark _)) (pw_or1 (pt_cmpR (r := Ob.rEqO K C_Book Q_sp_Book true) (Ob.op_neO Q_Book K_Book.ne K_Book.ob hg hr (by decide) pass0) (Ob.make0 I_Book hg hr (by decide) pass0) (Ob.stat0 (pe_glob (v := .ref C_Book) (by rfl) K_Book.g rfl) S_Book_full hg hr (by decide) pass0) (nomark _))))))
  (pss_one (ps_ret pe_bl))
  pss_nil)
  (pss_cons (ps_if (PW.pt (pw_or (pt_cmpR op_ne (pe_cG CL_told hg hr (by decide) (pa_cons (Ob.stat0 (pe_glob (v := .ref C_Book) (by rfl) K_Book.g rfl) S_Book_bare hg hr (by decide) pass0) pa_nil)) (pe_cG CL_due hg hr (by decide) (pa_cons (pe_cG0 CL_bare hg hr (by decide)) pa_nil)) (nomark _)) (pw_or (pt_cmpR (r := Ob.rEqO K C_Book Q_sp_Book false) (Ob.op_eqO Q_Book hg hr (by decide) pass0) (Ob.stat0 (pe_glob (v := .ref C_Book) (by rfl) K_Book.g rfl) S_Book_bare hg hr (by decide) pass0) (Ob.make0 I_Book hg hr (by decide) pass0) (nomark _)) (pw_or1 (pt_cmpR (r := Ob.rEqO K C_Book Q_sp_Book true) (Ob.op_neO Q_Book K_Book.ne K_Book.ob hg hr (by decide) pass0) (Ob.stat0 (pe_glob (v := .ref C_Book) (by rfl) K_Book.g rfl) S_Book_bare hg hr (by decide) pass0) (Ob.stat0 (pe_glob (v := .ref C_Book) (by rfl) K_Book.g rfl) S_Book_bare hg hr (by decide) pass0) (nomark _))))))
  (pss_one (ps_ret pe_bl))
  pss_nil)
  (pss_cons (ps_set (i := 2) scLaw.nd rfl (Or.inl rfl) (pe_cG CL_pool hg hr (by decide) (pa_cons (pv 0) (pa_cons pe_int pa_nil))))
  (pss_cons (ps_set (i := 3) scLaw.nd rfl (Or.inl rfl) (pe_cmpR op_eq (pe_cG CL_take hg hr (by decide) (pa_cons (pv 2) (pa_cons pe_int pa_nil))) pe_int (nomark _)))
  (C8.pss_cut (ps_set (i := 4) scLaw.nd rfl (Or.inr rfl) (pe_ifExp (pt_val (pv 3)) (Ob.stat0 (pe_glob (v := .ref C_Book) (by rfl) K_Book.g rfl) S_Book_full hg hr (by decide) pass0) (Ob.stat0 (pe_glob (v := .ref C_Book) (by rfl) K_Book.g rfl) S_Book_bare hg hr (by decide) pass0)))
  (C8.pss_cut (ps_set (i := 5) scLaw.nd rfl (Or.inl rfl) (pe_ifExp (pt_val (pv 3)) (pv 1) (pe_cG0 CL_bare hg hr (by decide))))
  (pss_cons (ps_for PassesOwn.never rfl (pi_range1 (by rfl) T.range (pa_cons (pe_callB (call_max2 rfl) (by rfl) T.max (by decide +kernel) (pa_cons pe_int (pa_cons (pe_callB (call_min2 rfl) (by rfl) T.min (by decide +kernel) (pa_cons pe_int (pa_cons (pe_callB (r := Rd.rLenK K) Rd.callLen (by rfl) T.len PySem.boot_len (pa_cons (pv 0) pa_nil)) pa_nil))) pa_nil))) pa_nil)) (pg_name (i := 6) scLaw.nd rfl (Or.inl rfl))
  (pss_cons (ps_set (i := 7) scLaw.nd rfl (Or.inl rfl) (pe_cG CL_pool hg hr (by decide) (pa_cons (pv 0) (pa_cons (pv 6) pa_nil))))
  (pss_cons (ps_par (i := 8) (j := 9) (by rfl) scLaw.nd rfl rfl (by decide) rfl rfl (pa_cons (Ob.meth0 (pv 4) K_Book.cl M_Book_twin hg hr (by decide) pass0) (pa_cons (pe_cG CL_copy hg hr (by decide) (pa_cons (pv 5) pa_nil)) pa_nil)) (by rfl))
  (pss_cons (ps_if (PW.pt (pw_or (pt_cmpR (r := Ob.rEqO K C_Book Q_sp_Book true) (Ob.op_neO Q_Book K_Book.ne K_Book.ob hg hr (by decide) pass0) (pv 8) (pv 4) (nomark _)) (pw_or1 (pt_not (pt_cmpR (r := Ob.rEqO K C_Book Q_sp_Book false) (Ob.op_eqO Q_Book hg hr (by decide) pass0) (pv 8) (pv 4) (nomark _))))))
  (pss_one (ps_ret pe_bl))
  pss_nil)
  (pss_cons (ps_expr (pe_cG CL_deed hg hr (by decide) (pa_cons (pv 7) (pa_cons (pv 4) (pa_cons (pv 5) pa_nil)))))
  (pss_cons (ps_if (PW.pt (pw_or (pt_cmpR op_ne (pe_cG CL_told hg hr (by decide) (pa_cons (pv 4) pa_nil)) (pe_cG CL_due hg hr (by decide) (pa_cons (pv 5) pa_nil)) (nomark _)) (pw_or1 (pt_cmpR op_ne (pe_cG CL_told hg hr (by decide) (pa_cons (pv 8) pa_nil)) (pe_cG CL_due hg hr (by decide) (pa_cons (pv 9) pa_nil)) (nomark _)))))
  (pss_one (ps_ret pe_bl))
  pss_nil)
  (pss_cons (ps_if (PW.pt (pw_or (pt_cmpR op_ne (pe_cmpR (r := Ob.rEqO K C_Book Q_sp_Book false) (Ob.op_eqO Q_Book hg hr (by decide) pass0) (pv 8) (pv 4) (nomark _)) (pe_cmpR (r := Ob.rEqX K false) (Ob.op_eqX (un80 hr)) (pv 9) (pv 5) (nomark _)) (nomark _)) (pw_or1 (pt_cmpR op_ne (pe_cmpR (r := Ob.rEqO K C_Book Q_sp_Book true) (Ob.op_neO Q_Book K_Book.ne K_Book.ob hg hr (by decide) pass0) (pv 4) (pv 8) (nomark _)) (pe_cmpR (r := Ob.rEqX K true) (Ob.op_neX (un80 hr)) (pv 9) (pv 5) (nomark _)) (nomark _)))))
  (pss_one (ps_ret pe_bl))
  pss_nil)
  (C8.pss_cut (ps_if (pt_cmpR op_eq (pe_cG CL_take hg hr (by decide) (pa_cons (pv 7) (pa_cons pe_int pa_nil))) pe_int (nomark _))
  (pss_cons (ps_expr (pe_cG CL_deed hg hr (by decide) (pa_cons (pv 7) (pa_cons (pv 8) (pa_cons (pv 9) pa_nil)))))
  (pss_one (ps_if (PW.pt (pw_or (pt_cmpR op_ne (pe_cG CL_told hg hr (by decide) (pa_cons (pv 4) pa_nil)) (pe_cG CL_due hg hr (by decide) (pa_cons (pv 5) pa_nil)) (nomark _)) (pw_or1 (pt_cmpR op_ne (pe_cG CL_told hg hr (by decide) (pa_cons (pv 8) pa_nil)) (pe_cG CL_due hg hr (by decide) (pa_cons (pv 9) pa_nil)) (nomark _)))))
  (pss_one (ps_ret pe_bl))
  pss_nil)))
  pss_nil)
  (pss_one (ps_expr (pe_bm PySem.F.plainAttrs_list PySem.F.slot_list_append PySem.F.type_list_append mt_append (Ob.meth0 (pv 4) K_Book.cl M_Book_listed hg hr (by decide) pass0) (pa_cons pe_str pa_nil))))))))))))
  (pss_one (ps_ret (pe_cmpR (r := rEqD K) (op_eqD hr.units) (pe_lc (wi := iList K _) (own := [("_law_thing", 10)]) (g := gName 10) (by rfl) scLaw.nd (pi_list (pe_lst (pa_cons pe_non (pa_cons pe_int (pa_cons pe_dnewK (pa_cons (Ob.meth0 (pv 4) K_Book.cl M_Book_listed hg hr (by decide) pass0) (pa_cons pe_str pa_nil))))))) (blkOk_by (N := nLaw) (sc := defScope sLaw) (by decide +kernel)) (fun _ _ _ _ _ => pg_name (i := 10) scLaw.nd rfl (Or.inl rfl)) (fun _ _ _ _ _ => (pts_one (pt_cmpR op_notBl (pe_cmpR (r := Ob.rEqO K C_Book Q_sp_Book false) (Ob.op_eqO Q_Book hg hr (by decide) pass0) (pv 4) (pv 10) (nomark _)) pe_bl (nomark _)))) (fun _ _ _ _ _ => (pv 10))) (pe_lst pa_nil) (nomark _)))))))))))), ?_⟩
    repeat walk_at "rd"
    -- the full ways and flags
    refine disp fun oF hoF => pcons ?_
    have s1 := Rd.sNew (o := .dK []) hoF
    repeat walk_at "rd"
    refine ⟨rfl, fun wF gF H1 mF => pcons ?_⟩
    have s2 := mF.s
    repeat walk_at "rd"
    refine ⟨Rd.sz (by simp), fun l0 hl0 => ?_⟩
    have s3 := Rd.sNew (o := .lst [.bl true]) hl0
    refine ⟨l0, 3, [.bl true], rfl, rfl, upd_same, by decide, by decide, by decide, fun fF hfF => pnil ⟨?_, [(.inr "ways", .ref wF), (.inr "flags", .ref fF)], rfl, by simp, ?_⟩⟩
    · exact Rd.sNew hfF _ _ (s3 _ _ (s2 _ _ upd_same))
    have s4 := Rd.sNew (o := .lst (List.replicate (3 : Int).toNat [V.bl true]).flatten) hfF
    have noF : wF ≠ oF := fun e => by have := mF.f; rw [e, upd_same] at this; cases this
    have nfF : fF ≠ oF := fun e => by have z := s3 _ _ (s2 _ _ (show upd H oF (.dK []) oF = _ from upd_same)); rw [e] at hfF; rw [hfF] at z; cases z
    have sF := Rd.sMut (o := .dK (mergeK [] [(.inr "ways", .ref wF), (.inr "flags", .ref fF)])) (s1.trans (s2.trans (s3.trans s4))) hoF
    have owF : Own K (upd (upd (upd H1 l0 (.lst [.bl true])) fF (.lst (List.replicate (3 : Int).toNat [V.bl true]).flatten)) oF (.dK (mergeK [] [(.inr "ways", .ref wF), (.inr "flags", .ref fF)]))) oF wF fF gF menu (fun _ => true) := by
      refine ⟨by rw [upd_same]; rfl, ?_, ?_, fun y hy => ?_, fun e => noF e.symm⟩
      · rw [upd_ne noF]; exact s4 _ _ (s3 _ _ mF.d)
      · rw [upd_ne nfF]; exact upd_same
      · exact sqT_upd (nt_dK (s4 _ _ (s3 _ _ (s2 _ _ (show upd H oF (.dK []) oF = some (.dK []) from upd_same))))) (sqT_same (s3.trans s4) (mF.t y hy))
    have f1 := Same.fr s1 mF.f
    have f2 := Same.fr (s1.trans (s2.trans s3)) hfF
    generalize upd (upd (upd H1 l0 (.lst [.bl true])) fF (.lst (List.replicate (3 : Int).toNat [V.bl true]).flatten)) oF (.dK (mergeK [] [(.inr "ways", .ref wF), (.inr "flags", .ref fF)])) = H2 at sF owF ⊢
    clear s1 s2 s3 s4 hl0 hfF mF nfF
    have due1 : ∀ {H' : Hp} {Q : VK} {E : XK}, Same H2 H' → (∀ H'', Same H' H'' → Q (.str (toldS menu fun _ => true)) H'') → spDue K [.ref oF] H' Q E := fun s k => ⟨oF, wF, fF, gF, menu, fun _ => true, rfl, owF.mono s, okM_menu, lenM_menu, k⟩
    -- a new full book
    repeat walk_at "rd"
    refine mkBk tm fun b1 w1 f1' H3 s3 _ _ _ bk1 => ?_
    repeat walk_at "rd"
    refine ⟨b1, w1, f1', gM, menu, fun _ => true, rfl, bk1, okM_menu, lenM_menu, fun H4 s4 => ?_⟩
    repeat walk_at "rd"
    refine due1 (s3.trans s4) fun H5 s5 => ?_
    repeat walk_at "rd"
    refine Rd.ndec (fun c => absurd rfl c) (fun _ => ?_)
    repeat walk_at "rd"
    refine ⟨rfl, fun b2 w2 f2' H6 s6 _ _ _ bk2 => ?_⟩
    repeat walk_at "rd"
    refine ⟨b2, w2, f2', gM, menu, fun _ => true, rfl, bk2, okM_menu, lenM_menu, fun H7 s7 => ?_⟩
    repeat walk_at "rd"
    have S7 := ((s3.trans s4).trans (s5.trans s6)).trans s7
    refine due1 S7 fun H8 s8 => ?_
    repeat walk_at "rd"
    refine Rd.ndec (fun c => absurd rfl c) (fun _ => ?_)
    repeat walk_at "rd"
    refine mkBk tm fun b3 w3 f3 H9 s9 _ _ _ bk3 => ?_
    repeat walk_at "rd"
    refine ⟨rfl, fun b4 w4 f4 H10 s10 _ _ _ bk4 => ?_⟩
    refine eqO K_Book ic (bk3.mono s10) okM_menu bk4 okM_menu ?_
    rw [bookEq_self]
    refine ⟨_, rfl, Rd.ff_ ?_⟩
    -- a bare book
    repeat walk_at "rd"
    refine ⟨rfl, fun gb b5 w5 f5 H11 s11 _ _ _ bk5 => ?_⟩
    repeat walk_at "rd"
    refine ⟨b5, w5, f5, gb, bareM, fun _ => false, rfl, bk5, okM_bare, lenM_bare, fun H12 s12 => ?_⟩
    repeat walk_at "rd"
    refine ⟨rfl, fun oB wB fB gB H13 s13 _ _ _ owB => ?_⟩
    repeat walk_at "rd"
    refine ⟨oB, wB, fB, gB, bareM, fun _ => false, rfl, owB, okM_bare, lenM_bare, fun H14 s14 => ?_⟩
    repeat walk_at "rd"
    refine Rd.ndec (fun c => absurd rfl c) (fun _ => ?_)
    repeat walk_at "rd"
    refine ⟨rfl, fun g6 b6 w6 f6 H15 s15 _ _ _ bk6 => ?_⟩
    repeat walk_at "rd"
    refine mkBk tm fun b7 w7 f7 H16 s16 _ _ _ bk7 => ?_
    refine eqO K_Book ic (bk6.mono s16) okM_bare bk7 okM_menu ?_
    rw [show bookEq bareM menu (fun _ => false) (fun _ => true) = false by decide +kernel]
    refine ⟨_, rfl, Rd.ff_ ?_⟩
    repeat walk_at "rd"
    refine ⟨rfl, fun g8 b8 w8 f8 H17 s17 _ _ _ bk8 => ?_⟩
    repeat walk_at "rd"
    refine ⟨rfl, fun g9 b9 w9 f9 H18 s18 _ _ _ bk9 => ?_⟩
    refine eqO K_Book ic (bk8.mono s18) okM_bare bk9 okM_bare ?_
    rw [bookEq_self]
    refine ⟨_, rfl, Rd.ff_ ?_⟩
    have S18 : Same H2 H18 := ((S7.trans s8).trans (s9.trans s10)).trans (((s11.trans s12).trans (s13.trans s14)).trans ((s15.trans s16).trans (s17.trans s18)))
    have SH : Same H H18 := sF.trans S18
    have owF' := owF.mono S18
    clear s3 s4 s5 s6 s7 s8 s9 s10 s11 s12 s13 s14 s15 s16 s17 s18 bk1 bk2 bk3 bk4 bk5 bk6 bk7 bk8 bk9 owB due1 S7
    -- the books at the start
    repeat walk_at "rd"
    refine ⟨a, ns, 0, rfl, SH.seq hS, by decide, by decide, fun p x y hp ok => ?_⟩
    have s1 := Rd.sNew (o := .lst [.int x, .int y]) hp
    repeat walk_at "rd"
    refine ⟨p, x, y, 2, rfl, upd_same, ok, by decide, by decide, fun r x1 y1 ok1 r0 r1 => ?_⟩
    have Sp : Same H18 (upd (upd H18 p (.lst [.int x, .int y])) p (.lst [.int x1, .int y1])) := Rd.sMut s1 hp
    have hp1 : upd (upd H18 p (.lst [.int x, .int y])) p (.lst [.int x1, .int y1]) p = some (.lst [.int x1, .int y1]) := upd_same
    generalize upd (upd H18 p (.lst [.int x, .int y])) p (.lst [.int x1, .int y1]) = H19 at Sp hp1 ⊢
    clear s1
    repeat walk_at "rd"
    generalize decide (V.int r = V.int 0) = isF
    have S19 := SH.trans Sp
    have oF0 : H19 oF ≠ none := by rw [Sp _ _ owF'.od]; simp
    have wF0 : H19 wF ≠ none := by rw [Sp _ _ owF'.wd]; simp
    have ow19 := owF'.mono Sp
    have nn : ∀ {H' : Hp} {u v : Addr}, H' u = none → H' v ≠ none → u ≠ v := fun h1 h2 e => h2 (by rw [← e]; exact h1)
    refine Rd.cut (fun σ' H' => ∃ (isF : Bool) (b w f : Addr) (g : Str → Addr), (∃ z2 z5 z6 z7 z8 z9 z10, σ' = [some (.ref a), some (.ref oF), z2, some (.bl isF), some (.ref b), z5, z6, z7, z8, z9, z10]) ∧ Same H19 H' ∧ H19 w = none ∧ H19 f = none ∧ Bk K C_Book H' b w f g (if isF = true then menu else bareM) (fun _ => isF)) ?_ (fun σ' H20 h => ?_)
    · repeat walk_at "rd"
      cases isF with
      | true =>
        refine Rd.tt_ ?_
        repeat walk_at "rd"
        refine ⟨rfl, fun b w0 f0 H20 s20 nb nw nf bk => ?_⟩
        exact ⟨true, b, w0, f0, _, ⟨_, _, _, _, _, _, _, rfl⟩, s20, nw, nf, bk⟩
      | false =>
        refine Rd.ff_ ?_
        repeat walk_at "rd"
        refine ⟨rfl, fun g20 b w0 f0 H20 s20 nb nw nf bk => ?_⟩
        exact ⟨false, b, w0, f0, _, ⟨_, _, _, _, _, _, _, rfl⟩, s20, nw, nf, bk⟩
    obtain ⟨isF, b, w0, f0, g0, ⟨z2, z5, z6, z7, z8, z9, z10, rfl⟩, s20, nw, nf, bk⟩ := h
    refine Rd.cut (MidL K C_Book H a) ?_ (fun σ' H' h => ?_)
    · repeat walk_at "rd"
      cases isF with
      | true =>
        refine Rd.tt_ ?_
        repeat walk_at "rd"
        exact ⟨b, w0, f0, oF, wF, fF, menu, _, ⟨_, _, _, _, _, _, _, _, rfl⟩, S19.trans s20, Same.fr S19 nw, Same.fr S19 nf, f1, f2, ⟨_, bk⟩, ⟨_, ow19.mono s20⟩, okM_menu, lenM_menu, nn nw wF0, nn nf wF0, (nn nw oF0).symm, (nn nf oF0).symm⟩
      | false =>
        refine Rd.ff_ ?_
        repeat walk_at "rd"
        refine ⟨rfl, fun o wo fo g21 H21 s21 no nwo nfo ow => ?_⟩
        repeat walk_at "rd"
        have w0' : H20 w0 ≠ none := by rw [bk.wd]; simp
        have f0' : H20 f0 ≠ none := by rw [bk.fd]; simp
        exact ⟨b, w0, f0, o, wo, fo, bareM, _, ⟨_, _, _, _, _, _, _, _, rfl⟩, (S19.trans s20).trans s21, Same.fr S19 nw, Same.fr S19 nf, Same.fr (S19.trans s20) nwo, Same.fr (S19.trans s20) nfo, ⟨_, bk.mono s21⟩, ⟨_, ow⟩, okM_bare, lenM_bare, (nn nwo w0').symm, (nn nwo f0').symm, nn no w0', nn no f0'⟩
    · clear S18 owF' Sp hp1 S19 s20 bk nw nf ow19 oF0 wF0 nn
      obtain ⟨b, w0, f0, o, wo, fo, m, fl, ⟨z1, z2, z3, z6, z7, z8, z9, z10, rfl⟩, sH, li⟩ := h
      have hS1 := sH.seq hS
      repeat walk_at "rd"
      (try refine Rd.forR ?_)
      repeat walk_at "rd"
      refine Rd.rng (by (repeat' split) <;> omega) (by (repeat' split) <;> omega) ?_
      refine Rd.forGo (fun i σ H1 => ∃ m fl, SL a b o σ ∧ Same H H1 ∧ LI K C_Book H H1 b w0 f0 o wo fo m fl) ⟨m, fl, ⟨_, _, _, _, _, _, _, _, rfl⟩, sH, li⟩ ?_ ?_
      · rintro i σ H1 hi ⟨m, fl, ⟨z1, z2, z3, z6, z7, z8, z9, z10, rfl⟩, s1, li⟩
        have i9 : i < 100 := by
          rw [List.length_map] at hi
          revert hi
          (repeat' split) <;> intro hi <;> omega
        repeat walk_at "rd"
        refine ⟨a, ns, i, rfl, s1.seq hS, by omega, by omega, fun p x y hp ok => ?_⟩
        have hp2 : upd H1 p (.lst [.int x, .int y]) p = some (.lst [.int x, .int y]) := upd_same
        have s2 := Rd.sNew (o := .lst [.int x, .int y]) hp
        have li2 := li.mono s2
        have sH2 := s1.trans s2
        have np := Same.fr s1 hp
        obtain ⟨e1, e2, e3, e4, e5, e6, _⟩ := li.parts
        generalize upd H1 p (.lst [.int x, .int y]) = H2 at hp2 s2 li2 sH2 ⊢
        obtain ⟨g2, bk2⟩ := li2.bk
        obtain ⟨go2, ow2⟩ := li2.ow
        obtain ⟨dx2, hb2⟩ := bk2.ins
        repeat walk_at "rd"
        refine ⟨b, dx2, _, rfl, hb2, rfl, ?_⟩
        repeat walk_at "rd"
        refine ⟨b, w0, f0, g2, m, fl, rfl, bk2, fun b' w' f' H3 s3 nb nw nf tw => ?_⟩
        repeat walk_at "rd"
        refine ⟨o, wo, fo, go2, m, fl, rfl, ow2.mono s3, fun o' wo' fo' g' H4 s4 no nwo nfo kp => ?_⟩
        repeat walk_at "rd"
        refine ⟨_, _, rfl, ?_⟩
        have li4 := (li2.mono s3).mono s4
        have nn : ∀ {H' : Hp} {u v : Addr}, H' u = none → H' v ≠ none → u ≠ v := fun h1 h2 e => h2 (by rw [← e]; exact h1)
        have w3 : H3 w' ≠ none := by rw [tw.wd]; simp
        have f3 : H3 f' ≠ none := by rw [tw.fd]; simp
        have tw4 : LI K C_Book H H4 b' w' f' o' wo' fo' m fl := ⟨Same.fr sH2 nw, Same.fr sH2 nf, Same.fr (sH2.trans s3) nwo, Same.fr (sH2.trans s3) nfo, ⟨_, tw.mono s4⟩, ⟨_, kp⟩, li.om, li.lm, (nn nwo w3).symm, (nn nwo f3).symm, nn no w3, nn no f3⟩
        have hp4 := s4 _ _ (s3 _ _ hp2)
        have p2 : H2 p ≠ none := by rw [hp2]; simp
        have up : ∀ {u : Addr}, H1 u ≠ none → H2 u ≠ none := fun h z => h (Same.fr s2 z)
        have frA : ∀ u ∈ [b', w', f', o', wo', fo'], H2 u = none := by
          intro u hu
          simp only [List.mem_cons, List.not_mem_nil, or_false] at hu
          rcases hu with rfl | rfl | rfl | rfl | rfl | rfl
          · exact nb
          · exact nw
          · exact nf
          · exact Same.fr s3 no
          · exact Same.fr s3 nwo
          · exact Same.fr s3 nfo
        have thA : ∀ u ∈ [p, w0, f0, wo, fo], H2 u ≠ none := by
          intro u hu
          simp only [List.mem_cons, List.not_mem_nil, or_false] at hu
          rcases hu with rfl | rfl | rfl | rfl | rfl
          · exact p2
          · exact up e2
          · exact up e3
          · exact up e5
          · exact up e6
        have pf' : p ≠ fo' := (nn (frA fo' (by simp)) p2).symm
        have pf0 : p ≠ fo := nn hp e6
        have apA : ∀ z ∈ [p, w0, f0, wo, fo], b' ≠ z ∧ w' ≠ z ∧ f' ≠ z ∧ o' ≠ z ∧ wo' ≠ z ∧ fo' ≠ z := fun z hz => ⟨nn (frA _ (by simp)) (thA z hz), nn (frA _ (by simp)) (thA z hz), nn (frA _ (by simp)) (thA z hz), nn (frA _ (by simp)) (thA z hz), nn (frA _ (by simp)) (thA z hz), nn (frA _ (by simp)) (thA z hz)⟩
        have apB : ∀ z ∈ [p, w', f', wo', fo'], b ≠ z ∧ w0 ≠ z ∧ f0 ≠ z ∧ o ≠ z ∧ wo ≠ z ∧ fo ≠ z := by
          intro z hz
          rcases List.mem_cons.mp hz with rfl | hz
          · exact ⟨(nn hp e1).symm, (nn hp e2).symm, (nn hp e3).symm, (nn hp e4).symm, (nn hp e5).symm, (nn hp e6).symm⟩
          · have hz2 : H2 z = none := by
              simp only [List.mem_cons, List.not_mem_nil, or_false] at hz
              rcases hz with rfl | rfl | rfl | rfl
              · exact nw
              · exact nf
              · exact Same.fr s3 nwo
              · exact Same.fr s3 nfo
            exact ⟨(nn hz2 (up e1)).symm, (nn hz2 (up e2)).symm, (nn hz2 (up e3)).symm, (nn hz2 (up e4)).symm, (nn hz2 (up e5)).symm, (nn hz2 (up e6)).symm⟩
        have newo : wo' ≠ wo := (apA wo (by simp)).2.2.2.2.1
        have nt5 : ∀ {Hx : Hp} {b w f o wo fo : Addr} {m : Str → List Str} {fl : Str → Bool} {x y : Int}, LI K C_Book H Hx b w f o wo fo m fl → Hx p = some (.lst [.int x, .int y]) → ∀ z ∈ [p, w, f, wo, fo], NoTup Hx z := by
          intro Hx b w f o wo fo m fl x y k hpx z hz
          obtain ⟨_, _, _, _, _, _, q1, q2, q3, q4⟩ := k.parts
          simp only [List.mem_cons, List.not_mem_nil, or_false] at hz
          rcases hz with rfl | rfl | rfl | rfl | rfl
          · exact nt_lst hpx
          · exact q1
          · exact q2
          · exact q3
          · exact q4
        have sH4 := (sH2.trans s3).trans s4
        clear kp tw s4 s3 s2 bk2 ow2 hb2 li2 hp2
        repeat walk_at "rd"
        refine tw4.eq K_Book ic li4 ?_
        rw [bookEq_self]
        refine ⟨_, rfl, Rd.ff_ ?_⟩
        repeat walk_at "rd"
        refine tw4.eq K_Book ic li4 ?_
        rw [bookEq_self]
        refine ⟨_, rfl, Rd.ff_ ?_⟩
        repeat walk_at "rd"
        refine deedR li4 hp4 ok pf0 fun H5 m5 fl5 x5 y5 c5 hp5 ok5 li5 => ?_
        have tw5 := tw4.chg c5 (nt5 li4 hp4) apA
        have sH5 := same_chg sH4 c5 (by
          intro z hz
          simp only [List.mem_cons, List.not_mem_nil, or_false] at hz
          rcases hz with rfl | rfl | rfl | rfl | rfl
          · exact np
          · exact li.nw
          · exact li.nf
          · exact li.nwo
          · exact li.nfo)
        clear tw4 li4 c5 hp4 sH4
        repeat walk_at "rd"
        refine toldR li5 fun H6 s6 => ?_
        repeat walk_at "rd"
        refine dueR (li5.mono s6) fun H7 s7 => ?_
        repeat walk_at "rd"
        refine Rd.ndec (fun c => absurd rfl c) (fun _ => ?_)
        repeat walk_at "rd"
        refine toldR (tw5.mono (s6.trans s7)) fun H8 s8 => ?_
        repeat walk_at "rd"
        refine dueR (tw5.mono ((s6.trans s7).trans s8)) fun H9 s9 => ?_
        repeat walk_at "rd"
        refine Rd.ndec (fun c => absurd rfl c) (fun _ => ?_)
        have S9 := (s6.trans s7).trans (s8.trans s9)
        have li9 := li5.mono S9
        have tw9 := tw5.mono S9
        have hp9 := S9 _ _ hp5
        have sH9 := sH5.trans S9
        repeat walk_at "rd"
        refine tw9.eq K_Book ic li9 ?_
        rw [if_neg Bool.false_ne_true]
        repeat walk_at "rd"
        refine tw9.eqOwn li9 newo ?_
        rw [if_neg Bool.false_ne_true]
        repeat walk_at "rd"
        refine Rd.ndec (fun c => absurd rfl c) (fun _ => ?_)
        repeat walk_at "rd"
        refine li9.eq K_Book ic tw9 ?_
        rw [if_pos rfl, bookEq_comm]
        repeat walk_at "rd"
        refine tw9.eqOwn li9 newo ?_
        rw [if_pos rfl]
        repeat walk_at "rd"
        refine Rd.ndec (fun c => absurd rfl c) (fun _ => ?_)
        repeat walk_at "rd"
        refine Rd.cut (fun σ' H' => ∃ m fl, SL a b o σ' ∧ Same H H' ∧ LI K C_Book H H' b w0 f0 o wo fo m fl) ?_ (fun σ' H' h => ?_)
        · repeat walk_at "rd"
          refine ⟨p, x5, y5, 3, rfl, hp9, ok5, by decide, by decide, fun r x6 y6 ok6 r0 r1 => ?_⟩
          have nt1 : ∀ z ∈ [p], NoTup H9 z := fun z hz => by rw [List.mem_singleton.mp hz]; exact nt_lst hp9
          have li10 := li9.chg (chg1 (o := .lst [.int x6, .int y6])) nt1 (fun z hz => apB z (by rw [List.mem_singleton.mp hz]; simp))
          have tw10 := tw9.chg (chg1 (o := .lst [.int x6, .int y6])) nt1 (fun z hz => apA z (by rw [List.mem_singleton.mp hz]; simp))
          have hp10 : upd H9 p (.lst [.int x6, .int y6]) p = some (.lst [.int x6, .int y6]) := upd_same
          have sH10 := Rd.sMut (o := .lst [.int x6, .int y6]) sH9 np
          generalize upd H9 p (.lst [.int x6, .int y6]) = H10 at li10 tw10 hp10 sH10 ⊢
          repeat walk_at "rd"
          refine Rd.dec (fun c => ?_) (fun c => ?_)
          · repeat walk_at "rd"
            refine deedR tw10 hp10 ok6 pf' fun H11 m11 fl11 x11 y11 c11 hp11 ok11 tw11 => ?_
            have li11 := li10.chg c11 (nt5 tw10 hp10) apB
            have sH11 := same_chg sH10 c11 (by
              intro z hz
              simp only [List.mem_cons, List.not_mem_nil, or_false] at hz
              rcases hz with rfl | rfl | rfl | rfl | rfl
              · exact np
              · exact tw10.nw
              · exact tw10.nf
              · exact tw10.nwo
              · exact tw10.nfo)
            repeat walk_at "rd"
            refine toldR li11 fun H12 s12 => ?_
            repeat walk_at "rd"
            refine dueR (li11.mono s12) fun H13 s13 => ?_
            repeat walk_at "rd"
            refine Rd.ndec (fun c => absurd rfl c) (fun _ => ?_)
            repeat walk_at "rd"
            refine toldR (tw11.mono (s12.trans s13)) fun H14 s14 => ?_
            repeat walk_at "rd"
            refine dueR (tw11.mono ((s12.trans s13).trans s14)) fun H15 s15 => ?_
            repeat walk_at "rd"
            refine Rd.ndec (fun c => absurd rfl c) (fun _ => ?_)
            repeat walk_at "rd"
            have S15 := (s12.trans s13).trans (s14.trans s15)
            exact ⟨m5, fl5, ⟨_, _, _, _, _, _, _, _, rfl⟩, sH11.trans S15, li11.mono S15⟩
          · repeat walk_at "rd"
            exact ⟨m5, fl5, ⟨_, _, _, _, _, _, _, _, rfl⟩, sH10, li10⟩
        · obtain ⟨m, fl, ⟨z1, z2, z3, z6, z7, z8, z9, z10, rfl⟩, sH', li'⟩ := h
          obtain ⟨g', bk'⟩ := li'.bk
          obtain ⟨dx', hb'⟩ := bk'.ins
          repeat walk_at "rd"
          refine ⟨b, dx', _, rfl, hb', rfl, ?_⟩
          repeat walk_at "rd"
          refine ⟨b, w0, f0, g', m, fl, rfl, bk', fun l hl => ?_⟩
          have sl := Rd.sNew (o := .lst (ops.map V.str)) hl
          refine ⟨Rd.ty_list upd_same, ?_⟩
          repeat walk_at "rd"
          refine Rd.app upd_same (by decide) ?_
          repeat walk_at "rd"
          exact ⟨m, fl, ⟨_, _, _, _, _, _, _, _, rfl⟩, Rd.sMut (sH'.trans sl) (Same.fr sH' hl), li'.mono (Rd.sMut sl hl)⟩
      · rintro σ H1 ⟨m, fl, ⟨z1, z2, z3, z6, z7, z8, z9, z10, rfl⟩, s1, li⟩
        obtain ⟨g1, bk⟩ := li.bk
        obtain ⟨dx, hb⟩ := bk.ins
        repeat walk_at "rd"
        refine lcD ?_
        repeat walk_at "rd"
        refine newK fun d hd => ?_
        have s2 := Rd.sNew (o := .dK []) hd
        repeat walk_at "rd"
        refine ⟨b, dx, _, rfl, s2 _ _ hb, rfl, ?_⟩
        repeat walk_at "rd"
        refine ⟨b, w0, f0, g1, m, fl, rfl, bk.mono s2, fun l hl => ?_⟩
        have s3 := Rd.sNew (o := .lst (ops.map V.str)) hl
        repeat walk_at "rd"
        refine ⟨Rd.sz (by simp), fun u hu => ?_⟩
        have s4 := Rd.sNew (o := .lst [.non, .int 12, .ref d, .ref l, .str "book"]) hu
        have S := (s2.trans s3).trans s4
        have hu2 : upd (upd (upd H1 d (.dK [])) l (.lst (ops.map V.str))) u (.lst [.non, .int 12, .ref d, .ref l, .str "book"]) u = some (.lst [.non, .int 12, .ref d, .ref l, .str "book"]) := upd_same
        have hd2 := s4 _ _ (s3 _ _ (show upd H1 d (.dK []) d = some (.dK []) from upd_same))
        have hl2 := s4 _ _ (show upd (upd H1 d (.dK [])) l (.lst (ops.map V.str)) l = some (.lst (ops.map V.str)) from upd_same)
        generalize upd (upd (upd H1 d (.dK [])) l (.lst (ops.map V.str))) u (.lst [.non, .int 12, .ref d, .ref l, .str "book"]) = H2 at S hu2 hd2 hl2 ⊢
        have bk2 := bk.mono S
        refine Rd.lcL (K := K) (a := u) (xs := [.non, .int 12, .ref d, .ref l, .str "book"]) (bs := [.non, .int 12, .ref d, .ref l, .str "book"]) (fun b x H' => x = b ∧ ∃ tn ∈ oddT, TyX K H' x (.type tn)) (fun (_ : V) y _ => True) (fun _ => false) id (fun R k => k) (SqL.of hu2)
          (fun b x Ha Hb s ⟨e, tn, ht, ty⟩ => ⟨e, tn, ht, tyX_mono s ty⟩) (fun _ _ _ _ _ h => h) ?_ (by simp) (fun _ => rfl) ?_ ?_ ?_
        · exact .cons ⟨rfl, "NoneType", by decide, .base .non⟩ (.cons ⟨rfl, "int", by decide, .base (.int 12)⟩ (.cons ⟨rfl, "dict", by decide, .base (.dK hd2)⟩ (.cons ⟨rfl, "list", by decide, .base (.lst hl2)⟩ (.cons ⟨rfl, "str", by decide, .base (.str "book")⟩ .nil))))
        · rintro b0 x0 H3 R _ _ ⟨_, tn, ht, ty⟩ s5 k
          obtain ⟨k1, k2⟩ := odd tn ht
          repeat walk_at "rd"
          refine eqN (bk2.mono s5) li.om ty k1 k2 ?_
          exact ⟨false, false, rfl, rfl, _, rfl, k _ (Same.refl _)⟩
        · intro b0 x0 H3 R _ hf
          cases hf
        · intro D ys H3 hD s5 hd3 pr
          have e : ys = [] := by
            have : ([V.non, .int 12, .ref d, .ref l, .str "book"].filter fun _ => false) = [] := rfl
            rw [this] at pr
            cases pr
            rfl
          subst e
          repeat walk_at "rd"
          refine ⟨Rd.sz (by simp), fun z hz => ?_⟩
          have s6 := Rd.sNew (o := .lst []) hz
          refine Rd.eqD (d := .list []) (e := .list []) (.lst (SqL.of (s6 _ _ hd3)) .nil) (.lst (SqL.of upd_same) .nil) rfl rfl ?_
          exact q _
end
end Ab
namespace Ab
open PySem.Spec PyProof.Rows
abbrev sInit_NoName : Stmt := meth 2 0
theorem scInit_NoName : FnScope ["self", "value"] ["self", "value"] (defScope sInit_NoName) := ⟨rfl, rfl, rfl, by decide +kernel, rfl, by decide +kernel, by decide +kernel⟩
abbrev sInit_NoWays : Stmt := meth 3 0
theorem scInit_NoWays : FnScope ["self", "operation"] ["self", "operation"] (defScope sInit_NoWays) := ⟨rfl, rfl, rfl, by decide +kernel, rfl, by decide +kernel, by decide +kernel⟩
abbrev sInit_NoFlag : Stmt := meth 4 0
theorem scInit_NoFlag : FnScope ["self", "value"] ["self", "value"] (defScope sInit_NoFlag) := ⟨rfl, rfl, rfl, by decide +kernel, rfl, by decide +kernel, by decide +kernel⟩
/-- a tuple that the top has written -/
theorem sqT_of {K : PySem.W.Frag} {p : Addr} {d : Option Addr} {its : Array Value} {m : Nat} {sl : Array (Option Value)} {xs : List V} (l : K.lookup p = some ⟨.type "tuple", d, .seq its m, sl⟩) (z : its.size ≤ sizeLine) (v : Vals xs its.toList) : ∀ H, SqT K H p xs :=
  fun _ => .inr ⟨_, its, m, l, rfl, rfl, z, v⟩
theorem kl_nil {P : Params} : PySem.W.KeysLit P [] := by unfold PySem.W.KeysLit; trivial
theorem kl_cons {P : Params} {x : Str} {t : Tok} {v : Value} {l : List DictEntry} (r : PySem.W.KeysLit P l) : PySem.W.KeysLit P (⟨PyData.keyHash P x, .str x t, v⟩ :: l) := by unfold PySem.W.KeysLit; exact ⟨⟨x, t, rfl, rfl⟩, r⟩
theorem kdct_of {K : PySem.W.Frag} {w : World} {p : Addr} {es : Array DictEntry} {m : Nat} (l : K.lookup p = some ⟨.type "dict", none, .dict es m, #[]⟩) (kl : PySem.W.KeysLit w.params es.toList) {x : Str} {u : Value} {v : V} (hn : PySem.W.nsIn K p x = some (some u)) (r : RelV v u) : KDct K w p x v :=
  ⟨es, m, u, l, kl, hn, r⟩
theorem kitCls_ref {K : PySem.W.Frag} {u : Value} {D : Addr} {b : Bool} (h2 : PySem.W.isClsIn K D = true) (h3 : PySem.W.typeIn K (.ref D) = some (.type "type")) (h4 : PySem.W.subIn K u (.ref D) = some b) : PySem.W.kitCls K u (.ref D) = some b := by
  have h2' : (PySem.W.clsIn K D).isSome = true := h2
  show (if ((PySem.W.clsIn K D).isSome && PySem.W.typeIn K (.ref D) == some (.type "type")) = true then PySem.W.subIn K u (.ref D) else none) = some b
  rw [h2', h3, if_pos (by rfl)]
  exact h4
theorem exm_own {K : PySem.W.Frag} {C : Addr} (h1 : PySem.W.subIn K (.ref C) (.type "BaseException") = some true) (h2 : PySem.W.isClsIn K C = true) (h3 : PySem.W.typeIn K (.ref C) = some (.type "type")) (h4 : PySem.W.subIn K (.ref C) (.ref C) = some true) : PySem.W.exmOne K (.ref C) (.ref C) = some true := by
  show (if (PySem.W.subIn K (.ref C) (.type "BaseException") == some true) = true then PySem.W.kitCls K (.ref C) (.ref C) else none) = some true
  rw [h1, if_pos (by rfl)]
  exact kitCls_ref h2 h3 h4
theorem kit_ty {K : PySem.W.Frag} {C : Addr} {t : String} (h2 : PySem.W.isClsIn K C = true) (h3 : PySem.W.typeIn K (.ref C) = some (.type "type")) (h4 : PySem.W.subIn K (.type t) (.ref C) = some false) : PySem.W.kitOne K (.type t) (.ref C) = some false ∧ PySem.W.notFirst K C (.type t) = true := by
  have ne : (Value.type t == Value.ref C) = false := rfl
  refine ⟨?_, ?_⟩
  · show (if (Value.type t == Value.ref C) = true then some true else PySem.W.kitCls K (.type t) (.ref C)) = some false
    rw [ne, if_neg Bool.false_ne_true]
    exact kitCls_ref h2 h3 h4
  · show ((Value.type t == Value.ref C) || PySem.W.subIn K (.type t) (.ref C) == some false) = true
    rw [h4, ne]
    rfl
section
variable {P : Program} {w : World} {K : PySem.W.Frag} {mg : Str → Option Value} {base : Heap}
theorem ok_init_NoName {C fI : Addr} {fd : FuncData} (T : Ex.ErrC K mg "NoName" "value" C) (F : Fun K "__init__" "NoName.__init__" sInit_NoName fI fd) : FnOk P w K mg base CX0 1 fI fd ["self", "value"] (Ex.spInit C "value") := by
  refine F.ok scInit_NoName (fun vs H Q E h => ?_) (fun cdv A outer s H vs Q E hr h => ⟨_, pss_one (ps_ost (pv 0) (pv 1)), ?_⟩)
  · obtain ⟨a, v, rfl, _⟩ := h
    rfl
  · obtain ⟨a, v, rfl, ha, q⟩ := h
    exact ⟨_, rfl, _, rfl, a, C, rfl, T.t, T.no, .inl ⟨ha, q⟩⟩
theorem ok_init_NoWays {C fI : Addr} {fd : FuncData} (T : Ex.ErrC K mg "NoWays" "operation" C) (F : Fun K "__init__" "NoWays.__init__" sInit_NoWays fI fd) : FnOk P w K mg base CX0 1 fI fd ["self", "operation"] (Ex.spInit C "operation") := by
  refine F.ok scInit_NoWays (fun vs H Q E h => ?_) (fun cdv A outer s H vs Q E hr h => ⟨_, pss_one (ps_ost (pv 0) (pv 1)), ?_⟩)
  · obtain ⟨a, v, rfl, _⟩ := h
    rfl
  · obtain ⟨a, v, rfl, ha, q⟩ := h
    exact ⟨_, rfl, _, rfl, a, C, rfl, T.t, T.no, .inl ⟨ha, q⟩⟩
theorem ok_init_NoFlag {C fI : Addr} {fd : FuncData} (T : Ex.ErrC K mg "NoFlag" "value" C) (F : Fun K "__init__" "NoFlag.__init__" sInit_NoFlag fI fd) : FnOk P w K mg base CX0 1 fI fd ["self", "value"] (Ex.spInit C "value") := by
  refine F.ok scInit_NoFlag (fun vs H Q E h => ?_) (fun cdv A outer s H vs Q E hr h => ⟨_, pss_one (ps_ost (pv 0) (pv 1)), ?_⟩)
  · obtain ⟨a, v, rfl, _⟩ := h
    rfl
  · obtain ⟨a, v, rfl, ha, q⟩ := h
    exact ⟨_, rfl, _, rfl, a, C, rfl, T.t, T.no, .inl ⟨ha, q⟩⟩
end
theorem all_mk {l : PySem.W.OpenLaw} {w : World} {K : PySem.W.Frag} {h : Heap} {mg : Str → Option Value} {fa : Addr} (X : K.In h) (G : h.Ns mainGlobals mg) (hfa : mg "law" = some (.ref fa))
    {f1 : Addr} (a1 : PySem.W.nsIn K mainGlobals "is_one_of" = some (some (.ref f1)))
    {od1 an1 : Option Addr} {sl1 : Array (Option Value)} {oc1 kV1 dc1 pm1 cd1 ct1 : Value}
    (l1 : K.lookup f1 = some ⟨oc1, od1, .func (PySem.W.fnOf "is_one_of" "is_one_of" (defArgs sIs_one_of) (defBody sIs_one_of) (defScope sIs_one_of) .none kV1 dc1 pm1 an1 cd1 ct1), sl1⟩)
    (c1 : PySem.W.codeIn K cd1 "is_one_of" = true)
    (k1 : PySem.W.keepIn K (.ref f1) = true)
    {f2 : Addr} (a2 : PySem.W.nsIn K mainGlobals "check_flag" = some (some (.ref f2)))
    {od2 an2 : Option Addr} {sl2 : Array (Option Value)} {oc2 kV2 dc2 pm2 cd2 ct2 : Value}
    (l2 : K.lookup f2 = some ⟨oc2, od2, .func (PySem.W.fnOf "check_flag" "check_flag" (defArgs sCheck_flag) (defBody sCheck_flag) (defScope sCheck_flag) .none kV2 dc2 pm2 an2 cd2 ct2), sl2⟩)
    (c2 : PySem.W.codeIn K cd2 "check_flag" = true)
    (k2 : PySem.W.keepIn K (.ref f2) = true)
    {f3 : Addr} (a3 : PySem.W.nsIn K mainGlobals "check_operation" = some (some (.ref f3)))
    {od3 an3 : Option Addr} {sl3 : Array (Option Value)} {oc3 kV3 dc3 pm3 cd3 ct3 : Value}
    (l3 : K.lookup f3 = some ⟨oc3, od3, .func (PySem.W.fnOf "check_operation" "check_operation" (defArgs sCheck_operation) (defBody sCheck_operation) (defScope sCheck_operation) .none kV3 dc3 pm3 an3 cd3 ct3), sl3⟩)
    (c3 : PySem.W.codeIn K cd3 "check_operation" = true)
    (k3 : PySem.W.keepIn K (.ref f3) = true)
    {f4 : Addr} (a4 : PySem.W.nsIn K mainGlobals "are_ways" = some (some (.ref f4)))
    {od4 an4 : Option Addr} {sl4 : Array (Option Value)} {oc4 kV4 dc4 pm4 cd4 ct4 : Value}
    (l4 : K.lookup f4 = some ⟨oc4, od4, .func (PySem.W.fnOf "are_ways" "are_ways" (defArgs sAre_ways) (defBody sAre_ways) (defScope sAre_ways) .none kV4 dc4 pm4 an4 cd4 ct4), sl4⟩)
    (c4 : PySem.W.codeIn K cd4 "are_ways" = true)
    (k4 : PySem.W.keepIn K (.ref f4) = true)
    {f5 : Addr} (a5 : PySem.W.nsIn K mainGlobals "_law_pool" = some (some (.ref f5)))
    {od5 an5 : Option Addr} {sl5 : Array (Option Value)} {oc5 kV5 dc5 pm5 cd5 ct5 : Value}
    (l5 : K.lookup f5 = some ⟨oc5, od5, .func (PySem.W.fnOf "_law_pool" "_law_pool" (defArgs sL_pool) (defBody sL_pool) (defScope sL_pool) .none kV5 dc5 pm5 an5 cd5 ct5), sl5⟩)
    (c5 : PySem.W.codeIn K cd5 "_law_pool" = true)
    (k5 : PySem.W.keepIn K (.ref f5) = true)
    {f6 : Addr} (a6 : PySem.W.nsIn K mainGlobals "_law_take" = some (some (.ref f6)))
    {od6 an6 : Option Addr} {sl6 : Array (Option Value)} {oc6 kV6 dc6 pm6 cd6 ct6 : Value}
    (l6 : K.lookup f6 = some ⟨oc6, od6, .func (PySem.W.fnOf "_law_take" "_law_take" (defArgs sL_take) (defBody sL_take) (defScope sL_take) .none kV6 dc6 pm6 an6 cd6 ct6), sl6⟩)
    (c6 : PySem.W.codeIn K cd6 "_law_take" = true)
    (k6 : PySem.W.keepIn K (.ref f6) = true)
    {f7 : Addr} (a7 : PySem.W.nsIn K mainGlobals "_law_one" = some (some (.ref f7)))
    {od7 an7 : Option Addr} {sl7 : Array (Option Value)} {oc7 kV7 dc7 pm7 cd7 ct7 : Value}
    (l7 : K.lookup f7 = some ⟨oc7, od7, .func (PySem.W.fnOf "_law_one" "_law_one" (defArgs sL_one) (defBody sL_one) (defScope sL_one) .none kV7 dc7 pm7 an7 cd7 ct7), sl7⟩)
    (c7 : PySem.W.codeIn K cd7 "_law_one" = true)
    (k7 : PySem.W.keepIn K (.ref f7) = true)
    {f8 : Addr} (a8 : PySem.W.nsIn K mainGlobals "_law_menus" = some (some (.ref f8)))
    {od8 an8 : Option Addr} {sl8 : Array (Option Value)} {oc8 kV8 dc8 pm8 cd8 ct8 : Value}
    (l8 : K.lookup f8 = some ⟨oc8, od8, .func (PySem.W.fnOf "_law_menus" "_law_menus" (defArgs sL_menus) (defBody sL_menus) (defScope sL_menus) .none kV8 dc8 pm8 an8 cd8 ct8), sl8⟩)
    (c8 : PySem.W.codeIn K cd8 "_law_menus" = true)
    (k8 : PySem.W.keepIn K (.ref f8) = true)
    {f9 : Addr} (a9 : PySem.W.nsIn K mainGlobals "_law_some" = some (some (.ref f9)))
    {od9 an9 : Option Addr} {sl9 : Array (Option Value)} {oc9 kV9 dc9 pm9 cd9 ct9 : Value}
    (l9 : K.lookup f9 = some ⟨oc9, od9, .func (PySem.W.fnOf "_law_some" "_law_some" (defArgs sL_some) (defBody sL_some) (defScope sL_some) .none kV9 dc9 pm9 an9 cd9 ct9), sl9⟩)
    (c9 : PySem.W.codeIn K cd9 "_law_some" = true)
    (k9 : PySem.W.keepIn K (.ref f9) = true)
    {f10 : Addr} (a10 : PySem.W.nsIn K mainGlobals "_law_told" = some (some (.ref f10)))
    {od10 an10 : Option Addr} {sl10 : Array (Option Value)} {oc10 kV10 dc10 pm10 cd10 ct10 : Value}
    (l10 : K.lookup f10 = some ⟨oc10, od10, .func (PySem.W.fnOf "_law_told" "_law_told" (defArgs sL_told) (defBody sL_told) (defScope sL_told) .none kV10 dc10 pm10 an10 cd10 ct10), sl10⟩)
    (c10 : PySem.W.codeIn K cd10 "_law_told" = true)
    (k10 : PySem.W.keepIn K (.ref f10) = true)
    {f11 : Addr} (a11 : PySem.W.nsIn K mainGlobals "_law_due" = some (some (.ref f11)))
    {od11 an11 : Option Addr} {sl11 : Array (Option Value)} {oc11 kV11 dc11 pm11 cd11 ct11 : Value}
    (l11 : K.lookup f11 = some ⟨oc11, od11, .func (PySem.W.fnOf "_law_due" "_law_due" (defArgs sL_due) (defBody sL_due) (defScope sL_due) .none kV11 dc11 pm11 an11 cd11 ct11), sl11⟩)
    (c11 : PySem.W.codeIn K cd11 "_law_due" = true)
    (k11 : PySem.W.keepIn K (.ref f11) = true)
    {f12 : Addr} (a12 : PySem.W.nsIn K mainGlobals "_law_copy" = some (some (.ref f12)))
    {od12 an12 : Option Addr} {sl12 : Array (Option Value)} {oc12 kV12 dc12 pm12 cd12 ct12 : Value}
    (l12 : K.lookup f12 = some ⟨oc12, od12, .func (PySem.W.fnOf "_law_copy" "_law_copy" (defArgs sL_copy) (defBody sL_copy) (defScope sL_copy) .none kV12 dc12 pm12 an12 cd12 ct12), sl12⟩)
    (c12 : PySem.W.codeIn K cd12 "_law_copy" = true)
    (k12 : PySem.W.keepIn K (.ref f12) = true)
    {f13 : Addr} (a13 : PySem.W.nsIn K mainGlobals "_law_deed" = some (some (.ref f13)))
    {od13 an13 : Option Addr} {sl13 : Array (Option Value)} {oc13 kV13 dc13 pm13 cd13 ct13 : Value}
    (l13 : K.lookup f13 = some ⟨oc13, od13, .func (PySem.W.fnOf "_law_deed" "_law_deed" (defArgs sL_deed) (defBody sL_deed) (defScope sL_deed) .none kV13 dc13 pm13 an13 cd13 ct13), sl13⟩)
    (c13 : PySem.W.codeIn K cd13 "_law_deed" = true)
    (k13 : PySem.W.keepIn K (.ref f13) = true)
    {f14 : Addr} (a14 : PySem.W.nsIn K mainGlobals "_law_bare" = some (some (.ref f14)))
    {od14 an14 : Option Addr} {sl14 : Array (Option Value)} {oc14 kV14 dc14 pm14 cd14 ct14 : Value}
    (l14 : K.lookup f14 = some ⟨oc14, od14, .func (PySem.W.fnOf "_law_bare" "_law_bare" (defArgs sL_bare) (defBody sL_bare) (defScope sL_bare) .none kV14 dc14 pm14 an14 cd14 ct14), sl14⟩)
    (c14 : PySem.W.codeIn K cd14 "_law_bare" = true)
    (k14 : PySem.W.keepIn K (.ref f14) = true)
    {f15 : Addr} (a15 : PySem.W.nsIn K mainGlobals "law" = some (some (.ref f15)))
    {od15 an15 : Option Addr} {sl15 : Array (Option Value)} {oc15 kV15 dc15 pm15 cd15 ct15 : Value}
    (l15 : K.lookup f15 = some ⟨oc15, od15, .func (PySem.W.fnOf "law" "law" (defArgs sLaw) (defBody sLaw) (defScope sLaw) .none kV15 dc15 pm15 an15 cd15 ct15), sl15⟩)
    (c15 : PySem.W.codeIn K cd15 "law" = true)
    (k15 : PySem.W.keepIn K (.ref f15) = true)
    (z_int : PySem.W.nsIn K mainGlobals "int" = some none)
    (z_len : PySem.W.nsIn K mainGlobals "len" = some none)
    (z_max : PySem.W.nsIn K mainGlobals "max" = some none)
    (z_min : PySem.W.nsIn K mainGlobals "min" = some none)
    (z_isinstance : PySem.W.nsIn K mainGlobals "isinstance" = some none)
    (z_range : PySem.W.nsIn K mainGlobals "range" = some none)
    (z_list : PySem.W.nsIn K mainGlobals "list" = some none)
    (z_dict : PySem.W.nsIn K mainGlobals "dict" = some none)
    (z_tuple : PySem.W.nsIn K mainGlobals "tuple" = some none)
    (z_set : PySem.W.nsIn K mainGlobals "set" = some none)
    (z_str : PySem.W.nsIn K mainGlobals "str" = some none)
    (z_bool : PySem.W.nsIn K mainGlobals "bool" = some none)
    (z_repr : PySem.W.nsIn K mainGlobals "repr" = some none)
    (z_all : PySem.W.nsIn K mainGlobals "all" = some none)
    {CA : Addr}
    (aA : PySem.W.nsIn K mainGlobals "AnswerError" = some (some (.ref CA)))
    (hsp : PySem.W.specialIn K (.builtin "object.__class__") "__get__" = some (some (.builtin "getset_descriptor.__get__")))
    (htk : PySem.W.takesIn K (.builtin "object.__class__") = some true)
    {C_NoName N_NoName : Addr} {nm_NoName q_NoName : Str} {bs_NoName : List Value} {sn_NoName : List Str} {sub_NoName : List Value} {ab_NoName : Bool} {col_NoName : Option Bool} {dd_NoName : Option Addr} {m0_NoName m1_NoName m2_NoName m3_NoName m5_NoName : Option Value}
    (aC_NoName : PySem.W.nsIn K mainGlobals "NoName" = some (some (.ref C_NoName)))
    (xL_NoName : K.lookup C_NoName = some (excClassObj nm_NoName q_NoName C_NoName N_NoName bs_NoName [.ref CA, .type "ValueError", .type "Exception", .type "BaseException", .type "object"] true sn_NoName sub_NoName ab_NoName col_NoName dd_NoName m0_NoName m1_NoName m2_NoName m3_NoName m5_NoName "ValueError.__new__"))
    (sa_NoName : PySem.W.findIn K (.ref C_NoName) "__setattr__" = some (some (.builtin "object.__setattr__")))
    (eC_NoName : PySem.W.subIn K (.ref C_NoName) (.type "BaseException") = some true)
    (tC_NoName : PySem.W.typeIn K (.ref C_NoName) = some (.type "type"))
    (kC_NoName : PySem.W.keepIn K (.ref C_NoName) = true)
    (ga_NoName : PySem.W.findIn K (.ref C_NoName) "__getattribute__" = some (some (.builtin "BaseException.__getattribute__")))
    (gg_NoName : PySem.W.findIn K (.ref C_NoName) "__getattr__" = some none)
    (hC_NoName : PySem.W.hasDictIn K C_NoName = true)
    (hcl_NoName : PySem.W.findIn K (.ref C_NoName) "__class__" = some (some (.builtin "object.__class__")))
    (hmr_NoName : PySem.W.mroIn K C_NoName (.type "object") = some true)
    (nf_NoName : PySem.W.findIn K (.ref C_NoName) "value" = some none)
    (cC_NoName : PySem.W.isClsIn K C_NoName = true)
    (sC_NoName : PySem.W.subIn K (.ref C_NoName) (.ref C_NoName) = some true)
    {fI_NoName : Addr}
    (iI_NoName : PySem.W.findIn K (.ref C_NoName) "__init__" = some (some (.ref fI_NoName)))
    (tI_NoName : PySem.W.typeIn K (.ref fI_NoName) = some (.type "function"))
    {odI_NoName anI_NoName : Option Addr} {slI_NoName : Array (Option Value)} {ocI_NoName dcI_NoName pmI_NoName cdI_NoName ctI_NoName : Value}
    (lI_NoName : K.lookup fI_NoName = some ⟨ocI_NoName, odI_NoName, .func (PySem.W.fnOf "__init__" "NoName.__init__" (defArgs sInit_NoName) (defBody sInit_NoName) (defScope sInit_NoName) .none .none dcI_NoName pmI_NoName anI_NoName cdI_NoName ctI_NoName), slI_NoName⟩)
    (cI_NoName : PySem.W.codeIn K cdI_NoName "NoName.__init__" = true)
    (kI_NoName : PySem.W.keepIn K (.ref fI_NoName) = true)
    {C_NoWays N_NoWays : Addr} {nm_NoWays q_NoWays : Str} {bs_NoWays : List Value} {sn_NoWays : List Str} {sub_NoWays : List Value} {ab_NoWays : Bool} {col_NoWays : Option Bool} {dd_NoWays : Option Addr} {m0_NoWays m1_NoWays m2_NoWays m3_NoWays m5_NoWays : Option Value}
    (aC_NoWays : PySem.W.nsIn K mainGlobals "NoWays" = some (some (.ref C_NoWays)))
    (xL_NoWays : K.lookup C_NoWays = some (excClassObj nm_NoWays q_NoWays C_NoWays N_NoWays bs_NoWays [.ref CA, .type "ValueError", .type "Exception", .type "BaseException", .type "object"] true sn_NoWays sub_NoWays ab_NoWays col_NoWays dd_NoWays m0_NoWays m1_NoWays m2_NoWays m3_NoWays m5_NoWays "ValueError.__new__"))
    (sa_NoWays : PySem.W.findIn K (.ref C_NoWays) "__setattr__" = some (some (.builtin "object.__setattr__")))
    (eC_NoWays : PySem.W.subIn K (.ref C_NoWays) (.type "BaseException") = some true)
    (tC_NoWays : PySem.W.typeIn K (.ref C_NoWays) = some (.type "type"))
    (kC_NoWays : PySem.W.keepIn K (.ref C_NoWays) = true)
    (ga_NoWays : PySem.W.findIn K (.ref C_NoWays) "__getattribute__" = some (some (.builtin "BaseException.__getattribute__")))
    (gg_NoWays : PySem.W.findIn K (.ref C_NoWays) "__getattr__" = some none)
    (hC_NoWays : PySem.W.hasDictIn K C_NoWays = true)
    (hcl_NoWays : PySem.W.findIn K (.ref C_NoWays) "__class__" = some (some (.builtin "object.__class__")))
    (hmr_NoWays : PySem.W.mroIn K C_NoWays (.type "object") = some true)
    (nf_NoWays : PySem.W.findIn K (.ref C_NoWays) "operation" = some none)
    (cC_NoWays : PySem.W.isClsIn K C_NoWays = true)
    (sC_NoWays : PySem.W.subIn K (.ref C_NoWays) (.ref C_NoWays) = some true)
    {fI_NoWays : Addr}
    (iI_NoWays : PySem.W.findIn K (.ref C_NoWays) "__init__" = some (some (.ref fI_NoWays)))
    (tI_NoWays : PySem.W.typeIn K (.ref fI_NoWays) = some (.type "function"))
    {odI_NoWays anI_NoWays : Option Addr} {slI_NoWays : Array (Option Value)} {ocI_NoWays dcI_NoWays pmI_NoWays cdI_NoWays ctI_NoWays : Value}
    (lI_NoWays : K.lookup fI_NoWays = some ⟨ocI_NoWays, odI_NoWays, .func (PySem.W.fnOf "__init__" "NoWays.__init__" (defArgs sInit_NoWays) (defBody sInit_NoWays) (defScope sInit_NoWays) .none .none dcI_NoWays pmI_NoWays anI_NoWays cdI_NoWays ctI_NoWays), slI_NoWays⟩)
    (cI_NoWays : PySem.W.codeIn K cdI_NoWays "NoWays.__init__" = true)
    (kI_NoWays : PySem.W.keepIn K (.ref fI_NoWays) = true)
    {C_NoFlag N_NoFlag : Addr} {nm_NoFlag q_NoFlag : Str} {bs_NoFlag : List Value} {sn_NoFlag : List Str} {sub_NoFlag : List Value} {ab_NoFlag : Bool} {col_NoFlag : Option Bool} {dd_NoFlag : Option Addr} {m0_NoFlag m1_NoFlag m2_NoFlag m3_NoFlag m5_NoFlag : Option Value}
    (aC_NoFlag : PySem.W.nsIn K mainGlobals "NoFlag" = some (some (.ref C_NoFlag)))
    (xL_NoFlag : K.lookup C_NoFlag = some (excClassObj nm_NoFlag q_NoFlag C_NoFlag N_NoFlag bs_NoFlag [.ref CA, .type "ValueError", .type "Exception", .type "BaseException", .type "object"] true sn_NoFlag sub_NoFlag ab_NoFlag col_NoFlag dd_NoFlag m0_NoFlag m1_NoFlag m2_NoFlag m3_NoFlag m5_NoFlag "ValueError.__new__"))
    (sa_NoFlag : PySem.W.findIn K (.ref C_NoFlag) "__setattr__" = some (some (.builtin "object.__setattr__")))
    (eC_NoFlag : PySem.W.subIn K (.ref C_NoFlag) (.type "BaseException") = some true)
    (tC_NoFlag : PySem.W.typeIn K (.ref C_NoFlag) = some (.type "type"))
    (kC_NoFlag : PySem.W.keepIn K (.ref C_NoFlag) = true)
    (ga_NoFlag : PySem.W.findIn K (.ref C_NoFlag) "__getattribute__" = some (some (.builtin "BaseException.__getattribute__")))
    (gg_NoFlag : PySem.W.findIn K (.ref C_NoFlag) "__getattr__" = some none)
    (hC_NoFlag : PySem.W.hasDictIn K C_NoFlag = true)
    (hcl_NoFlag : PySem.W.findIn K (.ref C_NoFlag) "__class__" = some (some (.builtin "object.__class__")))
    (hmr_NoFlag : PySem.W.mroIn K C_NoFlag (.type "object") = some true)
    (nf_NoFlag : PySem.W.findIn K (.ref C_NoFlag) "value" = some none)
    (cC_NoFlag : PySem.W.isClsIn K C_NoFlag = true)
    (sC_NoFlag : PySem.W.subIn K (.ref C_NoFlag) (.ref C_NoFlag) = some true)
    {fI_NoFlag : Addr}
    (iI_NoFlag : PySem.W.findIn K (.ref C_NoFlag) "__init__" = some (some (.ref fI_NoFlag)))
    (tI_NoFlag : PySem.W.typeIn K (.ref fI_NoFlag) = some (.type "function"))
    {odI_NoFlag anI_NoFlag : Option Addr} {slI_NoFlag : Array (Option Value)} {ocI_NoFlag dcI_NoFlag pmI_NoFlag cdI_NoFlag ctI_NoFlag : Value}
    (lI_NoFlag : K.lookup fI_NoFlag = some ⟨ocI_NoFlag, odI_NoFlag, .func (PySem.W.fnOf "__init__" "NoFlag.__init__" (defArgs sInit_NoFlag) (defBody sInit_NoFlag) (defScope sInit_NoFlag) .none .none dcI_NoFlag pmI_NoFlag anI_NoFlag cdI_NoFlag ctI_NoFlag), slI_NoFlag⟩)
    (cI_NoFlag : PySem.W.codeIn K cdI_NoFlag "NoFlag.__init__" = true)
    (kI_NoFlag : PySem.W.keepIn K (.ref fI_NoFlag) = true)
    {C_Book : Addr}
    (aK_Book : PySem.W.nsIn K mainGlobals "Book" = some (some (.ref C_Book)))
    (pg_Book : PySem.W.plainGet K C_Book Str.empty = true)
    (hd_Book : PySem.W.hasDictIn K C_Book = true)
    (po_Book : PySem.W.plainOver K C_Book = true)
    (sa_Book : PySem.W.findIn K (.ref C_Book) "__setattr__" = some (some (.builtin "object.__setattr__")))
    (mk_Book : PySem.W.makesIn K C_Book = true)
    (kc_Book : PySem.W.keepIn K (.ref C_Book) = true)
    (ne_Book : PySem.W.findIn K (.ref C_Book) "__ne__" = some (some (.builtin "object.__ne__")))
    (ob_Book : PySem.W.mroIn K C_Book (.type "object") = some true)
    (hc_Book : PySem.W.findIn K (.ref C_Book) "__class__" = some (some (.builtin "object.__class__")))
    (dq_Book : PySem.W.subIn K (.ref C_Book) (.type "collections.deque") = some false)
    (cC_Book : PySem.W.isClsIn K C_Book = true)
    (tC_Book : PySem.W.typeIn K (.ref C_Book) = some (.type "type"))
    (n_Book__ways : PySem.W.findIn K (.ref C_Book) "_ways" = some none)
    (n_Book__flags : PySem.W.findIn K (.ref C_Book) "_flags" = some none)
    (s_Book_NoneType : PySem.W.subIn K (.type "NoneType") (.ref C_Book) = some false)
    (s_Book_int : PySem.W.subIn K (.type "int") (.ref C_Book) = some false)
    (s_Book_dict : PySem.W.subIn K (.type "dict") (.ref C_Book) = some false)
    (s_Book_list : PySem.W.subIn K (.type "list") (.ref C_Book) = some false)
    (s_Book_str : PySem.W.subIn K (.type "str") (.ref C_Book) = some false)
    (rd_Book : PySem.W.readsIn K C_Book (.type "type") = true)
    (ga_Book : PySem.W.specialIn K (.ref C_Book) "__getattribute__" = some (some (.builtin "type.__getattribute__")))
    {f_Book_init : Addr}
    (a_Book_init : PySem.W.findIn K (.ref C_Book) "__init__" = some (some (.ref f_Book_init)))
    (i_Book_init : PySem.W.isFn K (.ref f_Book_init) = true)
    {od_Book_init an_Book_init : Option Addr} {sl_Book_init : Array (Option Value)} {oc_Book_init kV_Book_init dc_Book_init pm_Book_init cd_Book_init ct_Book_init : Value}
    (l_Book_init : K.lookup f_Book_init = some ⟨oc_Book_init, od_Book_init, .func (PySem.W.fnOf "__init__" "Book.__init__" (defArgs sBook___init__) (defBody sBook___init__) (defScope sBook___init__) .none kV_Book_init dc_Book_init pm_Book_init an_Book_init cd_Book_init ct_Book_init), sl_Book_init⟩)
    (c_Book_init : PySem.W.codeIn K cd_Book_init "Book.__init__" = true)
    (k_Book_init : PySem.W.keepIn K (.ref f_Book_init) = true)
    {p_Book_full : Addr}
    (a_Book_full : PySem.W.findCls K (.ref C_Book) (.type "type") "full" = some (.get (.builtin "staticmethod.__get__") (.ref p_Book_full) .none (.ref C_Book)))
    {f_Book_full : Addr} {r_Book_full : List Value}
    (b_Book_full : PySem.W.recIn K p_Book_full "staticmethod" = some (.ref f_Book_full :: r_Book_full))
    {od_Book_full an_Book_full : Option Addr} {sl_Book_full : Array (Option Value)} {oc_Book_full kV_Book_full dc_Book_full pm_Book_full cd_Book_full ct_Book_full : Value}
    (l_Book_full : K.lookup f_Book_full = some ⟨oc_Book_full, od_Book_full, .func (PySem.W.fnOf "full" "Book.full" (defArgs sBook_full) (defBody sBook_full) (defScope sBook_full) .none kV_Book_full dc_Book_full pm_Book_full an_Book_full cd_Book_full ct_Book_full), sl_Book_full⟩)
    (c_Book_full : PySem.W.codeIn K cd_Book_full "Book.full" = true)
    (k_Book_full : PySem.W.keepIn K (.ref f_Book_full) = true)
    {p_Book_bare : Addr}
    (a_Book_bare : PySem.W.findCls K (.ref C_Book) (.type "type") "bare" = some (.get (.builtin "staticmethod.__get__") (.ref p_Book_bare) .none (.ref C_Book)))
    {f_Book_bare : Addr} {r_Book_bare : List Value}
    (b_Book_bare : PySem.W.recIn K p_Book_bare "staticmethod" = some (.ref f_Book_bare :: r_Book_bare))
    {od_Book_bare an_Book_bare : Option Addr} {sl_Book_bare : Array (Option Value)} {oc_Book_bare kV_Book_bare dc_Book_bare pm_Book_bare cd_Book_bare ct_Book_bare : Value}
    (l_Book_bare : K.lookup f_Book_bare = some ⟨oc_Book_bare, od_Book_bare, .func (PySem.W.fnOf "bare" "Book.bare" (defArgs sBook_bare) (defBody sBook_bare) (defScope sBook_bare) .none kV_Book_bare dc_Book_bare pm_Book_bare an_Book_bare cd_Book_bare ct_Book_bare), sl_Book_bare⟩)
    (c_Book_bare : PySem.W.codeIn K cd_Book_bare "Book.bare" = true)
    (k_Book_bare : PySem.W.keepIn K (.ref f_Book_bare) = true)
    {f_Book_getitem : Addr}
    (a_Book_getitem : PySem.W.findIn K (.ref C_Book) "__getitem__" = some (some (.ref f_Book_getitem)))
    (i_Book_getitem : PySem.W.isFn K (.ref f_Book_getitem) = true)
    {od_Book_getitem an_Book_getitem : Option Addr} {sl_Book_getitem : Array (Option Value)} {oc_Book_getitem kV_Book_getitem dc_Book_getitem pm_Book_getitem cd_Book_getitem ct_Book_getitem : Value}
    (l_Book_getitem : K.lookup f_Book_getitem = some ⟨oc_Book_getitem, od_Book_getitem, .func (PySem.W.fnOf "__getitem__" "Book.__getitem__" (defArgs sBook___getitem__) (defBody sBook___getitem__) (defScope sBook___getitem__) .none kV_Book_getitem dc_Book_getitem pm_Book_getitem an_Book_getitem cd_Book_getitem ct_Book_getitem), sl_Book_getitem⟩)
    (c_Book_getitem : PySem.W.codeIn K cd_Book_getitem "Book.__getitem__" = true)
    (k_Book_getitem : PySem.W.keepIn K (.ref f_Book_getitem) = true)
    {f_Book_setitem : Addr}
    (a_Book_setitem : PySem.W.findIn K (.ref C_Book) "__setitem__" = some (some (.ref f_Book_setitem)))
    (i_Book_setitem : PySem.W.isFn K (.ref f_Book_setitem) = true)
    {od_Book_setitem an_Book_setitem : Option Addr} {sl_Book_setitem : Array (Option Value)} {oc_Book_setitem kV_Book_setitem dc_Book_setitem pm_Book_setitem cd_Book_setitem ct_Book_setitem : Value}
    (l_Book_setitem : K.lookup f_Book_setitem = some ⟨oc_Book_setitem, od_Book_setitem, .func (PySem.W.fnOf "__setitem__" "Book.__setitem__" (defArgs sBook___setitem__) (defBody sBook___setitem__) (defScope sBook___setitem__) .none kV_Book_setitem dc_Book_setitem pm_Book_setitem an_Book_setitem cd_Book_setitem ct_Book_setitem), sl_Book_setitem⟩)
    (c_Book_setitem : PySem.W.codeIn K cd_Book_setitem "Book.__setitem__" = true)
    (k_Book_setitem : PySem.W.keepIn K (.ref f_Book_setitem) = true)
    {p_Book_bars_hash : Addr}
    (a_Book_bars_hash : PySem.W.findIn K (.ref C_Book) "bars_hash" = some (some (.ref p_Book_bars_hash)))
    (d_Book_bars_hash : PySem.W.specialIn K (.ref p_Book_bars_hash) "__get__" = some (some (.builtin "property.__get__")))
    (e_Book_bars_hash : PySem.W.takesIn K (.ref p_Book_bars_hash) = some true)
    {f_Book_bars_hash : Addr} {r_Book_bars_hash : List Value}
    (b_Book_bars_hash : PySem.W.recIn K p_Book_bars_hash "property" = some (.ref f_Book_bars_hash :: r_Book_bars_hash))
    {od_Book_bars_hash an_Book_bars_hash : Option Addr} {sl_Book_bars_hash : Array (Option Value)} {oc_Book_bars_hash kV_Book_bars_hash dc_Book_bars_hash pm_Book_bars_hash cd_Book_bars_hash ct_Book_bars_hash : Value}
    (l_Book_bars_hash : K.lookup f_Book_bars_hash = some ⟨oc_Book_bars_hash, od_Book_bars_hash, .func (PySem.W.fnOf "bars_hash" "Book.bars_hash" (defArgs sBook_bars_hash) (defBody sBook_bars_hash) (defScope sBook_bars_hash) .none kV_Book_bars_hash dc_Book_bars_hash pm_Book_bars_hash an_Book_bars_hash cd_Book_bars_hash ct_Book_bars_hash), sl_Book_bars_hash⟩)
    (c_Book_bars_hash : PySem.W.codeIn K cd_Book_bars_hash "Book.bars_hash" = true)
    (k_Book_bars_hash : PySem.W.keepIn K (.ref f_Book_bars_hash) = true)
    {p_Book_ends_same : Addr}
    (a_Book_ends_same : PySem.W.findIn K (.ref C_Book) "ends_same" = some (some (.ref p_Book_ends_same)))
    (d_Book_ends_same : PySem.W.specialIn K (.ref p_Book_ends_same) "__get__" = some (some (.builtin "property.__get__")))
    (e_Book_ends_same : PySem.W.takesIn K (.ref p_Book_ends_same) = some true)
    {f_Book_ends_same : Addr} {r_Book_ends_same : List Value}
    (b_Book_ends_same : PySem.W.recIn K p_Book_ends_same "property" = some (.ref f_Book_ends_same :: r_Book_ends_same))
    {od_Book_ends_same an_Book_ends_same : Option Addr} {sl_Book_ends_same : Array (Option Value)} {oc_Book_ends_same kV_Book_ends_same dc_Book_ends_same pm_Book_ends_same cd_Book_ends_same ct_Book_ends_same : Value}
    (l_Book_ends_same : K.lookup f_Book_ends_same = some ⟨oc_Book_ends_same, od_Book_ends_same, .func (PySem.W.fnOf "ends_same" "Book.ends_same" (defArgs sBook_ends_same) (defBody sBook_ends_same) (defScope sBook_ends_same) .none kV_Book_ends_same dc_Book_ends_same pm_Book_ends_same an_Book_ends_same cd_Book_ends_same ct_Book_ends_same), sl_Book_ends_same⟩)
    (c_Book_ends_same : PySem.W.codeIn K cd_Book_ends_same "Book.ends_same" = true)
    (k_Book_ends_same : PySem.W.keepIn K (.ref f_Book_ends_same) = true)
    {p_Book_ends_true : Addr}
    (a_Book_ends_true : PySem.W.findIn K (.ref C_Book) "ends_true" = some (some (.ref p_Book_ends_true)))
    (d_Book_ends_true : PySem.W.specialIn K (.ref p_Book_ends_true) "__get__" = some (some (.builtin "property.__get__")))
    (e_Book_ends_true : PySem.W.takesIn K (.ref p_Book_ends_true) = some true)
    {f_Book_ends_true : Addr} {r_Book_ends_true : List Value}
    (b_Book_ends_true : PySem.W.recIn K p_Book_ends_true "property" = some (.ref f_Book_ends_true :: r_Book_ends_true))
    {od_Book_ends_true an_Book_ends_true : Option Addr} {sl_Book_ends_true : Array (Option Value)} {oc_Book_ends_true kV_Book_ends_true dc_Book_ends_true pm_Book_ends_true cd_Book_ends_true ct_Book_ends_true : Value}
    (l_Book_ends_true : K.lookup f_Book_ends_true = some ⟨oc_Book_ends_true, od_Book_ends_true, .func (PySem.W.fnOf "ends_true" "Book.ends_true" (defArgs sBook_ends_true) (defBody sBook_ends_true) (defScope sBook_ends_true) .none kV_Book_ends_true dc_Book_ends_true pm_Book_ends_true an_Book_ends_true cd_Book_ends_true ct_Book_ends_true), sl_Book_ends_true⟩)
    (c_Book_ends_true : PySem.W.codeIn K cd_Book_ends_true "Book.ends_true" = true)
    (k_Book_ends_true : PySem.W.keepIn K (.ref f_Book_ends_true) = true)
    {f_Book_set_flag : Addr}
    (a_Book_set_flag : PySem.W.findIn K (.ref C_Book) "set_flag" = some (some (.ref f_Book_set_flag)))
    (i_Book_set_flag : PySem.W.isFn K (.ref f_Book_set_flag) = true)
    {od_Book_set_flag an_Book_set_flag : Option Addr} {sl_Book_set_flag : Array (Option Value)} {oc_Book_set_flag kV_Book_set_flag dc_Book_set_flag pm_Book_set_flag cd_Book_set_flag ct_Book_set_flag : Value}
    (l_Book_set_flag : K.lookup f_Book_set_flag = some ⟨oc_Book_set_flag, od_Book_set_flag, .func (PySem.W.fnOf "set_flag" "Book.set_flag" (defArgs sBook_set_flag) (defBody sBook_set_flag) (defScope sBook_set_flag) .none kV_Book_set_flag dc_Book_set_flag pm_Book_set_flag an_Book_set_flag cd_Book_set_flag ct_Book_set_flag), sl_Book_set_flag⟩)
    (c_Book_set_flag : PySem.W.codeIn K cd_Book_set_flag "Book.set_flag" = true)
    (k_Book_set_flag : PySem.W.keepIn K (.ref f_Book_set_flag) = true)
    {f_Book_twin : Addr}
    (a_Book_twin : PySem.W.findIn K (.ref C_Book) "twin" = some (some (.ref f_Book_twin)))
    (i_Book_twin : PySem.W.isFn K (.ref f_Book_twin) = true)
    {od_Book_twin an_Book_twin : Option Addr} {sl_Book_twin : Array (Option Value)} {oc_Book_twin kV_Book_twin dc_Book_twin pm_Book_twin cd_Book_twin ct_Book_twin : Value}
    (l_Book_twin : K.lookup f_Book_twin = some ⟨oc_Book_twin, od_Book_twin, .func (PySem.W.fnOf "twin" "Book.twin" (defArgs sBook_twin) (defBody sBook_twin) (defScope sBook_twin) .none kV_Book_twin dc_Book_twin pm_Book_twin an_Book_twin cd_Book_twin ct_Book_twin), sl_Book_twin⟩)
    (c_Book_twin : PySem.W.codeIn K cd_Book_twin "Book.twin" = true)
    (k_Book_twin : PySem.W.keepIn K (.ref f_Book_twin) = true)
    {f_Book_listed : Addr}
    (a_Book_listed : PySem.W.findIn K (.ref C_Book) "listed" = some (some (.ref f_Book_listed)))
    (i_Book_listed : PySem.W.isFn K (.ref f_Book_listed) = true)
    {od_Book_listed an_Book_listed : Option Addr} {sl_Book_listed : Array (Option Value)} {oc_Book_listed kV_Book_listed dc_Book_listed pm_Book_listed cd_Book_listed ct_Book_listed : Value}
    (l_Book_listed : K.lookup f_Book_listed = some ⟨oc_Book_listed, od_Book_listed, .func (PySem.W.fnOf "listed" "Book.listed" (defArgs sBook_listed) (defBody sBook_listed) (defScope sBook_listed) .none kV_Book_listed dc_Book_listed pm_Book_listed an_Book_listed cd_Book_listed ct_Book_listed), sl_Book_listed⟩)
    (c_Book_listed : PySem.W.codeIn K cd_Book_listed "Book.listed" = true)
    (k_Book_listed : PySem.W.keepIn K (.ref f_Book_listed) = true)
    {f_Book_eq : Addr}
    (a_Book_eq : PySem.W.findIn K (.ref C_Book) "__eq__" = some (some (.ref f_Book_eq)))
    (i_Book_eq : PySem.W.isFn K (.ref f_Book_eq) = true)
    {od_Book_eq an_Book_eq : Option Addr} {sl_Book_eq : Array (Option Value)} {oc_Book_eq kV_Book_eq dc_Book_eq pm_Book_eq cd_Book_eq ct_Book_eq : Value}
    (l_Book_eq : K.lookup f_Book_eq = some ⟨oc_Book_eq, od_Book_eq, .func (PySem.W.fnOf "__eq__" "Book.__eq__" (defArgs sBook___eq__) (defBody sBook___eq__) (defScope sBook___eq__) .none kV_Book_eq dc_Book_eq pm_Book_eq an_Book_eq cd_Book_eq ct_Book_eq), sl_Book_eq⟩)
    (c_Book_eq : PySem.W.codeIn K cd_Book_eq "Book.__eq__" = true)
    (k_Book_eq : PySem.W.keepIn K (.ref f_Book_eq) = true)
    {f_Book_len : Addr}
    (a_Book_len : PySem.W.findIn K (.ref C_Book) "__len__" = some (some (.ref f_Book_len)))
    (i_Book_len : PySem.W.isFn K (.ref f_Book_len) = true)
    {od_Book_len an_Book_len : Option Addr} {sl_Book_len : Array (Option Value)} {oc_Book_len kV_Book_len dc_Book_len pm_Book_len cd_Book_len ct_Book_len : Value}
    (l_Book_len : K.lookup f_Book_len = some ⟨oc_Book_len, od_Book_len, .func (PySem.W.fnOf "__len__" "Book.__len__" (defArgs sBook___len__) (defBody sBook___len__) (defScope sBook___len__) .none kV_Book_len dc_Book_len pm_Book_len an_Book_len cd_Book_len ct_Book_len), sl_Book_len⟩)
    (c_Book_len : PySem.W.codeIn K cd_Book_len "Book.__len__" = true)
    (k_Book_len : PySem.W.keepIn K (.ref f_Book_len) = true)
    {p_OPERATIONS : Addr} {d_OPERATIONS : Option Addr} {i_OPERATIONS : Array Value} {n_OPERATIONS : Nat} {s_OPERATIONS : Array (Option Value)}
    (a_OPERATIONS : PySem.W.nsIn K mainGlobals "OPERATIONS" = some (some (.ref p_OPERATIONS)))
    (l_OPERATIONS : K.lookup p_OPERATIONS = some ⟨.type "tuple", d_OPERATIONS, .seq i_OPERATIONS n_OPERATIONS, s_OPERATIONS⟩)
    (z_OPERATIONS : i_OPERATIONS.size ≤ sizeLine)
    (v_OPERATIONS : Vals (ops.map V.str) i_OPERATIONS.toList)
    {p_FLAGS : Addr} {d_FLAGS : Option Addr} {i_FLAGS : Array Value} {n_FLAGS : Nat} {s_FLAGS : Array (Option Value)}
    (a_FLAGS : PySem.W.nsIn K mainGlobals "FLAGS" = some (some (.ref p_FLAGS)))
    (l_FLAGS : K.lookup p_FLAGS = some ⟨.type "tuple", d_FLAGS, .seq i_FLAGS n_FLAGS, s_FLAGS⟩)
    (z_FLAGS : i_FLAGS.size ≤ sizeLine)
    (v_FLAGS : Vals (flagsW.map V.str) i_FLAGS.toList)
    {p_MENUS : Addr} {e_MENUS : Array DictEntry} {n_MENUS : Nat}
    (a_MENUS : PySem.W.nsIn K mainGlobals "MENUS" = some (some (.ref p_MENUS)))
    (l_MENUS : K.lookup p_MENUS = some ⟨.type "dict", none, .dict e_MENUS n_MENUS, #[]⟩)
    (y_MENUS : PySem.W.KeysLit w.params e_MENUS.toList)
    {q_MENUS_truth : Addr} {d_MENUS_truth : Option Addr} {i_MENUS_truth : Array Value} {n_MENUS_truth : Nat} {s_MENUS_truth : Array (Option Value)}
    (g_MENUS_truth : PySem.W.nsIn K p_MENUS "truth" = some (some (.ref q_MENUS_truth)))
    (l_MENUS_truth : K.lookup q_MENUS_truth = some ⟨.type "tuple", d_MENUS_truth, .seq i_MENUS_truth n_MENUS_truth, s_MENUS_truth⟩)
    (z_MENUS_truth : i_MENUS_truth.size ≤ sizeLine)
    (v_MENUS_truth : Vals ((menu "truth").map V.str) i_MENUS_truth.toList)
    {q_MENUS_size : Addr} {d_MENUS_size : Option Addr} {i_MENUS_size : Array Value} {n_MENUS_size : Nat} {s_MENUS_size : Array (Option Value)}
    (g_MENUS_size : PySem.W.nsIn K p_MENUS "size" = some (some (.ref q_MENUS_size)))
    (l_MENUS_size : K.lookup q_MENUS_size = some ⟨.type "tuple", d_MENUS_size, .seq i_MENUS_size n_MENUS_size, s_MENUS_size⟩)
    (z_MENUS_size : i_MENUS_size.size ≤ sizeLine)
    (v_MENUS_size : Vals ((menu "size").map V.str) i_MENUS_size.toList)
    {q_MENUS_each : Addr} {d_MENUS_each : Option Addr} {i_MENUS_each : Array Value} {n_MENUS_each : Nat} {s_MENUS_each : Array (Option Value)}
    (g_MENUS_each : PySem.W.nsIn K p_MENUS "each" = some (some (.ref q_MENUS_each)))
    (l_MENUS_each : K.lookup q_MENUS_each = some ⟨.type "tuple", d_MENUS_each, .seq i_MENUS_each n_MENUS_each, s_MENUS_each⟩)
    (z_MENUS_each : i_MENUS_each.size ≤ sizeLine)
    (v_MENUS_each : Vals ((menu "each").map V.str) i_MENUS_each.toList)
    {q_MENUS_turned : Addr} {d_MENUS_turned : Option Addr} {i_MENUS_turned : Array Value} {n_MENUS_turned : Nat} {s_MENUS_turned : Array (Option Value)}
    (g_MENUS_turned : PySem.W.nsIn K p_MENUS "turned" = some (some (.ref q_MENUS_turned)))
    (l_MENUS_turned : K.lookup q_MENUS_turned = some ⟨.type "tuple", d_MENUS_turned, .seq i_MENUS_turned n_MENUS_turned, s_MENUS_turned⟩)
    (z_MENUS_turned : i_MENUS_turned.size ≤ sizeLine)
    (v_MENUS_turned : Vals ((menu "turned").map V.str) i_MENUS_turned.toList)
    {q_MENUS_hash : Addr} {d_MENUS_hash : Option Addr} {i_MENUS_hash : Array Value} {n_MENUS_hash : Nat} {s_MENUS_hash : Array (Option Value)}
    (g_MENUS_hash : PySem.W.nsIn K p_MENUS "hash" = some (some (.ref q_MENUS_hash)))
    (l_MENUS_hash : K.lookup q_MENUS_hash = some ⟨.type "tuple", d_MENUS_hash, .seq i_MENUS_hash n_MENUS_hash, s_MENUS_hash⟩)
    (z_MENUS_hash : i_MENUS_hash.size ≤ sizeLine)
    (v_MENUS_hash : Vals ((menu "hash").map V.str) i_MENUS_hash.toList)
    {q_MENUS_call : Addr} {d_MENUS_call : Option Addr} {i_MENUS_call : Array Value} {n_MENUS_call : Nat} {s_MENUS_call : Array (Option Value)}
    (g_MENUS_call : PySem.W.nsIn K p_MENUS "call" = some (some (.ref q_MENUS_call)))
    (l_MENUS_call : K.lookup q_MENUS_call = some ⟨.type "tuple", d_MENUS_call, .seq i_MENUS_call n_MENUS_call, s_MENUS_call⟩)
    (z_MENUS_call : i_MENUS_call.size ≤ sizeLine)
    (v_MENUS_call : Vals ((menu "call").map V.str) i_MENUS_call.toList)
    {q_MENUS_member : Addr} {d_MENUS_member : Option Addr} {i_MENUS_member : Array Value} {n_MENUS_member : Nat} {s_MENUS_member : Array (Option Value)}
    (g_MENUS_member : PySem.W.nsIn K p_MENUS "member" = some (some (.ref q_MENUS_member)))
    (l_MENUS_member : K.lookup q_MENUS_member = some ⟨.type "tuple", d_MENUS_member, .seq i_MENUS_member n_MENUS_member, s_MENUS_member⟩)
    (z_MENUS_member : i_MENUS_member.size ≤ sizeLine)
    (v_MENUS_member : Vals ((menu "member").map V.str) i_MENUS_member.toList)
    {q_MENUS_like : Addr} {d_MENUS_like : Option Addr} {i_MENUS_like : Array Value} {n_MENUS_like : Nat} {s_MENUS_like : Array (Option Value)}
    (g_MENUS_like : PySem.W.nsIn K p_MENUS "like" = some (some (.ref q_MENUS_like)))
    (l_MENUS_like : K.lookup q_MENUS_like = some ⟨.type "tuple", d_MENUS_like, .seq i_MENUS_like n_MENUS_like, s_MENUS_like⟩)
    (z_MENUS_like : i_MENUS_like.size ≤ sizeLine)
    (v_MENUS_like : Vals ((menu "like").map V.str) i_MENUS_like.toList)
    {q_MENUS_unlike : Addr} {d_MENUS_unlike : Option Addr} {i_MENUS_unlike : Array Value} {n_MENUS_unlike : Nat} {s_MENUS_unlike : Array (Option Value)}
    (g_MENUS_unlike : PySem.W.nsIn K p_MENUS "unlike" = some (some (.ref q_MENUS_unlike)))
    (l_MENUS_unlike : K.lookup q_MENUS_unlike = some ⟨.type "tuple", d_MENUS_unlike, .seq i_MENUS_unlike n_MENUS_unlike, s_MENUS_unlike⟩)
    (z_MENUS_unlike : i_MENUS_unlike.size ≤ sizeLine)
    (v_MENUS_unlike : Vals ((menu "unlike").map V.str) i_MENUS_unlike.toList)
    {q_MENUS_before : Addr} {d_MENUS_before : Option Addr} {i_MENUS_before : Array Value} {n_MENUS_before : Nat} {s_MENUS_before : Array (Option Value)}
    (g_MENUS_before : PySem.W.nsIn K p_MENUS "before" = some (some (.ref q_MENUS_before)))
    (l_MENUS_before : K.lookup q_MENUS_before = some ⟨.type "tuple", d_MENUS_before, .seq i_MENUS_before n_MENUS_before, s_MENUS_before⟩)
    (z_MENUS_before : i_MENUS_before.size ≤ sizeLine)
    (v_MENUS_before : Vals ((menu "before").map V.str) i_MENUS_before.toList)
    {q_MENUS_behind : Addr} {d_MENUS_behind : Option Addr} {i_MENUS_behind : Array Value} {n_MENUS_behind : Nat} {s_MENUS_behind : Array (Option Value)}
    (g_MENUS_behind : PySem.W.nsIn K p_MENUS "behind" = some (some (.ref q_MENUS_behind)))
    (l_MENUS_behind : K.lookup q_MENUS_behind = some ⟨.type "tuple", d_MENUS_behind, .seq i_MENUS_behind n_MENUS_behind, s_MENUS_behind⟩)
    (z_MENUS_behind : i_MENUS_behind.size ≤ sizeLine)
    (v_MENUS_behind : Vals ((menu "behind").map V.str) i_MENUS_behind.toList)
    {q_MENUS_grow : Addr} {d_MENUS_grow : Option Addr} {i_MENUS_grow : Array Value} {n_MENUS_grow : Nat} {s_MENUS_grow : Array (Option Value)}
    (g_MENUS_grow : PySem.W.nsIn K p_MENUS "grow" = some (some (.ref q_MENUS_grow)))
    (l_MENUS_grow : K.lookup q_MENUS_grow = some ⟨.type "tuple", d_MENUS_grow, .seq i_MENUS_grow n_MENUS_grow, s_MENUS_grow⟩)
    (z_MENUS_grow : i_MENUS_grow.size ≤ sizeLine)
    (v_MENUS_grow : Vals ((menu "grow").map V.str) i_MENUS_grow.toList)
    : ∃ fd : FuncData, (∀ (s : Shared) (u : Value), BindsTo s fd ⟨[u], []⟩ [("_law_script", u)]) ∧ ∀ base : Heap, K.In base → base.Ns mainGlobals mg → FnG l.prog w K mg base CX0 7 fa fd ["_law_script"] (spLaw K) := by
  have e := hfa.symm.trans (PySem.W.mg_of X G a15)
  cases e
  have T : Txt K mg := { int := PySem.W.mg_none_of X G z_int, len := PySem.W.mg_none_of X G z_len, max := PySem.W.mg_none_of X G z_max, min := PySem.W.mg_none_of X G z_min, isinstance := PySem.W.mg_none_of X G z_isinstance, range := PySem.W.mg_none_of X G z_range, list := PySem.W.mg_none_of X G z_list, dict := PySem.W.mg_none_of X G z_dict, tuple := PySem.W.mg_none_of X G z_tuple, set := PySem.W.mg_none_of X G z_set, str := PySem.W.mg_none_of X G z_str, bool := PySem.W.mg_none_of X G z_bool, repr := PySem.W.mg_none_of X G z_repr, all := PySem.W.mg_none_of X G z_all }
  have D_is_one_of : DefAt K mg "is_one_of" sIs_one_of ["value", "words"] := defAt X G (fun _ _ _ _ _ _ us hl => match us, hl with | [_, _], _ => rfl) a1 l1 c1 k1
  have D_check_flag : DefAt K mg "check_flag" sCheck_flag ["value"] := defAt X G (fun _ _ _ _ _ _ us hl => match us, hl with | [_], _ => rfl) a2 l2 c2 k2
  have D_check_operation : DefAt K mg "check_operation" sCheck_operation ["operation"] := defAt X G (fun _ _ _ _ _ _ us hl => match us, hl with | [_], _ => rfl) a3 l3 c3 k3
  have D_are_ways : DefAt K mg "are_ways" sAre_ways ["operation", "value"] := defAt X G (fun _ _ _ _ _ _ us hl => match us, hl with | [_, _], _ => rfl) a4 l4 c4 k4
  have D_L_pool : DefAt K mg "_law_pool" sL_pool ["_law_script", "_law_k"] := defAt X G (fun _ _ _ _ _ _ us hl => match us, hl with | [_, _], _ => rfl) a5 l5 c5 k5
  have D_L_take : DefAt K mg "_law_take" sL_take ["_law_pool_here", "_law_many"] := defAt X G (fun _ _ _ _ _ _ us hl => match us, hl with | [_, _], _ => rfl) a6 l6 c6 k6
  have D_L_one : DefAt K mg "_law_one" sL_one ["_law_pool_here", "_law_some_here"] := defAt X G (fun _ _ _ _ _ _ us hl => match us, hl with | [_, _], _ => rfl) a7 l7 c7 k7
  have D_L_menus : DefAt K mg "_law_menus" sL_menus [] := defAt X G (fun _ _ _ _ _ _ us hl => match us, hl with | [], _ => rfl) a8 l8 c8 k8
  have D_L_some : DefAt K mg "_law_some" sL_some ["_law_pool_here", "_law_menu"] := defAt X G (fun _ _ _ _ _ _ us hl => match us, hl with | [_, _], _ => rfl) a9 l9 c9 k9
  have D_L_told : DefAt K mg "_law_told" sL_told ["_law_book"] := defAt X G (fun _ _ _ _ _ _ us hl => match us, hl with | [_], _ => rfl) a10 l10 c10 k10
  have D_L_due : DefAt K mg "_law_due" sL_due ["_law_own"] := defAt X G (fun _ _ _ _ _ _ us hl => match us, hl with | [_], _ => rfl) a11 l11 c11 k11
  have D_L_copy : DefAt K mg "_law_copy" sL_copy ["_law_own"] := defAt X G (fun _ _ _ _ _ _ us hl => match us, hl with | [_], _ => rfl) a12 l12 c12 k12
  have D_L_deed : DefAt K mg "_law_deed" sL_deed ["_law_pool_here", "_law_book", "_law_own"] := defAt X G (fun _ _ _ _ _ _ us hl => match us, hl with | [_, _, _], _ => rfl) a13 l13 c13 k13
  have D_L_bare : DefAt K mg "_law_bare" sL_bare [] := defAt X G (fun _ _ _ _ _ _ us hl => match us, hl with | [], _ => rfl) a14 l14 c14 k14
  have FL := fun_mk (st := sLaw) l15 c15 k15
  have T_NoName : Ex.ErrC K mg "NoName" "value" C_NoName := { t := ⟨⟨nm_NoName, q_NoName, N_NoName, bs_NoName, _, sn_NoName, sub_NoName, ab_NoName, col_NoName, dd_NoName, m0_NoName, m1_NoName, m2_NoName, m3_NoName, m5_NoName, xL_NoName, by rfl⟩, sa_NoName, eC_NoName, tC_NoName, kC_NoName⟩, xf := ⟨ga_NoName, gg_NoName, eC_NoName, hC_NoName⟩, ic := ⟨ga_NoName, gg_NoName, eC_NoName, hC_NoName, hcl_NoName, hsp, htk, hmr_NoName⟩, no := nf_NoName, g := PySem.W.mg_of X G aC_NoName, te := exm_own eC_NoName cC_NoName tC_NoName sC_NoName }
  have FI_NoName := fun_mk (st := sInit_NoName) lI_NoName cI_NoName kI_NoName
  have bI_NoName := FI_NoName.binds (ps := ["self", "value"]) fun _ _ _ _ _ _ us hl => match us, hl with | [_, _], _ => rfl
  have T_NoWays : Ex.ErrC K mg "NoWays" "operation" C_NoWays := { t := ⟨⟨nm_NoWays, q_NoWays, N_NoWays, bs_NoWays, _, sn_NoWays, sub_NoWays, ab_NoWays, col_NoWays, dd_NoWays, m0_NoWays, m1_NoWays, m2_NoWays, m3_NoWays, m5_NoWays, xL_NoWays, by rfl⟩, sa_NoWays, eC_NoWays, tC_NoWays, kC_NoWays⟩, xf := ⟨ga_NoWays, gg_NoWays, eC_NoWays, hC_NoWays⟩, ic := ⟨ga_NoWays, gg_NoWays, eC_NoWays, hC_NoWays, hcl_NoWays, hsp, htk, hmr_NoWays⟩, no := nf_NoWays, g := PySem.W.mg_of X G aC_NoWays, te := exm_own eC_NoWays cC_NoWays tC_NoWays sC_NoWays }
  have FI_NoWays := fun_mk (st := sInit_NoWays) lI_NoWays cI_NoWays kI_NoWays
  have bI_NoWays := FI_NoWays.binds (ps := ["self", "operation"]) fun _ _ _ _ _ _ us hl => match us, hl with | [_, _], _ => rfl
  have T_NoFlag : Ex.ErrC K mg "NoFlag" "value" C_NoFlag := { t := ⟨⟨nm_NoFlag, q_NoFlag, N_NoFlag, bs_NoFlag, _, sn_NoFlag, sub_NoFlag, ab_NoFlag, col_NoFlag, dd_NoFlag, m0_NoFlag, m1_NoFlag, m2_NoFlag, m3_NoFlag, m5_NoFlag, xL_NoFlag, by rfl⟩, sa_NoFlag, eC_NoFlag, tC_NoFlag, kC_NoFlag⟩, xf := ⟨ga_NoFlag, gg_NoFlag, eC_NoFlag, hC_NoFlag⟩, ic := ⟨ga_NoFlag, gg_NoFlag, eC_NoFlag, hC_NoFlag, hcl_NoFlag, hsp, htk, hmr_NoFlag⟩, no := nf_NoFlag, g := PySem.W.mg_of X G aC_NoFlag, te := exm_own eC_NoFlag cC_NoFlag tC_NoFlag sC_NoFlag }
  have FI_NoFlag := fun_mk (st := sInit_NoFlag) lI_NoFlag cI_NoFlag kI_NoFlag
  have bI_NoFlag := FI_NoFlag.binds (ps := ["self", "value"]) fun _ _ _ _ _ _ us hl => match us, hl with | [_, _], _ => rfl
  have S_OPERATIONS := sqT_of l_OPERATIONS z_OPERATIONS v_OPERATIONS
  have S_FLAGS := sqT_of l_FLAGS z_FLAGS v_FLAGS
  have F_Book_init := fun_mk (st := sBook___init__) l_Book_init c_Book_init k_Book_init
  have b_Book_init_ := F_Book_init.binds (ps := ["self"]) fun _ _ _ _ _ _ us hl => match us, hl with | [_], _ => rfl
  have F_Book_full := fun_mk (st := sBook_full) l_Book_full c_Book_full k_Book_full
  have b_Book_full_ := F_Book_full.binds (ps := []) fun _ _ _ _ _ _ us hl => match us, hl with | [], _ => rfl
  have F_Book_bare := fun_mk (st := sBook_bare) l_Book_bare c_Book_bare k_Book_bare
  have b_Book_bare_ := F_Book_bare.binds (ps := []) fun _ _ _ _ _ _ us hl => match us, hl with | [], _ => rfl
  have F_Book_getitem := fun_mk (st := sBook___getitem__) l_Book_getitem c_Book_getitem k_Book_getitem
  have b_Book_getitem_ := F_Book_getitem.binds (ps := ["self", "operation"]) fun _ _ _ _ _ _ us hl => match us, hl with | [_, _], _ => rfl
  have F_Book_setitem := fun_mk (st := sBook___setitem__) l_Book_setitem c_Book_setitem k_Book_setitem
  have b_Book_setitem_ := F_Book_setitem.binds (ps := ["self", "operation", "ways"]) fun _ _ _ _ _ _ us hl => match us, hl with | [_, _, _], _ => rfl
  have F_Book_bars_hash := fun_mk (st := sBook_bars_hash) l_Book_bars_hash c_Book_bars_hash k_Book_bars_hash
  have b_Book_bars_hash_ := F_Book_bars_hash.binds (ps := ["self"]) fun _ _ _ _ _ _ us hl => match us, hl with | [_], _ => rfl
  have F_Book_ends_same := fun_mk (st := sBook_ends_same) l_Book_ends_same c_Book_ends_same k_Book_ends_same
  have b_Book_ends_same_ := F_Book_ends_same.binds (ps := ["self"]) fun _ _ _ _ _ _ us hl => match us, hl with | [_], _ => rfl
  have F_Book_ends_true := fun_mk (st := sBook_ends_true) l_Book_ends_true c_Book_ends_true k_Book_ends_true
  have b_Book_ends_true_ := F_Book_ends_true.binds (ps := ["self"]) fun _ _ _ _ _ _ us hl => match us, hl with | [_], _ => rfl
  have F_Book_set_flag := fun_mk (st := sBook_set_flag) l_Book_set_flag c_Book_set_flag k_Book_set_flag
  have b_Book_set_flag_ := F_Book_set_flag.binds (ps := ["self", "word", "value"]) fun _ _ _ _ _ _ us hl => match us, hl with | [_, _, _], _ => rfl
  have F_Book_twin := fun_mk (st := sBook_twin) l_Book_twin c_Book_twin k_Book_twin
  have b_Book_twin_ := F_Book_twin.binds (ps := ["self"]) fun _ _ _ _ _ _ us hl => match us, hl with | [_], _ => rfl
  have F_Book_listed := fun_mk (st := sBook_listed) l_Book_listed c_Book_listed k_Book_listed
  have b_Book_listed_ := F_Book_listed.binds (ps := ["self"]) fun _ _ _ _ _ _ us hl => match us, hl with | [_], _ => rfl
  have F_Book_eq := fun_mk (st := sBook___eq__) l_Book_eq c_Book_eq k_Book_eq
  have b_Book_eq_ := F_Book_eq.binds (ps := ["self", "other"]) fun _ _ _ _ _ _ us hl => match us, hl with | [_, _], _ => rfl
  have F_Book_len := fun_mk (st := sBook___len__) l_Book_len c_Book_len k_Book_len
  have b_Book_len_ := F_Book_len.binds (ps := ["self"]) fun _ _ _ _ _ _ us hl => match us, hl with | [_], _ => rfl
  have cl_Book : L2.Cls K C_Book := ⟨pg_Book, hd_Book, po_Book, sa_Book⟩
  have odd_Book : ∀ tn ∈ oddT, PySem.W.kitOne K (.type tn) (.ref C_Book) = some false ∧ PySem.W.notFirst K C_Book (.type tn) = true := by
    intro tn ht
    simp only [oddT, List.mem_cons, List.not_mem_nil, or_false] at ht
    rcases ht with rfl | rfl | rfl | rfl | rfl
    · exact kit_ty cC_Book tC_Book s_Book_NoneType
    · exact kit_ty cC_Book tC_Book s_Book_int
    · exact kit_ty cC_Book tC_Book s_Book_dict
    · exact kit_ty cC_Book tC_Book s_Book_list
    · exact kit_ty cC_Book tC_Book s_Book_str
  refine ⟨PySem.W.fnOf "law" "law" (defArgs sLaw) (defBody sLaw) (defScope sLaw) .none kV15 dc15 pm15 an15 cd15 ct15, fun s v => .of_eq rfl, fun base _ _ => ?_⟩
  have M_NoName : Ex.InitOk l.prog w K mg base "value" C_NoName := ⟨fI_NoName, _, iI_NoName, tI_NoName, ok_init_NoName T_NoName FI_NoName, bI_NoName⟩
  have M_NoWays : Ex.InitOk l.prog w K mg base "operation" C_NoWays := ⟨fI_NoWays, _, iI_NoWays, tI_NoWays, ok_init_NoWays T_NoWays FI_NoWays, bI_NoWays⟩
  have M_NoFlag : Ex.InitOk l.prog w K mg base "value" C_NoFlag := ⟨fI_NoFlag, _, iI_NoFlag, tI_NoFlag, ok_init_NoFlag T_NoFlag FI_NoFlag, bI_NoFlag⟩

  let gM : Str → Addr := fun o => if o = "truth" then q_MENUS_truth else if o = "size" then q_MENUS_size else if o = "each" then q_MENUS_each else if o = "turned" then q_MENUS_turned else if o = "hash" then q_MENUS_hash else if o = "call" then q_MENUS_call else if o = "member" then q_MENUS_member else if o = "like" then q_MENUS_like else if o = "unlike" then q_MENUS_unlike else if o = "before" then q_MENUS_before else if o = "behind" then q_MENUS_behind else if o = "grow" then q_MENUS_grow else 0
  have tm : MenusAt K w p_MENUS gM := by
    intro o ho
    simp only [ops, List.mem_cons, List.not_mem_nil, or_false] at ho
    rcases ho with rfl | rfl | rfl | rfl | rfl | rfl | rfl | rfl | rfl | rfl | rfl | rfl
    · exact ⟨kdct_of l_MENUS y_MENUS g_MENUS_truth rfl, sqT_of l_MENUS_truth z_MENUS_truth v_MENUS_truth⟩
    · exact ⟨kdct_of l_MENUS y_MENUS g_MENUS_size rfl, sqT_of l_MENUS_size z_MENUS_size v_MENUS_size⟩
    · exact ⟨kdct_of l_MENUS y_MENUS g_MENUS_each rfl, sqT_of l_MENUS_each z_MENUS_each v_MENUS_each⟩
    · exact ⟨kdct_of l_MENUS y_MENUS g_MENUS_turned rfl, sqT_of l_MENUS_turned z_MENUS_turned v_MENUS_turned⟩
    · exact ⟨kdct_of l_MENUS y_MENUS g_MENUS_hash rfl, sqT_of l_MENUS_hash z_MENUS_hash v_MENUS_hash⟩
    · exact ⟨kdct_of l_MENUS y_MENUS g_MENUS_call rfl, sqT_of l_MENUS_call z_MENUS_call v_MENUS_call⟩
    · exact ⟨kdct_of l_MENUS y_MENUS g_MENUS_member rfl, sqT_of l_MENUS_member z_MENUS_member v_MENUS_member⟩
    · exact ⟨kdct_of l_MENUS y_MENUS g_MENUS_like rfl, sqT_of l_MENUS_like z_MENUS_like v_MENUS_like⟩
    · exact ⟨kdct_of l_MENUS y_MENUS g_MENUS_unlike rfl, sqT_of l_MENUS_unlike z_MENUS_unlike v_MENUS_unlike⟩
    · exact ⟨kdct_of l_MENUS y_MENUS g_MENUS_before rfl, sqT_of l_MENUS_before z_MENUS_before v_MENUS_before⟩
    · exact ⟨kdct_of l_MENUS y_MENUS g_MENUS_behind rfl, sqT_of l_MENUS_behind z_MENUS_behind v_MENUS_behind⟩
    · exact ⟨kdct_of l_MENUS y_MENUS g_MENUS_grow rfl, sqT_of l_MENUS_grow z_MENUS_grow v_MENUS_grow⟩
  have tb : Tb K w mg p_OPERATIONS p_MENUS p_FLAGS gM := ⟨PySem.W.mg_of X G a_OPERATIONS, PySem.W.mg_of X G a_MENUS, PySem.W.mg_of X G a_FLAGS, S_OPERATIONS, S_FLAGS, tm⟩
  have B : BF K mg C_Book := { cl := cl_Book, g := PySem.W.mg_of X G aK_Book, ne := ne_Book, ob := ob_Book, n1 := n_Book__ways, n2 := n_Book__flags }
  have ic : IC K C_Book := ⟨hc_Book, hsp, htk⟩
  have E_one := ok_one_of (P := l.prog) (w := w) (base := base) T D_is_one_of
  have E_cf := ok_check_flag T T_NoFlag M_NoFlag D_check_flag
  have E_co := ok_check_operation T tb.o tb.to T_NoName M_NoName D_check_operation E_one
  have E_aw := ok_are_ways T tb.m tm D_are_ways E_one
  have IB : Ob.MkCal l.prog w K mg base CX0 C_Book 1 "Book" (spInit C_Book gM) := ⟨_, _, _, ok_binit T B tb ⟨F_Book_init, b_Book_init_⟩, ⟨mk_Book, a_Book_init, i_Book_init, kc_Book⟩, b_Book_init_, PySem.W.mg_of X G aK_Book⟩
  have SF : Ob.SCal l.prog w K mg base CX0 C_Book 3 "full" (spFull K C_Book gM) := ⟨p_Book_full, _, _, _, .type "type", ok_full tb IB ⟨F_Book_full, b_Book_full_⟩, ⟨rd_Book, ga_Book, a_Book_full, ⟨_, b_Book_full⟩, k_Book_full⟩, b_Book_full_⟩
  have fi : ∀ {f : Addr} {oc : Value} {od : Option Addr} {fd : FuncData} {sl : Array (Option Value)}, K.lookup f = some ⟨oc, od, .func fd, sl⟩ → PySem.W.fnIn K f = true := fun h => by
    unfold PySem.W.fnIn
    rw [h]
  have GB : Ob.GetCal l.prog w K mg base (L2.CX l.prog w) C_Book 4 "__getitem__" (spGet K C_Book C_NoName) := ⟨_, _, _, ok_get B E_co ⟨F_Book_getitem, b_Book_getitem_⟩, ⟨⟨a_Book_getitem, beq_iff_eq.mp i_Book_getitem⟩, dq_Book, fi l_Book_getitem⟩, b_Book_getitem_⟩
  have UB : Ob.GetCal l.prog w K mg base (L2.CX l.prog w) C_Book 4 "__setitem__" (spSet K C_Book C_NoName C_NoWays) := ⟨_, _, _, ok_set T B T_NoWays M_NoWays E_co E_aw ⟨F_Book_setitem, b_Book_setitem_⟩, ⟨⟨a_Book_setitem, beq_iff_eq.mp i_Book_setitem⟩, dq_Book, fi l_Book_setitem⟩, b_Book_setitem_⟩
  have PB : Ob.PCal l.prog w K mg base CX0 C_Book 1 "bars_hash" (spFl K C_Book "bars_hash") := ⟨p_Book_bars_hash, _, _, _, ok_bars B ⟨F_Book_bars_hash, b_Book_bars_hash_⟩, ⟨a_Book_bars_hash, d_Book_bars_hash, e_Book_bars_hash, ⟨_, b_Book_bars_hash⟩⟩, b_Book_bars_hash_⟩
  have PS : Ob.PCal l.prog w K mg base CX0 C_Book 1 "ends_same" (spFl K C_Book "ends_same") := ⟨p_Book_ends_same, _, _, _, ok_same B ⟨F_Book_ends_same, b_Book_ends_same_⟩, ⟨a_Book_ends_same, d_Book_ends_same, e_Book_ends_same, ⟨_, b_Book_ends_same⟩⟩, b_Book_ends_same_⟩
  have PT : Ob.PCal l.prog w K mg base CX0 C_Book 1 "ends_true" (spFl K C_Book "ends_true") := ⟨p_Book_ends_true, _, _, _, ok_true B ⟨F_Book_ends_true, b_Book_ends_true_⟩, ⟨a_Book_ends_true, d_Book_ends_true, e_Book_ends_true, ⟨_, b_Book_ends_true⟩⟩, b_Book_ends_true_⟩
  have MF : Ob.MCal l.prog w K mg base (L2.CX l.prog w) C_Book 4 "set_flag" (spSetFlag K C_Book C_NoName C_NoFlag) := ⟨_, _, _, ok_set_flag B tb T_NoName M_NoName E_one E_cf ⟨F_Book_set_flag, b_Book_set_flag_⟩, ⟨a_Book_set_flag, i_Book_set_flag, k_Book_set_flag⟩, b_Book_set_flag_⟩
  have MT : Ob.MCal l.prog w K mg base CX0 C_Book 3 "twin" (spTwin K C_Book) := ⟨_, _, _, ok_twin T B tb IB ⟨F_Book_twin, b_Book_twin_⟩, ⟨a_Book_twin, i_Book_twin, k_Book_twin⟩, b_Book_twin_⟩
  have ML : Ob.MCal l.prog w K mg base CX0 C_Book 1 "listed" (spListed K C_Book) := ⟨_, _, _, ok_listed T B ⟨F_Book_listed, b_Book_listed_⟩, ⟨a_Book_listed, i_Book_listed, k_Book_listed⟩, b_Book_listed_⟩
  have QB : Ob.EqCal l.prog w K mg base CX0 C_Book 1 (spBEq K C_Book) := ⟨_, _, _, ok_beq T B ic ⟨F_Book_eq, b_Book_eq_⟩, a_Book_eq, i_Book_eq, b_Book_eq_⟩
  have LB : Ob.LenCal l.prog w K mg base CX0 C_Book 1 (spLen K C_Book) := ⟨_, _, _, ok_len T B ⟨F_Book_len, b_Book_len_⟩, a_Book_len, i_Book_len, b_Book_len_⟩
  have SB : Ob.SCal l.prog w K mg base CX0 C_Book 5 "bare" (spBare K C_Book) := ⟨p_Book_bare, _, _, _, .type "type", ok_bare T B tb IB UB MF ⟨F_Book_bare, b_Book_bare_⟩, ⟨rd_Book, ga_Book, a_Book_bare, ⟨_, b_Book_bare⟩, k_Book_bare⟩, b_Book_bare_⟩
  have E_pool := ok_pool (P := l.prog) (w := w) (base := base) T D_L_pool
  have E_take := ok_take (P := l.prog) (w := w) (base := base) T D_L_take
  have E_lone := ok_one T D_L_one E_take
  have E_menus := ok_menus (P := l.prog) (w := w) (base := base) D_L_menus
  have E_some := ok_some T D_L_some E_take
  have E_told := ok_told T B tb GB PB PS PT ML LB D_L_told
  have E_due := ok_due (C := C_Book) (P := l.prog) (w := w) (base := base) T tb D_L_due
  have E_copy := ok_copy (P := l.prog) (w := w) (base := base) T D_L_copy
  have E_deed := ok_deed T B tb UB MF D_L_deed E_take E_lone E_menus E_some
  have E_bare := ok_lbare T D_L_bare E_menus
  exact ok_law T B ic (fun o ho => (tm o ho).2) odd_Book IB SF SB MT ML QB E_pool E_take E_menus E_bare E_told E_due E_copy E_deed FL
end Ab
set_option Elab.async false
set_option linter.all false
open PySem PySem.W PyProof.Rows
set_option maxRecDepth 100000 in
set_option maxHeartbeats 0 in
theorem PySem.Challenge.cw_answersby_k02_books_set_holds : PySem.Challenge.rw_answersby_k02_books_set.Holds := by
  w_on; o_law; k_head; (case hw => w_witness2)
  k_fill
  refine Gk.walkG (l := PySem.Challenge.rw_answersby_k02_books_set) (n := 63) (k := 7) (x := "_law_script") (sp := fun w => Ab.spLaw _) rfl (by decide) rfl ⟨rfl, by decide, by decide⟩ (fun w h Y => PySem.W.kIn_of Y) ?F (fun w H a ns hl _ hS => ⟨a, ns, rfl, hS, hl, fun _ => rfl⟩)
  case F =>
    intro w mg fa h KX G hmg
    refine' Ab.all_mk KX G hmg ?a1 ?l1 ?c1 ?k1 ?a2 ?l2 ?c2 ?k2 ?a3 ?l3 ?c3 ?k3 ?a4 ?l4 ?c4 ?k4 ?a5 ?l5 ?c5 ?k5 ?a6 ?l6 ?c6 ?k6 ?a7 ?l7 ?c7 ?k7 ?a8 ?l8 ?c8 ?k8 ?a9 ?l9 ?c9 ?k9 ?a10 ?l10 ?c10 ?k10 ?a11 ?l11 ?c11 ?k11 ?a12 ?l12 ?c12 ?k12 ?a13 ?l13 ?c13 ?k13 ?a14 ?l14 ?c14 ?k14 ?a15 ?l15 ?c15 ?k15 ?z_int ?z_len ?z_max ?z_min ?z_isinstance ?z_range ?z_list ?z_dict ?z_tuple ?z_set ?z_str ?z_bool ?z_repr ?z_all ?aA ?hsp ?htk ?aC_NoName ?xL_NoName ?sa_NoName ?eC_NoName ?tC_NoName ?kC_NoName ?ga_NoName ?gg_NoName ?hC_NoName ?hcl_NoName ?hmr_NoName ?nf_NoName ?cC_NoName ?sC_NoName ?iI_NoName ?tI_NoName ?lI_NoName ?cI_NoName ?kI_NoName ?aC_NoWays ?xL_NoWays ?sa_NoWays ?eC_NoWays ?tC_NoWays ?kC_NoWays ?ga_NoWays ?gg_NoWays ?hC_NoWays ?hcl_NoWays ?hmr_NoWays ?nf_NoWays ?cC_NoWays ?sC_NoWays ?iI_NoWays ?tI_NoWays ?lI_NoWays ?cI_NoWays ?kI_NoWays ?aC_NoFlag ?xL_NoFlag ?sa_NoFlag ?eC_NoFlag ?tC_NoFlag ?kC_NoFlag ?ga_NoFlag ?gg_NoFlag ?hC_NoFlag ?hcl_NoFlag ?hmr_NoFlag ?nf_NoFlag ?cC_NoFlag ?sC_NoFlag ?iI_NoFlag ?tI_NoFlag ?lI_NoFlag ?cI_NoFlag ?kI_NoFlag ?aK_Book ?pg_Book ?hd_Book ?po_Book ?sa_Book ?mk_Book ?kc_Book ?ne_Book ?ob_Book ?hc_Book ?dq_Book ?cC_Book ?tC_Book ?n_Book__ways ?n_Book__flags ?s_Book_NoneType ?s_Book_int ?s_Book_dict ?s_Book_list ?s_Book_str ?rd_Book ?ga_Book ?a_Book_init ?i_Book_init ?l_Book_init ?c_Book_init ?k_Book_init ?a_Book_full ?b_Book_full ?l_Book_full ?c_Book_full ?k_Book_full ?a_Book_bare ?b_Book_bare ?l_Book_bare ?c_Book_bare ?k_Book_bare ?a_Book_getitem ?i_Book_getitem ?l_Book_getitem ?c_Book_getitem ?k_Book_getitem ?a_Book_setitem ?i_Book_setitem ?l_Book_setitem ?c_Book_setitem ?k_Book_setitem ?a_Book_bars_hash ?d_Book_bars_hash ?e_Book_bars_hash ?b_Book_bars_hash ?l_Book_bars_hash ?c_Book_bars_hash ?k_Book_bars_hash ?a_Book_ends_same ?d_Book_ends_same ?e_Book_ends_same ?b_Book_ends_same ?l_Book_ends_same ?c_Book_ends_same ?k_Book_ends_same ?a_Book_ends_true ?d_Book_ends_true ?e_Book_ends_true ?b_Book_ends_true ?l_Book_ends_true ?c_Book_ends_true ?k_Book_ends_true ?a_Book_set_flag ?i_Book_set_flag ?l_Book_set_flag ?c_Book_set_flag ?k_Book_set_flag ?a_Book_twin ?i_Book_twin ?l_Book_twin ?c_Book_twin ?k_Book_twin ?a_Book_listed ?i_Book_listed ?l_Book_listed ?c_Book_listed ?k_Book_listed ?a_Book_eq ?i_Book_eq ?l_Book_eq ?c_Book_eq ?k_Book_eq ?a_Book_len ?i_Book_len ?l_Book_len ?c_Book_len ?k_Book_len ?a_OPERATIONS ?l_OPERATIONS ?z_OPERATIONS ?v_OPERATIONS ?a_FLAGS ?l_FLAGS ?z_FLAGS ?v_FLAGS ?a_MENUS ?l_MENUS ?y_MENUS ?g_MENUS_truth ?l_MENUS_truth ?z_MENUS_truth ?v_MENUS_truth ?g_MENUS_size ?l_MENUS_size ?z_MENUS_size ?v_MENUS_size ?g_MENUS_each ?l_MENUS_each ?z_MENUS_each ?v_MENUS_each ?g_MENUS_turned ?l_MENUS_turned ?z_MENUS_turned ?v_MENUS_turned ?g_MENUS_hash ?l_MENUS_hash ?z_MENUS_hash ?v_MENUS_hash ?g_MENUS_call ?l_MENUS_call ?z_MENUS_call ?v_MENUS_call ?g_MENUS_member ?l_MENUS_member ?z_MENUS_member ?v_MENUS_member ?g_MENUS_like ?l_MENUS_like ?z_MENUS_like ?v_MENUS_like ?g_MENUS_unlike ?l_MENUS_unlike ?z_MENUS_unlike ?v_MENUS_unlike ?g_MENUS_before ?l_MENUS_before ?z_MENUS_before ?v_MENUS_before ?g_MENUS_behind ?l_MENUS_behind ?z_MENUS_behind ?v_MENUS_behind ?g_MENUS_grow ?l_MENUS_grow ?z_MENUS_grow ?v_MENUS_grow
    (case a1 => k_is)
    (case l1 => k_is)
    (case c1 => k_is)
    (case k1 => k_is)
    (case a2 => k_is)
    (case l2 => k_is)
    (case c2 => k_is)
    (case k2 => k_is)
    (case a3 => k_is)
    (case l3 => k_is)
    (case c3 => k_is)
    (case k3 => k_is)
    (case a4 => k_is)
    (case l4 => k_is)
    (case c4 => k_is)
    (case k4 => k_is)
    (case a5 => k_is)
    (case l5 => k_is)
    (case c5 => k_is)
    (case k5 => k_is)
    (case a6 => k_is)
    (case l6 => k_is)
    (case c6 => k_is)
    (case k6 => k_is)
    (case a7 => k_is)
    (case l7 => k_is)
    (case c7 => k_is)
    (case k7 => k_is)
    (case a8 => k_is)
    (case l8 => k_is)
    (case c8 => k_is)
    (case k8 => k_is)
    (case a9 => k_is)
    (case l9 => k_is)
    (case c9 => k_is)
    (case k9 => k_is)
    (case a10 => k_is)
    (case l10 => k_is)
    (case c10 => k_is)
    (case k10 => k_is)
    (case a11 => k_is)
    (case l11 => k_is)
    (case c11 => k_is)
    (case k11 => k_is)
    (case a12 => k_is)
    (case l12 => k_is)
    (case c12 => k_is)
    (case k12 => k_is)
    (case a13 => k_is)
    (case l13 => k_is)
    (case c13 => k_is)
    (case k13 => k_is)
    (case a14 => k_is)
    (case l14 => k_is)
    (case c14 => k_is)
    (case k14 => k_is)
    (case a15 => k_is)
    (case l15 => k_is)
    (case c15 => k_is)
    (case k15 => k_is)
    (case z_int => k_is)
    (case z_len => k_is)
    (case z_max => k_is)
    (case z_min => k_is)
    (case z_isinstance => k_is)
    (case z_range => k_is)
    (case z_list => k_is)
    (case z_dict => k_is)
    (case z_tuple => k_is)
    (case z_set => k_is)
    (case z_str => k_is)
    (case z_bool => k_is)
    (case z_repr => k_is)
    (case z_all => k_is)
    (case aA => k_is)
    (case hsp => k_is)
    (case htk => k_is)
    (case aC_NoName => k_is)
    (case xL_NoName => k_is)
    (case sa_NoName => k_is)
    (case eC_NoName => k_is)
    (case tC_NoName => k_is)
    (case kC_NoName => k_is)
    (case ga_NoName => k_is)
    (case gg_NoName => k_is)
    (case hC_NoName => k_is)
    (case hcl_NoName => k_is)
    (case hmr_NoName => k_is)
    (case nf_NoName => k_is)
    (case cC_NoName => k_is)
    (case sC_NoName => k_is)
    (case iI_NoName => k_is)
    (case tI_NoName => k_is)
    (case lI_NoName => k_is)
    (case cI_NoName => k_is)
    (case kI_NoName => k_is)
    (case aC_NoWays => k_is)
    (case xL_NoWays => k_is)
    (case sa_NoWays => k_is)
    (case eC_NoWays => k_is)
    (case tC_NoWays => k_is)
    (case kC_NoWays => k_is)
    (case ga_NoWays => k_is)
    (case gg_NoWays => k_is)
    (case hC_NoWays => k_is)
    (case hcl_NoWays => k_is)
    (case hmr_NoWays => k_is)
    (case nf_NoWays => k_is)
    (case cC_NoWays => k_is)
    (case sC_NoWays => k_is)
    (case iI_NoWays => k_is)
    (case tI_NoWays => k_is)
    (case lI_NoWays => k_is)
    (case cI_NoWays => k_is)
    (case kI_NoWays => k_is)
    (case aC_NoFlag => k_is)
    (case xL_NoFlag => k_is)
    (case sa_NoFlag => k_is)
    (case eC_NoFlag => k_is)
    (case tC_NoFlag => k_is)
    (case kC_NoFlag => k_is)
    (case ga_NoFlag => k_is)
    (case gg_NoFlag => k_is)
    (case hC_NoFlag => k_is)
    (case hcl_NoFlag => k_is)
    (case hmr_NoFlag => k_is)
    (case nf_NoFlag => k_is)
    (case cC_NoFlag => k_is)
    (case sC_NoFlag => k_is)
    (case iI_NoFlag => k_is)
    (case tI_NoFlag => k_is)
    (case lI_NoFlag => k_is)
    (case cI_NoFlag => k_is)
    (case kI_NoFlag => k_is)
    (case aK_Book => k_is)
    (case pg_Book => k_is)
    (case hd_Book => k_is)
    (case po_Book => k_is)
    (case sa_Book => k_is)
    (case mk_Book => k_is)
    (case kc_Book => k_is)
    (case ne_Book => k_is)
    (case ob_Book => k_is)
    (case hc_Book => k_is)
    (case dq_Book => k_is)
    (case cC_Book => k_is)
    (case tC_Book => k_is)
    (case n_Book__ways => k_is)
    (case n_Book__flags => k_is)
    (case s_Book_NoneType => k_is)
    (case s_Book_int => k_is)
    (case s_Book_dict => k_is)
    (case s_Book_list => k_is)
    (case s_Book_str => k_is)
    (case rd_Book => k_is)
    (case ga_Book => k_is)
    (case a_Book_init => k_is)
    (case i_Book_init => k_is)
    (case l_Book_init => k_is)
    (case c_Book_init => k_is)
    (case k_Book_init => k_is)
    (case a_Book_full => k_is)
    (case b_Book_full => k_is)
    (case l_Book_full => k_is)
    (case c_Book_full => k_is)
    (case k_Book_full => k_is)
    (case a_Book_bare => k_is)
    (case b_Book_bare => k_is)
    (case l_Book_bare => k_is)
    (case c_Book_bare => k_is)
    (case k_Book_bare => k_is)
    (case a_Book_getitem => k_is)
    (case i_Book_getitem => k_is)
    (case l_Book_getitem => k_is)
    (case c_Book_getitem => k_is)
    (case k_Book_getitem => k_is)
    (case a_Book_setitem => k_is)
    (case i_Book_setitem => k_is)
    (case l_Book_setitem => k_is)
    (case c_Book_setitem => k_is)
    (case k_Book_setitem => k_is)
    (case a_Book_bars_hash => k_is)
    (case d_Book_bars_hash => k_is)
    (case e_Book_bars_hash => k_is)
    (case b_Book_bars_hash => k_is)
    (case l_Book_bars_hash => k_is)
    (case c_Book_bars_hash => k_is)
    (case k_Book_bars_hash => k_is)
    (case a_Book_ends_same => k_is)
    (case d_Book_ends_same => k_is)
    (case e_Book_ends_same => k_is)
    (case b_Book_ends_same => k_is)
    (case l_Book_ends_same => k_is)
    (case c_Book_ends_same => k_is)
    (case k_Book_ends_same => k_is)
    (case a_Book_ends_true => k_is)
    (case d_Book_ends_true => k_is)
    (case e_Book_ends_true => k_is)
    (case b_Book_ends_true => k_is)
    (case l_Book_ends_true => k_is)
    (case c_Book_ends_true => k_is)
    (case k_Book_ends_true => k_is)
    (case a_Book_set_flag => k_is)
    (case i_Book_set_flag => k_is)
    (case l_Book_set_flag => k_is)
    (case c_Book_set_flag => k_is)
    (case k_Book_set_flag => k_is)
    (case a_Book_twin => k_is)
    (case i_Book_twin => k_is)
    (case l_Book_twin => k_is)
    (case c_Book_twin => k_is)
    (case k_Book_twin => k_is)
    (case a_Book_listed => k_is)
    (case i_Book_listed => k_is)
    (case l_Book_listed => k_is)
    (case c_Book_listed => k_is)
    (case k_Book_listed => k_is)
    (case a_Book_eq => k_is)
    (case i_Book_eq => k_is)
    (case l_Book_eq => k_is)
    (case c_Book_eq => k_is)
    (case k_Book_eq => k_is)
    (case a_Book_len => k_is)
    (case i_Book_len => k_is)
    (case l_Book_len => k_is)
    (case c_Book_len => k_is)
    (case k_Book_len => k_is)
    (case a_OPERATIONS => k_is)
    (case l_OPERATIONS => k_is)
    (case z_OPERATIONS => decide +kernel)
    (case v_OPERATIONS => repeat (first | exact .nil | refine .cons ⟨_, rfl⟩ ?_))
    (case a_FLAGS => k_is)
    (case l_FLAGS => k_is)
    (case z_FLAGS => decide +kernel)
    (case v_FLAGS => repeat (first | exact .nil | refine .cons ⟨_, rfl⟩ ?_))
    (case a_MENUS => k_is)
    (case l_MENUS => k_is)
    (case y_MENUS => repeat (first | exact Ab.kl_nil | refine Ab.kl_cons ?_))
    (case g_MENUS_truth => k_is)
    (case l_MENUS_truth => k_is)
    (case z_MENUS_truth => decide +kernel)
    (case v_MENUS_truth => repeat (first | exact .nil | refine .cons ⟨_, rfl⟩ ?_))
    (case g_MENUS_size => k_is)
    (case l_MENUS_size => k_is)
    (case z_MENUS_size => decide +kernel)
    (case v_MENUS_size => repeat (first | exact .nil | refine .cons ⟨_, rfl⟩ ?_))
    (case g_MENUS_each => k_is)
    (case l_MENUS_each => k_is)
    (case z_MENUS_each => decide +kernel)
    (case v_MENUS_each => repeat (first | exact .nil | refine .cons ⟨_, rfl⟩ ?_))
    (case g_MENUS_turned => k_is)
    (case l_MENUS_turned => k_is)
    (case z_MENUS_turned => decide +kernel)
    (case v_MENUS_turned => repeat (first | exact .nil | refine .cons ⟨_, rfl⟩ ?_))
    (case g_MENUS_hash => k_is)
    (case l_MENUS_hash => k_is)
    (case z_MENUS_hash => decide +kernel)
    (case v_MENUS_hash => repeat (first | exact .nil | refine .cons ⟨_, rfl⟩ ?_))
    (case g_MENUS_call => k_is)
    (case l_MENUS_call => k_is)
    (case z_MENUS_call => decide +kernel)
    (case v_MENUS_call => repeat (first | exact .nil | refine .cons ⟨_, rfl⟩ ?_))
    (case g_MENUS_member => k_is)
    (case l_MENUS_member => k_is)
    (case z_MENUS_member => decide +kernel)
    (case v_MENUS_member => repeat (first | exact .nil | refine .cons ⟨_, rfl⟩ ?_))
    (case g_MENUS_like => k_is)
    (case l_MENUS_like => k_is)
    (case z_MENUS_like => decide +kernel)
    (case v_MENUS_like => repeat (first | exact .nil | refine .cons ⟨_, rfl⟩ ?_))
    (case g_MENUS_unlike => k_is)
    (case l_MENUS_unlike => k_is)
    (case z_MENUS_unlike => decide +kernel)
    (case v_MENUS_unlike => repeat (first | exact .nil | refine .cons ⟨_, rfl⟩ ?_))
    (case g_MENUS_before => k_is)
    (case l_MENUS_before => k_is)
    (case z_MENUS_before => decide +kernel)
    (case v_MENUS_before => repeat (first | exact .nil | refine .cons ⟨_, rfl⟩ ?_))
    (case g_MENUS_behind => k_is)
    (case l_MENUS_behind => k_is)
    (case z_MENUS_behind => decide +kernel)
    (case v_MENUS_behind => repeat (first | exact .nil | refine .cons ⟨_, rfl⟩ ?_))
    (case g_MENUS_grow => k_is)
    (case l_MENUS_grow => k_is)
    (case z_MENUS_grow => decide +kernel)
    (case v_MENUS_grow => repeat (first | exact .nil | refine .cons ⟨_, rfl⟩ ?_))
